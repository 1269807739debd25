import PyProof.Rows.All
import Wide.All
import OpenK.AllK
import Wide.FinOn
import Lean
import PyProof.EqAt
import PyProof.EqKinds
import PyProof.TupleCall
import PySem.Challenge.RW_bellferry_k28_whole_standing_still
import PyProof.Rows.SetFrom
import PyProof.FactsAll.set_1
import PyProof.CollectWalk
import PyProof.Rows.SortStr
import PyProof.IsiH_list
import PyProof.ConsumeWalk
import PyProof.StrWalks
import PyProof.IsiH_tuple
import PyProof.SliceStr2
import PyProof.ListRange
import PyProof.Rows.Range3
import PyProof.Rows.CallKwBuiltin
import PyProof.WalkInts
import PyProof.FString5
set_option Elab.async false
set_option linter.all false
set_option maxRecDepth 100000
set_option maxHeartbeats 8000000
set_option genSizeOf false
set_option genSizeOfSpec false
noncomputable section
set_option bootstrap.genMatcherCode false
set_option compiler.extract_closed false
open PySem renaming Value→X0, World→Xj, Program→Xm, sysModules→YU, mainGlobals→Xf, bootBuiltins→YF, Around→Xs, Shared→X1, GenState→UI, wpAny→X4, model→X9, backTo→Ys, starEach→XL, wpAny_mono→Ul, wpAny_truthy_bool→Um, swapsWith→V4, assignEach→Uo, wpAny_bind→X3, wpAny_holding→YL, wpAny_passesOwn→Vt, letOwnedTupleGo→B7, wpAny_pure→Xb, wpAny_load→W6, rawInt→Y4, foldedSetIterable→B8, Operator→UJ, binaryOp→Z6, compareOp→Y2, CmpOp→Yw, behindInMarks→WT, FuncData→Xn, codeAny→Z7, codeAny_mono→WU, wpAny_Call_Name_kw→Vu, Keyword→Up, NameKind→Z8, wpAny_callSpecial?_slot→B9, wpAny_call_entry→Z9, wpAny_typeOf→Uq, wpAny_newObj_type→UK, typeLookup→W7, sliceBounds→Z2, attributeBase→WV, valueAt→Z3, tupleKind_room_in1→Ba, PyData→Yx, wpAny_richCompare_same_room→W8, wpAny_loadPart'→Yl, plainId_quiet→Ub, codeAny_builtin→Za, codeAny_call_builtin→WW, wpAny_dictEntries→Bb, wpAny_notOrdered_dict→Bc, wpAny_isInstance→V5, SetTable→Yy, wpAny_setState_of→WX, wpAny_rule→V6, wpAny_askSetting→WY, wpAny_pyIter_list→Bd, typeLookup_type→W9, builtinLookup_eq_fast→Wa, wpAny_setField→Wb, ownMembersOf→YV, getattributeRaised→Be
open List renaming getElem?_eq_getElem→X8, length_map→X7, getElem?_eq_some_iff→XE, getElem?_map→Xo, mem_of_getElem?→XG, mem_cons→Xu, map_cons→XA, getD_eq_getElem?_getD→Ym, size_toArray→XT, mem_cons_of_mem→Y5, length_append→Y0, mem_singleton→Y6, getElem_mem→XY, mem_cons_self→Ya, getD_cons_succ→Yh, getD_cons_zero→Yi, getElem_of_mem→Yn, nil_append→Y7, not_mem_nil→Yd, cons_append→Ye, mem_map→XU, range→XM, mem_append→Yf, getElem?_append_left→Uc, length_take→Yz, map_nil→Y8, map_map→Y9, length_cons→YG, getElem?_append_right→UL, map_append→YD, getElem?_eq_none→Ud, length_range→YW, nodup_cons→YH, mem_append_right→Ur, length_singleton→Us, nodup_append→Zb, take_of_length_le→V7, lookup_cons→Ut, take_add_one→UM, length_zip→Uu, filterMap_cons_some→WZ, length_drop→V8, eq_nil_of_length_eq_zero→Bf, any_cons→Uv, getElem?_inj→Vv, mem_range→V9, getElem?_take_of_lt→Bg, replicate→Vw, drop_eq_nil_of_le→Bh, append_nil→Wc, find?_cons→Wd, foldl_cons→We, all_cons→Vx, append_assoc→A0, ext_getElem?→A1, getElem?_set→A3, getElem?_eq_none_iff→CF, mem_or_eq_of_mem_set→CG, mem_filter→A5, length_set→A6, length_eq_zero_iff→CH, length_replicate→CI, take_length→Bi, mem_append_left→CJ, mem_of_mem_take→CK, filterMap_cons→CL, getD→Va, length_eraseIdx_of_lt→FP, mem_filterMap→CM, drop_zero→Bj, getElem?_zip_eq_some→FQ, pairwise_iff_getElem→FR, take_sublist→CN, foldl_append→CO, idxOf_lt_length_iff→FS, getElem?_replicate→FT, getElem_map→CP, getElem?_set_self→FU, of_mem_zip→CQ, map_id'→Bk, map_set→Bl, map→A7
open PySem.W renaming Frag→X6, fnOf→Xa, nsIn→Xi, keepIn→Xq, mg_of→Xp, codeIn→Xt, mg_none_of→Z4, kia_one→Ue, kia_tup→Uf, emptyDict→Vb, instObj→Vy, kitOne→Vz, findIn→Wf, kitx_list→Bm, kitx_dict→Bn, kitAny→Bo, methodObj→CS, cellsFrom_some→FV, OpenLaw→CT, lookIn→CU
open PySem.Heap renaming get?_push_of_some→Xr, get?_push_size→XR, lt_size→Xv, get?_update_self→VA, size_push→Ug, get?_update_other→Wg, SameBut→Vc, ExtBut→Bp
open Bool renaming false_ne_true→XF, false_eq_true→Yt, and_eq_true→YA, or_self→Wh, not_true→A8, eq_iff_iff→Bq, not_false→Br, true_or→Bs, or_true→Bt, false_and→CV, and_false→CW
open Nat renaming le_refl→Xl, ne_of_lt→XH, lt_of_lt_of_le→YM, le_trans→Y3, zero_le→YN, lt_succ_of_lt→Vd, le_succ→Ve, ne_of_gt→VB, lt_trans→VC, lt_succ_iff_lt_or_eq→CY, lt_irrefl→Wi, le_of_eq→Wj, lt_succ_self→Bu, min_eq_right→CZ, le_of_lt→Bv, not_lt_zero→D0, sub_zero→Bw, min_eq_left→D3
open Array renaming length_toList→XW, getElem?_eq_getElem→VD, toList_append→Bx, getElem?_eq_none→D4, getElem?_toList→FW
open PySem.Value renaming none→Xw, type→XJ, ref→XC, str→XI, bool→Yj, int→A9
open Int renaming emod_lt_of_pos→YB, emod_nonneg→Yo, toNat_of_nonneg→Vf, toNat_natCast→UN
open Option.some renaming inj→Yg, injEq→By
open PySem.Str renaming ofString→XX, empty→Aa, length→Bz
open Sum renaming inr→XB, inl→VE
open PySem.NameKind renaming free→Yu, cell→Wk
open PySem.Around renaming under_plainId→Uh
open PyProof.Rows renaming callWith_type1→VF, slot_tuple_getitem→Wl, callWith_builtin1→FX
open PySem.Heap.SameBut renaming update→UO
open PySem.Builtin.Str renaming glued→Uw, strSliceIndices→BA, tooLong→FY
open PySem.Builtin.Range renaming rangeSize→Wm, small→FZ
open False renaming elim→YI
open PySem.Builtin.Tuple renaming tupleCompareSizes→BB, tupleExact→BC, tupleItemsOf→G0, tupleIsExact→G1
open True renaming intro→YO
open PySem renaming mem_of_lookup→Wn
open PySem.Builtin.Slice renaming slicePlaces→BD, sliceAdjust→D6, sliceApplied→G2
open PySem.Builtin.Dict renaming dictSlotArgs→BE, updateFrom→BF, selfAndRest→G3, samePairs→G4
open PySem.F renaming slot_tuple_getattribute→BG, slot_list_getattribute→BH, called_set→Vg, slot_dict_keyiterator_iter→G5, args_tuple_add_2→G6, entry_tuple_add→G7, slot_tuple_add→G8, sub_dict_dict→G9, slot_str_join→Ga, slot_list_pop→Gb, type_list_pop→Gc, slot_dict_get→Gd, type_dict_get→Ge, slot_dict_eq→Gf, slot_dict_ne→Gg, slot_list_eq→D7, slot_list_ne→D8
open PySem.Data renaming fields→Ux, seq→Z5
open Iff renaming rfl→Yp
open PySem.SetTable renaming grown→VG, below→BJ
open PySem.Calls renaming spliced_cons→Ab, spliced_nil→Ac, Name_function_global→Gh, callWith_builtin→Gi
open PySem.Manifest renaming find?→Wo
open PySem.Obj renaming mapSeq→UP, data_mapFields→BK, isFreed_of_fields→D9, cls_mapFields→Da, mapFields→Db
open PySem.Builtin.List renaming listTooLong→Dc, listExtendWith→Gj, listSameRef→Gk
open Option renaming map_eq_some_iff→Dd, toList_some→De, isSome_map→Df
open Sum.inr renaming inj→VH
open PySem.Shared renaming TypeIs→Ad
open ForInStep renaming yield→BL
open Nat.succ renaming inj→Ae
open Ne renaming symm→Ui
open PySem.AutoSeq1 renaming sub_tuple_tuple→Gm, sub_list_list→Gn
open PySem.Builtin.Frozenset renaming sizeOf→Go
open PySem.SeqAt.EqAt renaming int_str→Gp, str_int→Gq
open PySem.Heap.IsSliceOf renaming new→Gr
open PySem.ScopeKind renaming function→Gs
open PySem.SetTable.below renaming go→Gu
open Char renaming toNat→BM
open List.Pairwise renaming imp→Gv
open PySem.IsRange renaming new→Dg
open PySem.Heap.DictOf renaming new→Gw
namespace L2
open PySem PySem.Spec PyProof.Rows
theorem nl0 {α:Type _}{p:α->Prop}:∀x∈([]:List α),p x:=λ_ h=>nomatch h
theorem fMc{α:Type _}{p:α->Prop}{a:α}{l:List α}(h:p a/\∀x∈l,p x):∀x∈a::l,p x:=List.forall_mem_cons.2 h
noncomputable abbrev Key:=Sum Int Str
noncomputable def Wp:Key->X0->Bool
 |.inl k,v=>Value.isInt k v
 |.inr x,v=>Value.isStrOf x v
noncomputable def keyH(w:Xj):Key->Int
 |.inl k=>hashInt k
 |.inr x=>hashStr w x
theorem Uy:∀{k:Key} {v:X0},Wp k v=true->(∃i t,k=VE i/\v=A9 i t)\/(∃x t,k=XB x/\v=XI x t)
 |.inl i,v,h=>by
  obtain⟨t,e⟩:=Value.isInt_shape (k:=i) (v:=v) h;exact .inl ⟨i,t,rfl,e⟩
 |.inr x,v,h=>by
  obtain⟨t,e⟩:=Value.isStrOf_shape (x:=x) (v:=v) h;exact .inr ⟨x,t,rfl,e⟩
theorem PK(i:Int)(t:Tok):Wp (.inl i) (.int i t)=true:=by simp[Wp,Value.isInt]
theorem PL(x:Str)(t:Tok):Wp (.inr x) (.str x t)=true:=by simp[Wp,Value.isStrOf]
theorem PM(a b:Int):decide ((VE a:Key)=VE b)=(a==b):=by
 by_cases e:a=b
 ·subst e;simp
 ·have h:¬(VE a:Key)=VE b:=λq=>e (Sum.inl.inj q);rw[decide_eq_false h];exact(beq_eq_false_iff_ne.mpr e).symm
theorem PN(a b:Str):decide ((XB a:Key)=XB b)=decide (a=b):=by
 by_cases e:a=b
 ·subst e;simp
 ·have h:¬(XB a:Key)=XB b:=λq=>e (VH q);rw[decide_eq_false h,decide_eq_false e]
theorem PP(a:Int)(b:Str):decide ((VE a:Key)=XB b)=false:=decide_eq_false (λq=>nomatch q)
theorem PQ(a:Str)(b:Int):decide ((XB a:Key)=VE b)=false:=decide_eq_false (λq=>nomatch q)
noncomputable def YC(prog:Xm)(w:Xj):PySem.KeyKind prog w Key where
 is:=Wp
 hash:=keyH w
 inj:=λv a b ha hb=>by
  rcases Uy ha with⟨i,t,rfl,rfl⟩|⟨x,t,rfl,rfl⟩
  ·rcases Uy hb with⟨j,u,rfl,e⟩|⟨y,u,rfl,e⟩
   ·injection e with e1 _;rw[e1]
   ·exact nomatch e
  ·rcases Uy hb with⟨j,u,rfl,e⟩|⟨y,u,rfl,e⟩
   ·exact nomatch e
   ·injection e with e1 _;rw[e1]
 byValue:=λk v h=>by
  rcases Uy h with⟨i,t,rfl,rfl⟩|⟨x,t,rfl,rfl⟩<;>rfl
 pyHash:=λhv h=>by
  rcases Uy hv with⟨i,t,rfl,rfl⟩|⟨x,t,rfl,rfl⟩
  ·exact wpAny_pyHash_int h
  ·exact wpAny_pyHash_str h
 eqBool:=λhu hv h=>by
  rcases Uy hu with⟨i,t,rfl,rfl⟩|⟨x,t,rfl,rfl⟩
  ·rcases Uy hv with⟨j,u,rfl,rfl⟩|⟨y,u,rfl,rfl⟩
   ·rw[PM]at h;exact wpAny_eqBool_int h
   ·rw[PP]at h;exact Gp i t y u _ _ _ _ h
  ·rcases Uy hv with⟨j,u,rfl,rfl⟩|⟨y,u,rfl,rfl⟩
   ·rw[PQ]at h;exact Gq x t j u _ _ _ _ h
   ·rw[PN]at h;exact wpAny_eqBool_str h
 «strs»:=λk x t v h=>by
  rcases Uy h with⟨i,u,rfl,e⟩|⟨y,u,rfl,e⟩
  ·exact nomatch e
  ·injection e with e1 _;subst e1;cases v<;>rfl
theorem PR(prog:Xm)(w:Xj)(i:Int)(t:Tok):(YC prog w).is (.inl i) (.int i t)=true:=PK i t
theorem PU(prog:Xm)(w:Xj)(x:Str)(t:Tok):(YC prog w).is (.inr x) (.str x t)=true:=PL x t
inductive V where
 |non|bl (b:Bool)|int (i:Int)|str (x:Str)|byt (b:Array UInt8)|flt (b:UInt64)|ref (a:Addr)|ty (n:String)
  deriving DecidableEq
noncomputable def RelV:V->X0->Prop
 |.non,u=>u=Xw
 |.bl b,u=>u=Yj b
 |.int i,u=>∃t,u=A9 i t
 |.str x,u=>∃t,u=XI x t
 |.byt b,u=>∃t,u=Value.bytes b t
 |.flt b,u=>∃t,u=Value.float b t
 |.ref a,u=>u=XC a
 |.ty n,u=>u=XJ n
noncomputable abbrev Vals:List V->List X0->Prop:=Paired RelV
theorem Vals.length{xs:List V}{us:List X0}(r:Vals xs us):xs.length=us.length:=Paired.length r
theorem Vals.get:∀{xs:List V} {us:List X0} {i:Nat} {x:V},Vals xs us->xs[i]?=some x->∃u,us[i]?=some u/\RelV x u
 |_,_,_,_,.nil,e=>by simp at e
 |_,_,0,_,.cons r _,e=>by simp at e;subst e;exact⟨_,rfl,r⟩
 |_,_,i+1,x,.cons _ t,e=>by
  obtain⟨u,h1,h2⟩:=Vals.get (i:=i) (x:=x) t (by simpa using e)
  exact⟨u,by simpa using h1,h2⟩
theorem Vals.set{x:V}{u:X0}(r:RelV x u):∀{xs:List V} {us:List X0} (i:Nat),Vals xs us->Vals (xs.set i x) (us.set i u)
 |_,_,_,.nil=>.nil
 |_,_,0,.cons _ t=>.cons r t
 |_,_,i+1,.cons q t=>.cons q (Vals.set r i t)
theorem Vals.append:∀{xs ys:List V} {us ws:List X0},Vals xs us->Vals ys ws->Vals (xs++ys) (us++ws)
 |_,_,_,_,.nil,s=>s
 |_,_,_,_,.cons r t,s=>.cons r (Vals.append t s)
theorem Vals.take:∀{xs:List V} {us:List X0} (n:Nat),Vals xs us->Vals (xs.take n) (us.take n)
 |_,_,0,_=>.nil
 |_,_,_+1,.nil=>.nil
 |_,_,n+1,.cons r t=>.cons r (Vals.take n t)
theorem Vals.drop:∀{xs:List V} {us:List X0} (n:Nat),Vals xs us->Vals (xs.drop n) (us.drop n)
 |_,_,0,r=>r
 |_,_,_+1,.nil=>.nil
 |_,_,n+1,.cons _ t=>Vals.drop n t
noncomputable def RelO:Option V->Option X0->Prop
 |some v,some u=>RelV v u
 |none,none=>True
 |_,_=>False
noncomputable def KV{κ:Type}:List (κ×V)->List (κ×X0)->Prop:=Paired fun(p:κ×V) (q:κ×X0)=>p.1=q.1/\RelV p.2 q.2
noncomputable def kV:Key->V
 |.inl i=>.int i
 |.inr x=>.str x
inductive HO where
 |lst (xs:List V)
 |tup (xs:List V)
 |dK (kvs:List (Key×V))|dT (kvs:List (List Key×V))
 |set (S:Int->Bool) (n:Nat)
 |ins (C dx:Addr) (fs:List (Str×V))
 |own (x:Addr)
 |xd (fs:List (Str×V))
 |met (f x:Addr)
 |rng (lo hi:Int)
 |frz (o:Obj) (u:HO)
 |tbl (ps:Array X0)
 |ext (φ:Heap->Prop)
noncomputable abbrev Hp:=Addr->Option HO
noncomputable def upd(H:Hp)(a:Addr)(o:HO):Hp:=λb=>if b=a then some o else H b
theorem Uj{H:Hp}{a:Addr}{o:HO}:upd H a o a=some o:=by unfold upd;rw[if_pos rfl]
theorem XN{H:Hp}{a b:Addr}{o:HO}(h:b≠a):upd H a o b=H b:=by unfold upd;rw[if_neg h]
theorem Gx{H:Hp}{a b:Addr}{o u:HO}(h:H a=some o)(h':H b=some u)(d:o≠u):a≠b:=by
 intro e;subst e;rw[h]at h';exact d (Yg h')
theorem VI{H:Hp}{a b:Addr}{o:HO}(h:H a=some o)(h':H b=none):a≠b:=by
 intro e;subst e;rw[h]at h';cases h'
section
variable(P:Xm)(w:Xj)
noncomputable def ObjOk(H:Hp)(h:Heap)(a:Addr):HO->Prop
 |.lst xs=>xs.length≤sizeLine/\∃(its:List X0) (n:Nat),Vals xs its/\h.get? a=some {cls:=.type "list",data:=.seq its.toArray n}
 |.tup xs=>xs.length≤sizeLine/\∃its:List X0,Vals xs its/\IsTup h a its.toArray/\∃o,h.get? a=some o/\o.dict=none
 |.dK kvs=>kvs.length≤sizeLine/\(a==YU)=false/\∃vs,KV kvs vs/\h.DictOf (YC P w) a vs
 |.dT kvs=>kvs.length≤sizeLine/\(a==YU)=false/\∃xs:List (List Key×Addr×X0),
   Paired (fun(p:List Key×V) (q:List Key×Addr×X0)=>p.1=q.1/\H q.2.1=some (.tup (p.1.map kV))/\RelV p.2 q.2.2) kvs xs/\
   ∃o es ep,h.get? a=some o/\o.ExactDict/\o.data=.dict es ep/\es.toList=xs.map (entryOfKey (tupleKind (YC P w)))/\(xs.map (·.1)).Nodup
 |.set S n=>h.SetOf (intKind P w) a S n
 |.ins C dx fs=>H dx=some (.own a)/\fs.length≤1000/\dx≠a/\h.get? a=some (Vy C dx)/\
   ∃mA,h.Ns1 dx mA/\(∀f,RelO (fs.lookup f) (mA f))/\PySem.Within mA (fs.map (·.1))
 |.own _=>∃o,h.get? a=some o
 |.xd fs=>∃mA,h.Ns1 a mA/\∀f,RelO (fs.lookup f) (mA f)
 |.rng lo hi=>∃t u v,h.get? a=some {cls:=.type "range",data:=.fields #[.int lo t,.int hi u,.int 1 v]}
 |.frz o u=>h.get? a=some o/\ObjOk H h a u
 |.tbl ps=>h.get? a=some {cls:=.none,data:=.fields ps}
 |.met f x=>h.get? a=some (CS (.ref f) (.ref x))
 |.ext φ=>φ h/\(∃o,h.get? a=some o)/\∀h1 h2:Heap,φ h1->(∀o,h1.get? a=some o->h2.get? a=some o)->φ h2
noncomputable def HOk(H:Hp)(h:Heap):Prop:=∀a o,H a=some o->ObjOk P w H h a o
end
section
variable{P:Xm}{w:Xj}{H H':Hp}{h h':Heap}{a:Addr}{o:HO}
theorem ObjOk.lt(x:ObjOk P w H h a o):a<h.objs.size:=by
 cases o with
 |lst xs=>obtain⟨_,_,_,_,e⟩:=x;exact Xv e
 |tup xs=>obtain⟨_,_,_,p⟩:=x;exact p.1.lt
 |dK kvs=>obtain⟨_,_,_,_,o,_,_,e,_⟩:=x;exact Xv e
 |dT kvs=>obtain⟨_,_,_,_,o,_,_,e,_⟩:=x;exact Xv e
 |set S n=>obtain⟨o,_,_,_,e,_⟩:=x;exact Xv e
 |ins C dx fs=>obtain⟨_,_,_,e,_⟩:=x;exact Xv e
 |own y=>obtain⟨_,e⟩:=x;exact Xv e
 |xd fs=>obtain⟨_,⟨_,_,_,e,_⟩,_⟩:=x;exact Xv e
 |rng lo hi=>obtain⟨_,_,_,e⟩:=x;exact Xv e
 |frz ob u=>obtain⟨e,_⟩:=x;exact Xv e
 |tbl ps=>exact Xv (show h.get? a=some _ from x)
 |met f y=>exact Xv (show h.get? a=some _ from x)
 |ext φ=>obtain⟨_,⟨_,e⟩,_⟩:=x;exact Xv e
theorem Paired.mapP{α β:Type}{F G:α->β->Prop}:∀{l₁:List α} {l₂:List β},Paired F l₁ l₂->(∀a b,F a b->G a b)->Paired G l₁ l₂
 |_,_,.nil,_=>.nil
 |_,_,.cons r t,f=>.cons (f _ _ r) (Paired.mapP t f)
theorem ObjOk.stay(x:ObjOk P w H h a o)(k:∀b u,(b=a\/H b=some (.own a))->h.get? b=some u->h'.get? b=some u)
  (ho:∀b,H b=some (.own a)->H' b=some (.own a)) (ht:∀b xs,H b=some (.tup xs)->H' b=some (.tup xs)):ObjOk P w H' h' a o:=by
 induction o with
 |lst xs=>obtain⟨z,its,n,r,e⟩:=x;exact⟨z,its,n,r,k _ _ (.inl rfl) e⟩
 |tup xs=>obtain⟨z,its,r,⟨ob,e,c⟩,o2,e2,c2⟩:=x;exact⟨z,its,r,⟨ob,k _ _ (.inl rfl) e,c⟩,o2,k _ _ (.inl rfl) e2,c2⟩
 |dK kvs=>obtain⟨z,y,vs,r,ob,es,ep,e,c⟩:=x;exact⟨z,y,vs,r,ob,es,ep,k _ _ (.inl rfl) e,c⟩
 |dT kvs=>
  obtain⟨z,y,xs,r,ob,es,ep,e,c⟩:=x;exact⟨z,y,xs,Paired.mapP r λp q z=>⟨z.1,ht _ _ z.2.1,z.2.2⟩,ob,es,ep,k _ _ (.inl rfl) e,c⟩
 |set S n=>obtain⟨ob,es,ep,t,e,c⟩:=x;exact⟨ob,es,ep,t,k _ _ (.inl rfl) e,c⟩
 |ins C dx fs=>
  obtain⟨d,z,ne,e,mA,⟨od,es,ep,e2,c⟩,r⟩:=x;exact⟨ho _ d,z,ne,k _ _ (.inl rfl) e,mA,⟨od,es,ep,k _ _ (.inr d) e2,c⟩,r⟩
 |own y=>obtain⟨ob,e⟩:=x;exact⟨ob,k _ _ (.inl rfl) e⟩
 |xd fs=>obtain⟨mA,⟨od,es,ep,e,c⟩,r⟩:=x;exact⟨mA,⟨od,es,ep,k _ _ (.inl rfl) e,c⟩,r⟩
 |rng lo hi=>obtain⟨t,u,v,e⟩:=x;exact⟨t,u,v,k _ _ (.inl rfl) e⟩
 |frz ob u ih=>obtain⟨e,q⟩:=x;exact⟨k _ _ (.inl rfl) e,ih q⟩
 |tbl ps=>
  have e:h.get? a=some {cls:=.none,data:=.fields ps}:=x;show h'.get? a=some {cls:=.none,data:=.fields ps};exact k a _ (.inl rfl) e
 |met f y=>
  have e:h.get? a=some (CS (.ref f) (.ref y)):=x;show h'.get? a=some (CS (.ref f) (.ref y));exact k a _ (.inl rfl) e
 |ext φ=>obtain⟨p,⟨o,e⟩,st⟩:=x;exact⟨st _ _ p λo q=>k _ _ (.inl rfl) q,⟨o,k _ _ (.inl rfl) e⟩,st⟩
theorem HOk.lt(x:HOk P w H h)(e:H a=some o):a<h.objs.size:=(x a o e).lt
theorem HOk.fresh(x:HOk P w H h)(e:h.objs.size≤a):H a=none:=by
 cases q:H a with
 |none=>rfl
 |some u=>exact absurd (YM (x.lt q) e) (Wi _)
theorem HOk.kept(x:HOk P w H h)(k:∀b u,h.get? b=some u->h'.get? b=some u):HOk P w H h':=λa o e=>
 (x a o e).stay (λb u _ q=>k b u q) (λ_ q=>q) λ_ _ q=>q
theorem HOk.laid(x:HOk P w H h)(k:∀b u,h.get? b=some u->h'.get? b=some u)(hp:h.objs.size≤a)(new:ObjOk P w (upd H a o) h' a o):HOk P w (upd H a o) h':=λb u e=>by
 have hn:=x.fresh hp;by_cases hb:b=a
 ·subst hb;rw[Uj]at e;cases e;exact new
 ·rw[XN hb]at e;exact(x b u e).stay (λc v _ q=>k c v q) (λc q=>by rw[XN (VI q hn)];exact q) λc xs q=>by rw[XN (VI q hn)];exact q
end
noncomputable def Rd(H:Hp)(a:Addr)(u:HO):Prop:=H a=some u\/∃o,H a=some (.frz o u)
theorem Rd.of{H:Hp}{a:Addr}{u:HO}(h:H a=some u):Rd H a u:=.inl h
theorem Rd.ok{P:Xm}{w:Xj}{H:Hp}{h:Heap}{a:Addr}{u:HO}(r:Rd H a u)(x:HOk P w H h):ObjOk P w H h a u:=by
 rcases r with r|⟨o,r⟩
 ·exact x a u r
 ·obtain⟨_,q⟩:=x a _ r;exact q
noncomputable def Mut:Option HO->Prop
 |some (.lst _)=>True
 |some (.dK _)=>True
 |some (.dT _)=>True
 |some (.set _ _)=>True
 |some (.ins _ _ _)=>True
 |some (.ext _)=>True
 |_=>False
section
variable{P:Xm}{w:Xj}{H:Hp}{h h':Heap}{x e:Addr}{o':HO}
theorem HOk.write(ok:HOk P w H h)(mu:Mut (H x))(he:e=x\/H e=some (.own x))(k:∀b u,b≠e->h.get? b=some u->h'.get? b=some u)(heo:∃u,h'.get? e=some u)
  (new:ObjOk P w (upd H x o') h' x o'):HOk P w (upd H x o') h':=λb u q=>by
 have nown:∀c y,H c=some (.own y)->c≠x:=λc y r z=>by subst z;rw[r]at mu;exact mu
 have ntup:∀c xs,H c=some (.tup xs)->c≠x:=λc xs r z=>by subst z;rw[r]at mu;exact mu
 by_cases hb:b=x
 ·subst hb;rw[Uj]at q;cases q;exact new
 ·rw[XN hb]at q;by_cases hbe:b=e
  ·have q':H b=some (.own x):=by
    rcases he with z|z
    ·exact absurd (hbe.trans z) hb
    ·rw[hbe];exact z
   rw[q]at q';cases q';obtain⟨v,hv⟩:=heo;exact⟨v,by rw[hbe];exact hv⟩
  ·refine(ok b u q).stay (λc v hc r=>k c v ?_ r) (λc r=>by rw[XN (nown c b r)];exact r) λc xs r=>by rw[XN (ntup c xs r)];exact r
   rcases hc with rfl|hc
   ·exact hbe
   ·rintro rfl;rcases he with z|z
    ·exact nown c b hc z
    ·rw[hc]at z;cases z;exact hb rfl
end
structure Un (fs ex:List Addr) (H H':Hp) (h h':Heap):Prop where
 keep:∀b o,h.get? b=some o->H b=none->b∉fs->b∉ex->h'.get? b=some o
 slot:∀b o,h.get? b=some o->H b=none->b∈fs->b∉ex->∃sl,h'.get? b=some {o with slots:=sl}
 free:∀b o,h.get? b=some o->H b=none->b∉ex->H' b=none
 there:∀b o,h.get? b=some o->b∉ex->∃o',h'.get? b=some o'
 tups:∀b xs,H b=some (.tup xs)->H' b=some (.tup xs)
 frzs:∀b o u,H b=some (.frz o u)->H' b=some (.frz o u)
 tbls:∀b ps,H b=some (.tbl ps)->∃more,H' b=some (.tbl (ps++more))
section
variable{fs fs' ex ex':List Addr}{H H1 H2:Hp}{h h1 h2 h':Heap}{a x e:Addr}{o:HO}
theorem Un.any(u:Un fs ex H H1 h h1){b:Addr}{ob:Obj}(q:h.get? b=some ob)(n:H b=none)(hx:b∉ex):∃sl,h1.get? b=some {ob with slots:=sl}:=by
 by_cases hb:b∈fs
 ·exact u.slot b ob q n hb hx
 ·exact⟨ob.slots,u.keep b ob q n hb hx⟩
theorem Un.kept(k:∀b u,h.get? b=some u->h'.get? b=some u):Un fs ex H H h h':=
 ⟨λb ob q _ _ _=>k b ob q,λb ob q _ _ _=>⟨ob.slots,k b ob q⟩,λ_ _ _ n _=>n,λb ob q _=>⟨ob,k b ob q⟩,λ_ _ q=>q,λ_ _ _ q=>q,λ_ ps q=>⟨#[],by rw[q];simp⟩⟩
theorem Un.refl:Un fs ex H H h h:=Un.kept λ_ _ q=>q
theorem Un.laid(k:∀b u,h.get? b=some u->h'.get? b=some u)(hp:h.objs.size≤a)(hn:H a=none):Un fs ex H (upd H a o) h h' where
 keep:=λb u q _ _ _=>k b u q
 slot:=λb u q _ _ _=>⟨u.slots,k b u q⟩
 free:=λb u q n _=>by rw[XN (XH (YM (Xv q) hp))];exact n
 there:=λb u q _=>⟨u,k b u q⟩
 tups:=λb xs q=>by rw[XN (VI q hn)];exact q
 frzs:=λb u xs q=>by rw[XN (VI q hn)];exact q
 tbls:=λb ps q=>⟨#[],by rw[XN (VI q hn),q];simp⟩
theorem Un.write(mu:Mut (H x))(he:e=x\/H e=some (.own x))(k:∀b u,b≠e->h.get? b=some u->h'.get? b=some u)(heo:∃u,h'.get? e=some u):Un fs ex H (upd H x o) h h':=by
 have hx:∀b,H b=none->b≠x:=λb n z=>by subst z;rw[n]at mu;exact mu
 have hb:∀b,H b=none->b≠e:=λb n z=>by
  subst z;rcases he with r|r
  ·exact hx b n r
  ·rw[n]at r;cases r
 have hm:∀b u,H b=some u->¬Mut (some u)->b≠x:=λb u q nm z=>by subst z;rw[q]at mu;exact nm mu
 refine⟨λb u q n _ _=>k b u (hb b n) q,λb u q n _ _=>⟨u.slots,k b u (hb b n) q⟩,λb u q n _=>by rw[XN (hx b n)];exact n,λb u q _=>?_,
  λb xs q=>by rw[XN (hm b _ q λz=>z)];exact q,λb u xs q=>by rw[XN (hm b _ q λz=>z)];exact q,λb ps q=>⟨#[],by rw[XN (hm b _ q λz=>z),q];simp⟩⟩
 by_cases hbe:b=e
 ·subst hbe;exact heo
 ·exact⟨u,k b u hbe q⟩
end
noncomputable def trk(h:Heap)(H:Hp):List Addr:=(XM h.objs.size).filter λa=>(H a).isSome
noncomputable def hidT(h:Heap)(H:Hp):Heap:=PySem.W.hideAll h (trk h H)
theorem PV(h:Heap)(H:Hp):(hidT h H).objs.size=h.objs.size:=PySem.W.hideAll_size _ _
theorem PX{h:Heap}{H:Hp}{b:Addr}{o:Obj}(e:h.get? b=some o)(n:H b=none):(hidT h H).get? b=some o:=
 PySem.W.hideAll_get _ e λhm=>by
  have q:(H b).isSome=true:=(A5.mp hm).2;rw[n]at q;simp at q
theorem PY{h:Heap}{H:Hp}{b:Addr}{o:Obj}(e:(hidT h H).get? b=some o):h.get? b=some o/\H b=none:=by
 have e':h.get? b=some o:=PySem.W.of_hideAll (trk h H) e;refine⟨e',?_⟩;cases q:H b with
 |none=>rfl
 |some x=>
  have hm:b∈trk h H:=A5.mpr ⟨V9.mpr (Xv e'),by simp[q]⟩
  have z:(hidT h H).get? b=none:=PySem.W.hideAll_none (trk h H) hm;rw[z]at e;cases e
noncomputable def PZ(g h:Heap)(L:Addr):List (Addr×Obj):=(XM h.objs.size).filterMap λa=>if a=L\/(g.get? a).isSome=true then none else(h.get? a).map λo=>(a,o)
noncomputable def rest(g h:Heap)(L d:Addr):List (Addr×Obj):=(PZ g h L).filter λp=>decide (p.1≠d)
structure Mod (K:X6) (mg:Str->Option X0) (base:Heap):Prop where
 kin:K.In base
 glob:base.Ns Xf mg
 blt:∃mb,base.Ns builtinsNs mb/\∀x:Str,x≠"__name__"->mb x=YF x
 nolimit:base.NoLimit
structure Cx where
 prog:Xm
 w:Xj
 K:X6
 mg:Str->Option X0
 base:Heap
 A:Xs
 N:List Str
 s₀:X1
 H₀:Hp
 env:Env
 outer:List Env
 stack:List Env
 ex:List Addr
 fn:Str->Bool
 calm:Bool
 pn:List (Addr×Obj)
 xe:X0->X1->Prop
noncomputable def frs(l:List Env):List Addr:=l.filterMap (·.frame)
noncomputable abbrev Cx.fs(X:Cx):List Addr:=frs X.outer
noncomputable def Vis(sc:Scope)(x:Str):Prop:=sc.names.lookup x=some .local\/sc.names.lookup x=some .cell\/sc.names.lookup x=some .free
noncomputable def Loc(sc:Scope)(x:Str):Prop:=sc.names.lookup x=some .local\/sc.names.lookup x=some .cell
noncomputable def Look(env:Env)(h:Heap)(m:Str->Option X0)(x:Str)(u:X0):Prop:=
 (env.kindOf x=some .local/\m x=some u)\/((env.kindOf x=some .cell\/env.kindOf x=some .free)/\∃c,env.cells.lookup x=some c/\h.IsCell c (some u))
structure Cx.Ok (X:Cx):Prop where
 mod:Mod X.K X.mg X.base
 kind:X.env.scope.kind=.function
 glob:X.env.globals=Xf
 blt:X.env.builtins=builtinsNs
 above:X.s₀.heap.objs.size≤X.env.locals
 inj:∀x y c,X.env.cells.lookup x=some c->X.env.cells.lookup y=some c->x=y
 has:∀x,(X.env.kindOf x=some .cell\/X.env.kindOf x=some .free)->∃c,X.env.cells.lookup x=some c
 cab:∀x c,X.fn x=true->X.env.cells.lookup x=some c->X.s₀.heap.objs.size≤c
 hd:X.calm=true->X.A.handled=none
 frames:X.A.frames=some X.stack
 stk:X.stack=X.outer\/(X.stack=X.env::X.outer/\X.env.frame=some X.env.locals)
 exf:∀b∈X.ex,b≠X.env.locals/\∀x c,X.env.cells.lookup x=some c->c≠b
 bs:∀b o,X.base.get? b=some o->X.s₀.heap.get? b=some o/\X.H₀ b=none
 bsz:X.base.objs.size≤X.s₀.heap.objs.size
 noex:∀b o,X.base.get? b=some o->b∉X.ex
 exfs:∀b∈X.ex,b∉X.fs
 funs:X.s₀.heap.FunFrames X.base X.outer
 frf:∀b∈X.fs,X.H₀ b=none
structure Inv (X:Cx) (pins:List (Addr×Obj)) (σ:List (Option V)) (H:Hp) (s:X1):Prop where
 ok:X.Ok
 os:s.os=X.s₀.os
 bare:AllBare s.gens
 base:Un X.fs X.ex X.H₀ H X.s₀.heap s.heap
 loc:∃m,s.heap.Ns X.env.locals m/\∀(i:Nat) (x:Str) (v:V),X.N[i]?=some x->σ[i]?=some (some v)->Vis X.env.scope x->∃u,RelV v u/\Look X.env s.heap m x u
 cell:∀x c,X.env.cells.lookup x=some c->∃v,s.heap.IsCell c v
 free:H X.env.locals=none
 freeC:∀x c,X.env.cells.lookup x=some c->H c=none
 pin:∀p∈X.pn++pins,s.heap.get? p.1=some p.2/\H p.1=none/\p.1≠X.env.locals/\p.1∉X.fs/\∀v,p.2.data≠.cell v
 hok:HOk X.prog X.w H s.heap
 len:σ.length=X.N.length
section
variable{X:Cx}{pins:List (Addr×Obj)}{σ:List (Option V)}{H H':Hp}{s:X1}{h':Heap}
theorem Cx.Ok.nofr(ok:X.Ok){b:Addr}{o:Obj}(e:X.base.get? b=some o):b∉X.fs:=λhb=>by
 have:=(ok.funs.mem hb).1;rw[e]at this;cases this
theorem Inv.bs(I:Inv X pins σ H s):∀b o,X.base.get? b=some o->s.heap.get? b=some o/\H b=none:=λb o e=>
 ⟨I.base.keep b o (I.ok.bs b o e).1 (I.ok.bs b o e).2 (I.ok.nofr e) (I.ok.noex b o e),I.base.free b o (I.ok.bs b o e).1 (I.ok.bs b o e).2 (I.ok.noex b o e)⟩
theorem Inv.bk(I:Inv X pins σ H s):∀b o,X.base.get? b=some o->s.heap.get? b=some o:=λb o e=>(I.bs b o e).1
theorem Inv.mod(I:Inv X pins σ H s):Mod X.K X.mg X.base:=I.ok.mod
theorem Inv.kIn(I:Inv X pins σ H s):X.K.In s.heap:=I.ok.mod.kin.keeps I.bk
theorem Inv.fr(I:Inv X pins σ H s):∃m,Fr X.base X.env.locals s.heap m:=
 let⟨m,hn,_⟩:=I.loc
 ⟨m,hn,I.bk,Y3 I.ok.bsz I.ok.above⟩
theorem Inv.lt(I:Inv X pins σ H s):X.env.locals<s.heap.objs.size:=let⟨_,hn,_⟩:=I.loc;hn.lt
theorem Inv.sz(I:Inv X pins σ H s):X.s₀.heap.objs.size≤s.heap.objs.size:=Y3 I.ok.above (Bv I.lt)
theorem Inv.nofs(I:Inv X pins σ H s){a:Addr}(h:s.heap.objs.size≤a):a∉X.fs:=λhb=>by
 obtain⟨_,o,ho,_⟩:=I.ok.funs.mem hb;exact absurd (YM (Xv ho) (Y3 I.sz h)) (Wi _)
theorem Inv.cne(I:Inv X pins σ H s):∀x c,X.env.cells.lookup x=some c->c≠X.env.locals:=λx c e z=>by
 obtain⟨v,o,ho,hd⟩:=I.cell x c e;obtain⟨m,⟨o',es,ep,ho',hd',_⟩,_⟩:=I.loc;rw[z,ho']at ho;cases ho;rw[hd']at hd;cases hd
theorem Inv.funs(I:Inv X pins σ H s):s.heap.FunFrames X.base X.outer:=by
 have all:∀(l:List Env),(∀b∈frs l,b∈X.fs)->X.s₀.heap.FunFrames X.base l->s.heap.FunFrames X.base l:=by
  intro l
  induction l with
  |nil=>intro _ _;trivial
  |cons env r ih=>
   intro hs hl;obtain⟨hk,⟨L,o,hf,hn,ho,hd⟩,hr⟩:=hl;have hL:L∈X.fs:=hs L (by unfold frs;rw[CL,hf];exact Ya)
   obtain⟨sl,e⟩:=I.base.slot L o ho (I.ok.frf L hL) hL λz=>I.ok.exfs L z hL;exact⟨hk,⟨L,_,hf,hn,e,hd⟩,ih (λb hb=>hs b (by unfold frs;rw[CL,hf];exact Y5 _ hb)) hr⟩
 exact all X.outer (λ_ hb=>hb) I.ok.funs
theorem Inv.stack(I:Inv X pins σ H s):s.heap.FunFrames X.base X.stack:=by
 rcases I.ok.stk with e|⟨e,hf⟩
 ·rw[e];exact I.funs
 ·rw[e];obtain⟨m,hn,_⟩:=I.loc;refine .cons (by rw[I.ok.kind];decide) hf hn ?_ I.funs
  exact Heap.get?_none_of_le (Y3 I.ok.bsz I.ok.above)
theorem Inv.stkSub(I:Inv X pins σ H s):∀b∈frs X.stack,b∈X.env.locals::X.fs:=λb hb=>by
 rcases I.ok.stk with e|⟨e,hf⟩
 ·rw[e]at hb;exact Y5 _ hb
 ·rw[e]at hb;unfold frs at hb;rw[CL,hf]at hb;exact hb
theorem Inv.stkFree(I:Inv X pins σ H s):∀b∈frs X.stack,H b=none:=λb hb=>by
 rcases Xu.mp (I.stkSub b hb)with e|hb
 ·rw[e];exact I.free
 ·obtain⟨_,o,ho,_⟩:=I.ok.funs.mem hb;exact I.base.free b o ho (I.ok.frf b hb) λz=>I.ok.exfs b z hb
theorem Inv.step{g':Array UI}{t':Nat}{d':Drawn}{ch:List Addr}(I:Inv X pins σ H s)
  (hch:∀b∈ch,(b∈X.ex\/X.s₀.heap.objs.size≤b)/\b≠X.env.locals/\(∀x c,X.env.cells.lookup x=some c->c≠b)/\∀p∈X.pn++pins,p.1≠b)
  (keep:∀b o,b≠X.env.locals->b∉X.fs->b∉ch->s.heap.get? b=some o->H b=none->h'.get? b=some o)
  (slot:∀b o,b≠X.env.locals->b∈X.fs->b∉ch->s.heap.get? b=some o->H b=none->∃sl,h'.get? b=some {o with slots:=sl}) (free:∀b o,b∉ch->s.heap.get? b=some o->H b=none->H' b=none)
  (there:∀b o,b∉ch->s.heap.get? b=some o->∃o',h'.get? b=some o')
  (tups:∀b xs,H b=some (.tup xs)->H' b=some (.tup xs)) (frzs:∀b o u,H b=some (.frz o u)->H' b=some (.frz o u)) (tbls:∀b ps,H b=some (.tbl ps)->∃more,H' b=some (.tbl (ps++more)))
  (ns:∀m,s.heap.Ns X.env.locals m->h'.Ns X.env.locals m) (hok:HOk X.prog X.w H' h') (hg:AllBare g'):
  Inv X pins σ H' {s with heap:=h',gens:=g',drawn:=d',toks:=t'}:=by
 have neL:∀b o,X.s₀.heap.get? b=some o->b≠X.env.locals:=λb o e=>XH (YM (Xv e) I.ok.above);have neC:∀b o,X.s₀.heap.get? b=some o->b∉X.ex->b∉ch:=λb o e hx hb=>by
  rcases(hch b hb).1 with z|z
  ·exact hx z
  ·exact absurd (YM (Xv e) z) (Wi _)
 have cellK:∀x c,X.env.cells.lookup x=some c->∀v,s.heap.IsCell c v->h'.IsCell c v:=λx c e v ⟨o,ho,hd⟩=>by
  have nch:c∉ch:=λz=>(hch c z).2.2.1 x c e rfl;by_cases hc:c∈X.fs
  ·obtain⟨sl,q⟩:=slot c o (I.cne x c e) hc nch ho (I.freeC x c e);exact⟨_,q,hd⟩
  ·exact⟨o,keep c o (I.cne x c e) hc nch ho (I.freeC x c e),hd⟩
 refine⟨I.ok,I.os,hg,⟨λb o e n hb hx=>?_,λb o e n hb hx=>?_,λb o e n hx=>?_,λb o e hx=>?_,λb xs e=>tups b xs (I.base.tups b xs e),λb o xs e=>frzs b o xs (I.base.frzs b o xs e),λb ps e=>?_⟩,?_,λx c e=>?_,?_,λx c e=>?_,λp hp=>?_,hok,I.len⟩
 ·exact keep b o (neL b o e) hb (neC b o e hx) (I.base.keep b o e n hb hx) (I.base.free b o e n hx)
 ·obtain⟨sl,e1⟩:=I.base.slot b o e n hb hx;obtain⟨sl',e2⟩:=slot b _ (neL b o e) hb (neC b o e hx) e1 (I.base.free b o e n hx);exact⟨sl',e2⟩
 ·obtain⟨o',e1⟩:=I.base.there b o e hx;exact free b o' (neC b o e hx) e1 (I.base.free b o e n hx)
 ·obtain⟨o',e1⟩:=I.base.there b o e hx;exact there b o' (neC b o e hx) e1
 ·obtain⟨m1,e1⟩:=I.base.tbls b ps e;obtain⟨m2,e2⟩:=tbls b _ e1;exact⟨m1++m2,by rw[e2,Array.append_assoc]⟩
 ·obtain⟨m,hn,hl⟩:=I.loc;refine⟨m,ns m hn,λi x v e1 e2 e3=>?_⟩;obtain⟨u,r,l⟩:=hl i x v e1 e2 e3;refine⟨u,r,?_⟩;rcases l with l|⟨k,c,e,z⟩
  ·exact .inl l
  ·exact .inr ⟨k,c,e,cellK x c e _ z⟩
 ·obtain⟨v,z⟩:=I.cell x c e;exact⟨v,cellK x c e v z⟩
 ·obtain⟨m,⟨o,_,_,ho,_⟩,_⟩:=I.loc;exact free _ o (λz=>(hch _ z).2.1 rfl) ho I.free
 ·obtain⟨v,o,ho,hd⟩:=I.cell x c e;exact free c o (λz=>(hch c z).2.2.1 x c e rfl) ho (I.freeC x c e)
 ·obtain⟨e,n,ne,nf,d⟩:=I.pin p hp;have nch:p.1∉ch:=λz=>(hch p.1 z).2.2.2 p hp rfl;exact⟨keep p.1 p.2 ne nf nch e n,free p.1 p.2 nch e n,ne,nf,d⟩
theorem Inv.un{t':Nat}(I:Inv X pins σ H s)(u:Un X.fs [] H H' s.heap h')(hok:HOk X.prog X.w H' h'):Inv X pins σ H' {s with heap:=h',toks:=t'}:=by
 obtain⟨m,⟨o,es,ep,ho,r⟩,_⟩:=id I.loc;obtain⟨sl,hL⟩:=u.any ho I.free (by simp)
 exact I.step (g':=s.gens) (d':=s.drawn) (ch:=[]) (λ_ z=>nomatch z) (λb o _ hb _ e n=>u.keep b o e n hb (by simp)) (λb o _ hb _ e n=>u.slot b o e n hb (by simp)) (λb o _ e n=>u.free b o e n (by simp)) (λb o _ e=>u.there b o e (by simp)) u.tups u.frzs u.tbls (λm' hm=>by
  obtain⟨o',es',ep',ho',r'⟩:=hm;rw[ho]at ho';cases ho';exact⟨_,es',ep',hL,r'⟩) hok I.bare
theorem Inv.call{g':Array UI}{t':Nat}{d':Drawn}{ch:List Addr}(I:Inv X pins σ H s)(u:Un (frs X.stack) ch H H' s.heap h')(hok:HOk X.prog X.w H' h')(hg:AllBare g')
  (hch:∀b∈ch,(b∈X.ex\/X.s₀.heap.objs.size≤b)/\b≠X.env.locals/\(∀x c,X.env.cells.lookup x=some c->c≠b)/\∀p∈X.pn++pins,p.1≠b):
  Inv X pins σ H' {s with heap:=h',gens:=g',drawn:=d',toks:=t'}:=by
 obtain⟨m,⟨o,es,ep,ho,r⟩,_⟩:=id I.loc;obtain⟨sl,hL⟩:=u.any ho I.free λz=>(hch _ z).2.1 rfl;exact I.step (ch:=ch) hch (λb o hL hb hc e n=>u.keep b o e n (λz=>(Xu.mp (I.stkSub b z)).elim hL hb) hc) (λb o _ _ hc e n=>u.any e n hc) (λb o hc e n=>u.free b o e n hc) (λb o hc e=>u.there b o e hc) u.tups u.frzs u.tbls (λm' hm=>by
  obtain⟨o',es',ep',ho',r'⟩:=hm;rw[ho]at ho';cases ho';exact⟨_,es',ep',hL,r'⟩) hok hg
theorem Inv.turned{t':Nat}{it:Addr}(I:Inv X pins σ H s)(k:∀b o,b≠it->s.heap.get? b=some o->h'.get? b=some o)(hn:H it=none)(hL:it≠X.env.locals)
  (h1:it∈X.ex\/X.s₀.heap.objs.size≤it) (h2:∀x c,X.env.cells.lookup x=some c->c≠it) (h3:∀p∈X.pn++pins,p.1≠it):Inv X pins σ H {s with heap:=h',toks:=t'}:=by
 have nit:∀b u,H b=some u->b≠it:=λb u e z=>by rw[z,hn]at e;cases e
 refine I.step (g':=s.gens) (d':=s.drawn) (ch:=[it]) (λb hb=>?_) (λb o _ _ hc e _=>k b o (λz=>hc (by simp[z])) e) (λb o _ _ hc e _=>⟨o.slots,k b o (λz=>hc (by simp[z])) e⟩) (λ_ _ _ _ n=>n)
  (λb o hc e=>⟨o,k b o (λz=>hc (by simp[z])) e⟩) (λ_ _ e=>e) (λ_ _ _ e=>e) (λb ps e=>⟨#[],by rw[e];simp⟩) (λm hm=>?_) (λb u e=>?_) I.bare
 ·have e:b=it:=by simpa using hb
  subst e;exact⟨h1,hL,h2,h3⟩
 ·obtain⟨o,es,ep,ho,r⟩:=hm;exact⟨o,es,ep,k _ o (Ui hL) ho,r⟩
 ·refine(I.hok b u e).stay (λc v hc q=>k c v ?_ q) (λ_ q=>q) λ_ _ q=>q;rcases hc with z|z
  ·rw[z];exact nit b u e
  ·exact nit c _ z
theorem Inv.tok(I:Inv X pins σ H s)(t:Nat):Inv X pins σ H {s with toks:=t}:=I.un (h':=s.heap) (t':=t) Un.refl I.hok
theorem Inv.kept{t':Nat}(I:Inv X pins σ H s)(k:∀b u,s.heap.get? b=some u->h'.get? b=some u):Inv X pins σ H {s with heap:=h',toks:=t'}:=I.un (Un.kept k) (I.hok.kept k)
theorem Inv.laid{a:Addr}{o:HO}{t':Nat}(I:Inv X pins σ H s)(k:∀b u,s.heap.get? b=some u->h'.get? b=some u)(hp:s.heap.objs.size≤a)(new:ObjOk X.prog X.w (upd H a o) h' a o):
  Inv X pins σ (upd H a o) {s with heap:=h',toks:=t'}:=I.un (Un.laid k hp (I.hok.fresh hp)) (I.hok.laid k hp new)
theorem Inv.write{x e:Addr}{o:HO}{t':Nat}(I:Inv X pins σ H s)(mu:Mut (H x))(he:e=x\/H e=some (.own x))(k:∀b u,b≠e->s.heap.get? b=some u->h'.get? b=some u)(heo:∃u,h'.get? e=some u)
  (new:ObjOk X.prog X.w (upd H x o) h' x o):Inv X pins σ (upd H x o) {s with heap:=h',toks:=t'}:=I.un (Un.write mu he k heo) (I.hok.write mu he k heo new)
theorem Inv.weak{σ':List (Option V)}(I:Inv X pins σ H s)(hl:σ'.length=σ.length)(w:∀(i:Nat) v,σ'[i]?=some (some v)->σ[i]?=some (some v)):Inv X pins σ' H s:=
 ⟨I.ok,I.os,I.bare,I.base,let⟨m,hn,hl'⟩:=I.loc;⟨m,hn,λi x v e1 e2 e3=>hl' i x v e1 (w i v e2) e3⟩,I.cell,I.free,I.freeC,I.pin,I.hok,hl.trans I.len⟩
theorem Inv.pins_of{pins':List (Addr×Obj)}(I:Inv X pins σ H s)(h:∀p∈pins',s.heap.get? p.1=some p.2/\H p.1=none/\p.1≠X.env.locals/\p.1∉X.fs/\∀v,p.2.data≠.cell v):Inv X pins' σ H s:=
 ⟨I.ok,I.os,I.bare,I.base,I.loc,I.cell,I.free,I.freeC,λp hp=>(Yf.mp hp).elim (λz=>I.pin p (CJ _ z)) (h p),I.hok,I.len⟩
theorem Gy{N:List Str}(hN:N.Nodup){i j:Nat}{x:Str}(a:N[i]?=some x) (b:N[j]?=some x):i=j:=by
 obtain⟨h1,e1⟩:=XE.mp a;obtain⟨h2,e2⟩:=XE.mp b;exact(List.getElem_inj hN).mp (e1.trans e2.symm)
theorem Gz{M:Model}{A:Xs}{E:X0->X1->Prop}{i:Nat}{x:Str}{v:V}{u:X0}{Q:Unit->X1->Prop}(I:Inv X pins σ H s)(hN:X.N.Nodup)(hi:X.N[i]?=some x) (hx:Loc X.env.scope x) (r:RelV v u)
  (h:∀s',Inv X pins (σ.set i (some v)) H s'->(∃a,Vc a s.heap s'.heap/\(a=X.env.locals\/X.env.cells.lookup x=some a))->Q () s') (hf:X.fn x=true\/X.env.scope.names.lookup x=some .local:=by first|exact .inl rfl|exact .inr rfl|assumption):X4 M A (storeName X.env x u) Q E s:=by
 obtain⟨m,hn,hl⟩:=id I.loc;have hcls:(X.env.scope.kind==.class||(X.env.scope.kind==.module&&X.env.locals != X.env.globals))=false:=by rw[I.ok.kind];rfl
 have hiσ:i<σ.length:=by rw[I.len];exact(XE.mp hi).1
 have cne:=I.cne;have tracked:∀{a:Addr} {h':Heap},(∃o,s.heap.get? a=some o/\H a=none)->Vc a s.heap h'->HOk X.prog X.w H h':=fun{a h'} ha hs b ob e=>by
  obtain⟨_,_,hfree⟩:=ha;refine(I.hok b ob e).stay (λc w' hc q=>(hs.2 c ?_).trans q) (λ_ q=>q) λ_ _ q=>q;rintro rfl;rcases hc with rfl|hc
  ·rw[hfree]at e;cases e
  ·rw[hfree]at hc;cases hc
 rcases hx with hk|hk
 ·refine wpAny_storeName_local hk hn (λh' hn' hs=>?_) hcls;obtain⟨oL,_,_,hoL,_⟩:=id hn;refine h _ ⟨I.ok,I.os,I.bare,⟨λb o e n hb hx=>?_,λb o e n hb hx=>?_,I.base.free,λb o e hx=>?_,I.base.tups,I.base.frzs,I.base.tbls⟩,⟨_,hn',λj y v' e1 e2 e3=>?_⟩,λy c e=>?_,I.free,I.freeC,λp hp=>?_,tracked ⟨oL,hoL,I.free⟩ hs,by simpa using I.len⟩ ⟨_,hs,.inl rfl⟩
  ·exact(hs.2 b (XH (YM (Xv e) I.ok.above))).trans (I.base.keep b o e n hb hx)
  ·obtain⟨sl,e1⟩:=I.base.slot b o e n hb hx;exact⟨sl,(hs.2 b (XH (YM (Xv e) I.ok.above))).trans e1⟩
  ·obtain⟨o',e1⟩:=I.base.there b o e hx;exact⟨o',(hs.2 b (XH (YM (Xv e) I.ok.above))).trans e1⟩
  ·by_cases hj:j=i
   ·subst hj;rw[hi]at e1;cases e1;rw[FU hiσ]at e2;cases e2;exact⟨u,r,.inl ⟨hk,by simp⟩⟩
   ·rw[List.getElem?_set_ne (Ui hj)]at e2;obtain⟨u',r',q⟩:=hl j y v' e1 e2 e3;refine⟨u',r',?_⟩;rcases q with⟨k,e⟩|⟨k,c,e,z⟩
    ·refine .inl ⟨k,?_⟩;have:y≠x:=λe=>hj (Gy hN e1 (e▸hi));simp[this,e]
    ·exact .inr ⟨k,c,e,z.sameBut hs (cne y c e)⟩
  ·obtain⟨w',z⟩:=I.cell y c e;exact⟨w',z.sameBut hs (cne y c e)⟩
  ·obtain⟨e,n,ne,nf,d⟩:=I.pin p hp;exact⟨(hs.2 p.1 ne).trans e,n,ne,nf,d⟩
 ·have hfn:X.fn x=true:=by
   rcases hf with z|z
   ·exact z
   ·rw[z]at hk;cases hk
  obtain⟨c,hc⟩:=I.ok.has x (.inl hk);obtain⟨w',z⟩:=I.cell x c hc;refine wpAny_storeName_cell I.ok.kind hk hc z (λh' hc' hs=>?_);obtain⟨oc,hoc,hocd⟩:=id z;refine h {s with heap:=h'} ⟨I.ok,I.os,I.bare,⟨λb o e n hb hx=>?_,λb o e n hb hx=>?_,I.base.free,λb o e hx=>?_,I.base.tups,I.base.frzs,I.base.tbls⟩,⟨m,hn.sameBut hs (Ui (cne x c hc)),λj y v' e1 e2 e3=>?_⟩,λy c' e=>?_,I.free,I.freeC,λp hp=>?_,tracked ⟨oc,hoc,I.freeC x c hc⟩ hs,by simpa using I.len⟩ ⟨c,hs,.inr hc⟩
  ·exact(hs.2 b (XH (YM (Xv e) (I.ok.cab x c hfn hc)))).trans (I.base.keep b o e n hb hx)
  ·obtain⟨sl,e1⟩:=I.base.slot b o e n hb hx;exact⟨sl,(hs.2 b (XH (YM (Xv e) (I.ok.cab x c hfn hc)))).trans e1⟩
  ·obtain⟨o',e1⟩:=I.base.there b o e hx;exact⟨o',(hs.2 b (XH (YM (Xv e) (I.ok.cab x c hfn hc)))).trans e1⟩
  ·by_cases hj:j=i
   ·subst hj;rw[hi]at e1;cases e1;rw[FU hiσ]at e2;cases e2;exact⟨u,r,.inr ⟨.inl hk,c,hc,hc'⟩⟩
   ·rw[List.getElem?_set_ne (Ui hj)]at e2;obtain⟨u',r',q⟩:=hl j y v' e1 e2 e3;refine⟨u',r',?_⟩;rcases q with q|⟨k,c',e,z'⟩
    ·exact .inl q
    ·refine .inr ⟨k,c',e,z'.sameBut hs ?_⟩;rintro rfl;exact hj (Gy hN e1 (I.ok.inj _ _ _ e hc▸hi))
  ·by_cases hcc:c'=c
   ·subst hcc;exact⟨_,hc'⟩
   ·obtain⟨w2,z2⟩:=I.cell y c' e;exact⟨w2,z2.sameBut hs hcc⟩
  ·obtain⟨e,n,ne,nf,d⟩:=I.pin p hp;refine⟨(hs.2 p.1 ?_).trans e,n,ne,nf,d⟩;intro q;rw[q,hoc]at e;have q':oc=p.2:=Yg e;exact d w' (by rw[<- q'];exact hocd)
theorem GA{M:Model}{A:Xs}{E:X0->X1->Prop}{i:Nat}{x:Str}{v:V}{u:X0}{Q:Unit->X1->Prop}(I:Inv X pins σ H s)(hN:X.N.Nodup)(hi:X.N[i]?=some x) (hx:Loc X.env.scope x) (r:RelV v u)
  (h:∀s',Inv X pins (σ.set i (some v)) H s'->Q () s') (hf:X.fn x=true\/X.env.scope.names.lookup x=some .local:=by first|exact .inl rfl|exact .inr rfl|assumption):X4 M A (storeName X.env x u) Q E s:=
 Gz I hN hi hx r (λs' I' _=>h s' I') hf
theorem Inv.call'{s':X1}{ch:List Addr}(I:Inv X pins σ H s)(ho:s'.os=s.os)(u:Un (frs X.stack) ch H H' s.heap s'.heap)(hok:HOk X.prog X.w H' s'.heap)(hg:AllBare s'.gens)
  (hch:∀b∈ch,(b∈X.ex\/X.s₀.heap.objs.size≤b)/\b≠X.env.locals/\(∀x c,X.env.cells.lookup x=some c->c≠b)/\∀p∈X.pn++pins,p.1≠b):Inv X pins σ H' s':=by
 obtain⟨h',g',d',t',o'⟩:=s';have e:o'=s.os:=ho;subst e;exact I.call (g':=g') (t':=t') (d':=d') u hok hg hch
end
noncomputable abbrev XK:=X0->Option Addr->Hp->Prop
noncomputable abbrev St:=List (Option V)
noncomputable abbrev VK:=V->Hp->Prop
noncomputable abbrev TE:=St->Hp->VK->Prop
noncomputable abbrev TT:=St->Hp->(Bool->Hp->Prop)->Prop
noncomputable abbrev TA:=St->Hp->(List V->Hp->Prop)->Prop
structure Ends where
 nx:St->Hp->Prop
 rt:VK
 bk:St->Hp->Prop:=λ_ _=>False
 ct:St->Hp->Prop:=λ_ _=>False
noncomputable abbrev TS:=Ends->St->Hp->Prop
noncomputable def EP(X:Cx)(pins:List (Addr×Obj))(σ:St)(Q:VK)(u:X0)(s':X1):Prop:=∃v H',Inv X pins σ H' s'/\RelV v u/\Q v H'
noncomputable def TP(X:Cx)(pins:List (Addr×Obj))(σ:St)(Q:Bool->Hp->Prop)(b:Bool)(s':X1):Prop:=∃H',Inv X pins σ H' s'/\Q b H'
noncomputable def AP(X:Cx)(pins:List (Addr×Obj))(σ:St)(Q:List V->Hp->Prop)(us:List X0)(s':X1):Prop:=∃vs H',Inv X pins σ H' s'/\Vals vs us/\Q vs H'
noncomputable def SP(X:Cx)(pins:List (Addr×Obj))(D:Ends)(f:Flow)(s':X1):Prop:=
 match f with
 |.next=>∃σ' H',Inv X pins σ' H' s'/\D.nx σ' H'
 |.brk=>∃σ' H',Inv X pins σ' H' s'/\D.bk σ' H'
 |.cont=>∃σ' H',Inv X pins σ' H' s'/\D.ct σ' H'
 |.ret u=>∃v σ' H',Inv X pins σ' H' s'/\RelV v u/\D.rt v H'
noncomputable def PE(X:Cx)(e:Expr)(t:TE):Prop:=
 ∀(pins:List (Addr×Obj)) (s:X1) (σ:St) (H:Hp) (Q:VK),Inv X pins σ H s->t σ H Q->X4 (X9 X.prog X.w) X.A (eval e X.env) (EP X pins σ Q) X.xe s
noncomputable def PT(X:Cx)(e:Expr)(t:TT):Prop:=
 ∀(pins:List (Addr×Obj)) (s:X1) (σ:St) (H:Hp) (Q:Bool->Hp->Prop),Inv X pins σ H s->t σ H Q->X4 (X9 X.prog X.w) X.A (isTrue e X.env (eval e X.env)) (TP X pins σ Q) X.xe s
noncomputable def PW(X:Cx)(e:Expr)(t:TT):Prop:=
 ∀(whole:Sem X0) (pins:List (Addr×Obj)) (s:X1) (σ:St) (H:Hp) (Q:Bool->Hp->Prop),Inv X pins σ H s->t σ H Q->X4 (X9 X.prog X.w) X.A (isTrue e X.env whole) (TP X pins σ Q) X.xe s
theorem PW.pt{X:Cx}{e:Expr}{t:TT}(h:PW X e t):PT X e t:=h _
noncomputable def PA(X:Cx)(es:List Expr)(t:TA):Prop:=
 ∀(pos:Pos) (pins:List (Addr×Obj)) (s:X1) (σ:St) (H:Hp) (Q:List V->Hp->Prop),Inv X pins σ H s->t σ H Q->X4 (X9 X.prog X.w) X.A (spliced (Ys pos (XL es X.env))) (AP X pins σ Q) X.xe s
noncomputable def PS(X:Cx)(st:Stmt)(t:TS):Prop:=
 ∀(pins:List (Addr×Obj)) (s:X1) (σ:St) (H:Hp) (D:Ends),Inv X pins σ H s->t D σ H->X4 (X9 X.prog X.w) X.A (exec st X.env) (SP X pins D) X.xe s
noncomputable def PSs(X:Cx)(st:List Stmt)(t:TS):Prop:=
 ∀(pins:List (Addr×Obj)) (s:X1) (σ:St) (H:Hp) (D:Ends),Inv X pins σ H s->t D σ H->X4 (X9 X.prog X.w) X.A (execs st X.env) (SP X pins D) X.xe s
theorem thn{α:Type}{t:Sem α}{Q Q':α->X1->Prop}{M:Model}{A:Xs}{E:X0->X1->Prop}{s:X1}(h:X4 M A t Q E s)(hQ:∀a s,Q a s->Q' a s):X4 M A t Q' E s:=Ul h hQ λ_ _ x=>x
section
variable{X:Cx}
theorem bin{a b:Expr}{ta tb:TE}(ha:PE X a ta)(hb:PE X b tb){pins:List (Addr×Obj)}{s:X1}{σ:St}{H:Hp}{R:V->V->Hp->Prop}(I:Inv X pins σ H s)(h:ta σ H λx H1=>tb σ H1 λy H2=>R x y H2)
  {α:Type} {Q:α->X1->Prop} {f:X0->X0->Sem α}
  (hf:∀v u s2 x y H2,Inv X pins σ H2 s2->RelV x v->RelV y u->R x y H2->X4 (X9 X.prog X.w) X.A (f v u) Q X.xe s2):
  X4 (X9 X.prog X.w) X.A (eval a X.env) (λv s₁=>X4 (X9 X.prog X.w) X.A (eval b X.env) (λu s₂=>X4 (X9 X.prog X.w) X.A (f v u) Q X.xe s₂) X.xe s₁) X.xe s:=by
 refine thn (ha pins s σ H _ I h) λv s1 ⟨x,H1,I1,r1,q1⟩=>?_;refine thn (hb pins s1 σ H1 _ I1 q1) λu s2 ⟨y,H2,I2,r2,q2⟩=>?_;exact hf v u s2 x y H2 I2 r1 r2 q2
noncomputable def tVar(i:Nat):TE:=λσ H Q=>∃v,σ[i]?=some (some v)/\Q v H
noncomputable def tC(v:V):TE:=λ_ H Q=>Q v H
theorem GC{i:Nat}{x:Str}{pos:Pos}(hN:X.N[i]?=some x) (hv:Vis X.env.scope x) (hd:(x==("__debug__":Str))=false:=by decide) (hcd:(x==("__classdict__":Str))=false:=by decide):PE X (.Name x pos) (tVar i):=by
 intro pins s σ H Q I h;obtain⟨v,e,h⟩:=h;obtain⟨m,hn,hl⟩:=I.loc;obtain⟨u,r,l⟩:=hl i x v hN e hv;have fin:EP X pins σ Q u s:=⟨v,H,I,r,h⟩;rcases l with⟨hk,hm⟩|⟨hk,c,hc,hcell⟩
 ·exact wpAny_Name (wpAny_loadName_local I.ok.kind hk hn hm fin) hd
 ·rcases hk with hk|hk
  ·exact wpAny_Name (wpAny_loadName_cell I.ok.kind hk hc hcell fin) hd
  ·exact wpAny_Name (wpAny_loadName_free I.ok.kind hk hc hcell fin hcd) hd
theorem pe_int{i j pos}:PE X (.Constant (.int i) j pos) (tC (.int i)):=λ_ _ _ H _ I h=>wpAny_Constant_int ⟨.int i,H,I.tok _,⟨_,rfl⟩,h⟩
theorem pe_bl{b j pos}:PE X (.Constant (.bool b) j pos) (tC (.bl b)):=λ_ _ _ H _ I h=>Constant_bool ⟨.bl b,H,I,rfl,h⟩
theorem pe_non{j pos}:PE X (.Constant .none j pos) (tC .non):=λ_ _ _ H _ I h=>Constant_none ⟨.non,H,I,rfl,h⟩
theorem pe_str{x j pos}:PE X (.Constant (.str x) j pos) (tC (.str x)):=λ_ _ _ H _ I h=>Calls.Constant_str ⟨.str x,H,I.tok _,⟨_,rfl⟩,h⟩
noncomputable def Gl(X:Cx)(x:Str):Prop:=X.env.kindOf x=some .globalImplicit
theorem GD{E:X0->X1->Prop}{pins:List (Addr×Obj)}{s:X1}{σ:St}{H:Hp}{x:Str}{u:X0}{pos:Pos}{Q:X0->X1->Prop}(I:Inv X pins σ H s)(hg:Gl X x)(hm:X.mg x=some u)(h:Q u s)
  (hd:(x==("__debug__":Str))=false:=by decide):X4 (X9 X.prog X.w) X.A (eval (.Name x pos) X.env) Q E s:=
 Gh I.ok.kind hg (Calls.loadGlobal_global (by rw[I.ok.glob];exact I.mod.glob.keeps I.bk) hm h) hd
theorem Uz{E:X0->X1->Prop}{pins:List (Addr×Obj)}{s:X1}{σ:St}{H:Hp}{x:Str}{u:X0}{pos:Pos}{Q:X0->X1->Prop}(I:Inv X pins σ H s)(hg:Gl X x)(hm:X.mg x=none)(hv:YF x=some u)(h:Q u s)
  (hn:x≠"__name__":=by decide) (hd:(x==("__debug__":Str))=false:=by decide):X4 (X9 X.prog X.w) X.A (eval (.Name x pos) X.env) Q E s:=by
 obtain⟨mb,h1,h2⟩:=I.mod.blt;exact Gh I.ok.kind hg (Calls.loadGlobal_builtin (by rw[I.ok.glob];exact I.mod.glob.keeps I.bk) hm (by rw[I.ok.blt];exact h1.keeps I.bk) ((h2 x hn).trans hv) h) hd
theorem Q0{x:Str}{v:V}{u:X0}{pos:Pos}(hg:Gl X x)(hm:X.mg x=some u)(r:RelV v u)(hd:(x==("__debug__":Str))=false:=by decide):PE X (.Name x pos) (tC v):=
 λ_ _ _ H _ I h=>GD I hg hm ⟨v,H,I,r,h⟩ hd
theorem Q1{x:Str}{v:V}{u:X0}{pos:Pos}(hg:Gl X x)(hm:X.mg x=none)(hv:YF x=some u)(r:RelV v u)(hn:x≠"__name__":=by decide)(hd:(x==("__debug__":Str))=false:=by decide):PE X (.Name x pos) (tC v):=
 λ_ _ _ H _ I h=>Uz I hg hm hv ⟨v,H,I,r,h⟩ hn hd
variable{a b:Expr}{ta tb:TE}{pos:Pos}
noncomputable def tB(t:TE):TT:=λσ H Q=>t σ H λx H1=>∃c,x=.bl c/\Q c H1
theorem Q2{e:Expr}{t:TE}(h:PE X e t)(he:∀whole,isTrue e X.env whole=(do let v<- whole;standAt e.pos;holding [v] (truthy v)):=by intro _;rfl):PT X e (tB t):=by
 intro pins s σ H Q I hw;refine isTrue_plain (thn (h pins s σ H _ I hw) λv s1 ⟨x,H1,I1,r1,q1⟩=>?_) (he _);obtain⟨d,rfl,q⟩:=q1;cases r1;exact Um ⟨H1,I1,q⟩
variable{tA tB':TT}{rest:List Expr}
noncomputable def tAnd(t u:TT):TT:=λσ H Q=>t σ H λc H1=>if c=true then u σ H1 Q else Q false H1
noncomputable def tOr(t u:TT):TT:=λσ H Q=>t σ H λc H1=>if c=true then Q true H1 else u σ H1 Q
noncomputable def tNot(t:TT):TT:=λσ H Q=>t σ H λc H1=>Q (!c) H1
theorem pw_and1(ha:PT X a tA):PW X (.BoolOp .And [a] pos) tA:=by
 intro wh pins s σ H Q I h;refine isTrue_and (thn (ha pins s σ H Q I h) λc s1 e=>?_);cases c with
 |true=>exact isTrue_and_nil e
 |false=>exact e
theorem pw_or1(ha:PT X a tA):PW X (.BoolOp .Or [a] pos) tA:=by
 intro wh pins s σ H Q I h;refine isTrue_or (thn (ha pins s σ H Q I h) λc s1 e=>?_);cases c with
 |false=>exact isTrue_or_nil e
 |true=>exact e
theorem pw_and(ha:PT X a tA)(hb:PW X (.BoolOp .And (b::rest) pos) tB'):PW X (.BoolOp .And (a::b::rest) pos) (tAnd tA tB'):=by
 intro wh pins s σ H Q I h;refine isTrue_and (thn (ha pins s σ H _ I h) λc s1 ⟨H1,I1,q1⟩=>?_);cases c with
 |true=>exact hb wh pins s1 σ H1 Q I1 q1
 |false=>exact⟨H1,I1,q1⟩
theorem pw_or(ha:PT X a tA)(hb:PW X (.BoolOp .Or (b::rest) pos) tB'):PW X (.BoolOp .Or (a::b::rest) pos) (tOr tA tB'):=by
 intro wh pins s σ H Q I h;refine isTrue_or (thn (ha pins s σ H _ I h) λc s1 ⟨H1,I1,q1⟩=>?_);cases c with
 |true=>exact⟨H1,I1,q1⟩
 |false=>exact hb wh pins s1 σ H1 Q I1 q1
theorem Q3(ha:PT X a tA):PT X (.UnaryOp .Not a pos) (tNot tA):=by
 intro pins s σ H Q I h;exact isTrue_not (ha pins s σ H (λc H1=>Q (!c) H1) I h)
noncomputable def Q4(ta tb:TE):TE:=λσ H Q=>ta σ H λx H1=>∃c,x=.bl c/\if c=true then tb σ H1 Q else Q (.bl false) H1
noncomputable def tOrV(ta tb:TE):TE:=λσ H Q=>ta σ H λx H1=>∃c,x=.bl c/\if c=true then Q (.bl true) H1 else tb σ H1 Q
noncomputable def Q5(ta:TE):TE:=λσ H Q=>ta σ H λx H1=>∃c,x=.bl c/\Q (.bl (!c)) H1
theorem GE{op}{t:TE}(h:PE X a t):PE X (.BoolOp op [a] pos) t:=λpins s σ H Q I hw=>BoolOp_one (h pins s σ H Q I hw)
theorem Q6(ha:PE X a ta)(hb:PE X (.BoolOp .And (b::rest) pos) tb):PE X (.BoolOp .And (a::b::rest) pos) (Q4 ta tb):=by
 intro pins s σ H Q I h;refine BoolOp_and (thn (ha pins s σ H _ I h) λv s1 ⟨x,H1,I1,r1,q1⟩=>?_);obtain⟨c,rfl,q1⟩:=q1;cases r1;refine Um ?_;cases c with
 |true=>exact hb pins s1 σ H1 Q I1 q1
 |false=>exact⟨.bl false,H1,I1,rfl,q1⟩
theorem Q7(ha:PE X a ta)(hb:PE X (.BoolOp .Or (b::rest) pos) tb):PE X (.BoolOp .Or (a::b::rest) pos) (tOrV ta tb):=by
 intro pins s σ H Q I h;refine BoolOp_or (thn (ha pins s σ H _ I h) λv s1 ⟨x,H1,I1,r1,q1⟩=>?_);obtain⟨c,rfl,q1⟩:=q1;cases r1;refine Um ?_;cases c with
 |false=>exact hb pins s1 σ H1 Q I1 q1
 |true=>exact⟨.bl true,H1,I1,rfl,q1⟩
theorem Q8(ha:PE X a ta):PE X (.UnaryOp .Not a pos) (Q5 ta):=by
 intro pins s σ H Q I h;refine UnaryOp_ (thn (ha pins s σ H _ I h) λv s1 ⟨x,H1,I1,r1,q1⟩=>?_);obtain⟨c,rfl,q1⟩:=q1;cases r1;exact not_of (Um ⟨.bl (!c),H1,I1,rfl,q1⟩)
noncomputable def tIf(t:TT)(ta tb:TE):TE:=λσ H Q=>t σ H λc H1=>if c=true then ta σ H1 Q else tb σ H1 Q
theorem Q9{c:Expr}(hc:PT X c tA)(ha:PE X a ta)(hb:PE X b tb):PE X (.IfExp c a b pos) (tIf tA ta tb):=by
 intro pins s σ H Q I h;refine wpAny_IfExp (thn (hc pins s σ H _ I h) λd s1 ⟨H1,I1,q1⟩=>?_);cases d with
 |true=>exact ha pins s1 σ H1 Q I1 q1
 |false=>exact hb pins s1 σ H1 Q I1 q1
end
noncomputable def SqL(K:X6)(H:Hp)(a:Addr)(xs:List V):Prop:=
 Rd H a (.lst xs)\/
  ∃(o:Obj) (its:Array X0) (n:Nat),K.lookup a=some o/\o.cls=.type "list"/\o.dict=none/\o.data=.seq its n/\its.size≤sizeLine/\Vals xs its.toList
noncomputable def SqT(K:X6)(H:Hp)(a:Addr)(xs:List V):Prop:=
 Rd H a (.tup xs)\/
  ∃(o:Obj) (its:Array X0) (n:Nat),K.lookup a=some o/\o.cls=.type "tuple"/\o.data=.seq its n/\its.size≤sizeLine/\Vals xs its.toList
noncomputable def absV:X0->Option V
 |.none=>some .non
 |.bool b=>some (.bl b)
 |.int i _=>some (.int i)
 |.str x _=>some (.str x)
 |.bytes b _=>some (.byt b)
 |.float b _=>some (.flt b)
 |.ref a=>some (.ref a)
 |.type n=>some (.ty n)
 |_=>none
theorem RelV.abs{x:V}{u:X0}(r:RelV x u):absV u=some x:=by
 cases x with
 |non=>cases r;rfl
 |bl _=>cases r;rfl
 |int _=>obtain⟨t,rfl⟩:=r;rfl
 |str _=>obtain⟨t,rfl⟩:=r;rfl
 |byt _=>obtain⟨t,rfl⟩:=r;rfl
 |flt _=>obtain⟨t,rfl⟩:=r;rfl
 |ref _=>cases r;rfl
 |ty _=>cases r;rfl
theorem RelV.inj{x y:V}{u:X0}(r:RelV x u)(q:RelV y u):x=y:=Yg (r.abs.symm.trans q.abs)
theorem Vals.inj:∀{xs ys:List V} {us:List X0},Vals xs us->Vals ys us->xs=ys
 |_,_,_,.nil,.nil=>rfl
 |_,_,_,.cons r t,.cons r' t'=>by rw[r.inj r',Vals.inj t t']
section
variable{X:Cx}{pins:List (Addr×Obj)}{σ:St}{H:Hp}{s:X1}{a:Addr}{xs ys:List V}
theorem SqL.of{K:X6}(h:H a=some (.lst xs)):SqL K H a xs:=.inl (.inl h)
theorem SqT.of{K:X6}(h:H a=some (.tup xs)):SqT K H a xs:=.inl (.inl h)
theorem Inv.list(I:Inv X pins σ H s)(h:SqL X.K H a xs):∃its:List X0,Vals xs its/\PlainL s.heap a its.toArray/\xs.length≤sizeLine:=by
 rcases h with h|⟨o,its,n,hk,hc,hd,hs,hz,r⟩
 ·obtain⟨z,its,n,r,e⟩:=h.ok I.hok;exact⟨its,r,⟨_,n,e,rfl,rfl,rfl⟩,z⟩
 ·refine⟨its.toList,r,⟨o,n,I.kIn a o hk,hc,hd,by simpa using hs⟩,?_⟩
  have e:=r.length;simp only[XW]at e;lia
theorem Inv.tuple(I:Inv X pins σ H s)(h:SqT X.K H a xs):∃its:List X0,Vals xs its/\IsTup s.heap a its.toArray/\xs.length≤sizeLine:=by
 rcases h with h|⟨o,its,n,hk,hc,hs,hz,r⟩
 ·obtain⟨z,its,r,p⟩:=h.ok I.hok;exact⟨its,r,p.1,z⟩
 ·refine⟨its.toList,r,⟨o,I.kIn a o hk,hc,n,by simpa using hs⟩,?_⟩
  have e:=r.length;simp only[XW]at e;lia
theorem Inv.list_inj(I:Inv X pins σ H s)(h:SqL X.K H a xs)(h':SqL X.K H a ys):xs=ys:=by
 obtain⟨its,r,⟨o,n,e,_,_,d⟩,_⟩:=I.list h;obtain⟨its',r',⟨o',n',e',_,_,d'⟩,_⟩:=I.list h';rw[e]at e';cases e';rw[d]at d';injection d' with d1 _;have:its=its':=by simpa using congrArg Array.toList d1
 subst this;exact r.inj r'
theorem Inv.tuple_inj(I:Inv X pins σ H s)(h:SqT X.K H a xs)(h':SqT X.K H a ys):xs=ys:=by
 obtain⟨its,r,⟨o,e,_,n,d⟩,_⟩:=I.tuple h;obtain⟨its',r',⟨o',e',_,n',d'⟩,_⟩:=I.tuple h';rw[e]at e';cases e';rw[d]at d';injection d' with d1 _;have:its=its':=by simpa using congrArg Array.toList d1
 subst this;exact r.inj r'
end
noncomputable abbrev Cx.wish(X:Cx)(E:X0->X1->Prop):Cx:={X with xe:=E}
noncomputable abbrev Cx.nox(X:Cx):Cx:=X.wish λ_ _=>False
theorem Cx.Ok.wish{X:Cx}(ok:X.Ok)(E:X0->X1->Prop):(X.wish E).Ok:=
 ⟨ok.mod,ok.kind,ok.glob,ok.blt,ok.above,ok.inj,ok.has,ok.cab,ok.hd,ok.frames,ok.stk,ok.exf,ok.bs,ok.bsz,ok.noex,ok.exfs,ok.funs,ok.frf⟩
theorem Cx.Ok.unwish{X:Cx}{E:X0->X1->Prop}(ok:(X.wish E).Ok):X.Ok:=
 ⟨ok.mod,ok.kind,ok.glob,ok.blt,ok.above,ok.inj,ok.has,ok.cab,ok.hd,ok.frames,ok.stk,ok.exf,ok.bs,ok.bsz,ok.noex,ok.exfs,ok.funs,ok.frf⟩
section
variable{X:Cx}{pins:List (Addr×Obj)}{σ:St}{H:Hp}{s:X1}{E:X0->X1->Prop}
theorem Inv.wish(I:Inv X pins σ H s)(E:X0->X1->Prop):Inv (X.wish E) pins σ H s:=⟨I.ok.wish E,I.os,I.bare,I.base,I.loc,I.cell,I.free,I.freeC,I.pin,I.hok,I.len⟩
theorem Inv.unwish(I:Inv (X.wish E) pins σ H s):Inv X pins σ H s:=⟨I.ok.unwish,I.os,I.bare,I.base,I.loc,I.cell,I.free,I.freeC,I.pin,I.hok,I.len⟩
theorem SP.unwish{D:Ends}{f:Flow}{s':X1}(h:SP (X.wish E) pins D f s'):SP X pins D f s':=by
 cases f with
 |next=>obtain⟨σ',H',I,q⟩:=h;exact⟨σ',H',I.unwish,q⟩
 |brk=>obtain⟨σ',H',I,q⟩:=h;exact⟨σ',H',I.unwish,q⟩
 |cont=>obtain⟨σ',H',I,q⟩:=h;exact⟨σ',H',I.unwish,q⟩
 |ret u=>obtain⟨v,σ',H',I,r,q⟩:=h;exact⟨v,σ',H',I.unwish,r,q⟩
theorem PSs.nox{st:List Stmt}{t:TS}(h:PSs X.nox st t):PSs X st t:=λpins s σ H D I hw=>
 Ul (h pins s σ H D (I.wish _) hw) (λ_ _ q=>q.unwish) λ_ _ z=>YI z
end
section
variable{X:Cx}{st:Stmt}{rest:List Stmt}{t u:TS}{e:Expr}{te:TE}{pos:Pos}
noncomputable def Qa:TS:=λD σ H=>D.nx σ H
noncomputable def tSeq(t u:TS):TS:=λD σ H=>t {D with nx:=u D} σ H
theorem pss_nil:PSs X [] Qa:=λ_ _ σ H _ I h=>wpAny_execs_nil ⟨σ,H,I,h⟩
theorem Qb(h1:PS X st t)(h2:PSs X rest u):PSs X (st::rest) (tSeq t u):=by
 intro pins s σ H D I h;refine wpAny_execs_cons (thn (h1 pins s σ H {D with nx:=u D} I h) λf s1 q=>?_);cases f with
 |next=>
  obtain⟨σ',H',I',q⟩:=q;exact h2 pins s1 σ' H' D I' q
 |ret v=>exact q
 |brk=>exact q
 |cont=>exact q
theorem Inv.quiet{pins:List (Addr×Obj)}{σ:St}{H:Hp}{s:X1}(I:Inv X pins σ H s):interactive X.env=false:=by simp[interactive,I.ok.kind]
noncomputable def Qc(te:TE):TS:=λD σ H=>te σ H λ_ H1=>D.nx σ H1
theorem Qd(he:PE X e te)(hs:V4 e none pos.line X.env=pure false:=by rfl):PS X (.Expr e pos) (Qc te):=by
 intro pins s σ H D I h;exact wpAny_Expr_any (thn (he pins s σ H _ I h) λv s1 ⟨x,H1,I1,r1,q1⟩=>⟨σ,H1,I1,q1⟩) I.quiet hs
noncomputable def tRet(te:TE):TS:=λD σ H=>te σ H D.rt
theorem Qe(he:PE X e te):PS X (.Return (some e) pos) (tRet te):=by
 intro pins s σ H D I h;exact wpAny_Return_some (thn (he pins s σ H _ I h) λv s1 ⟨x,H1,I1,r1,q1⟩=>⟨x,σ,H1,I1,r1,q1⟩)
noncomputable def tIfS(c:TT)(t u:TS):TS:=λD σ H=>c σ H λb H1=>if b=true then t D σ H1 else u D σ H1
theorem Qf{c:Expr}{a b:List Stmt}{tc:TT}(hc:PT X c tc)(ha:PSs X a t)(hb:PSs X b u):PS X (.If c a b pos) (tIfS tc t u):=by
 intro pins s σ H D I h;refine wpAny_If (thn (hc pins s σ H _ I h) λd s1 ⟨H1,I1,q1⟩=>?_);cases d with
 |true=>exact ha pins s1 σ H1 D I1 q1
 |false=>exact hb pins s1 σ H1 D I1 q1
noncomputable def Qg:TS:=λ_ _ _=>False
theorem ps_never:PS X st Qg:=λ_ _ _ _ _ _ h=>h.elim
end
noncomputable abbrev TG:=V->St->Hp->(St->Hp->Prop)->Prop
noncomputable abbrev TGs:=List V->St->Hp->(St->Hp->Prop)->Prop
noncomputable def PG(X:Cx)(target:Expr)(t:TG):Prop:=
 ∀(pins:List (Addr×Obj)) (s:X1) (σ:St) (H:Hp) (v:V) (u:X0) (Q:St->Hp->Prop),Inv X pins σ H s->RelV v u->t v σ H Q->
  X4 (X9 X.prog X.w) X.A (assign target X.env u) (λ_ s'=>∃σ' H',Inv X pins σ' H' s'/\Q σ' H') X.xe s
noncomputable def PGs(X:Cx)(ts:List Expr)(t:TGs):Prop:=
 ∀(pins:List (Addr×Obj)) (s:X1) (σ:St) (H:Hp) (vs:List V) (us:List X0) (Q:St->Hp->Prop),Inv X pins σ H s->Vals vs us->t vs σ H Q->
  X4 (X9 X.prog X.w) X.A (assignInOrder ((Uo ts X.env).map (·.2)) us) (λ_ s'=>∃σ' H',Inv X pins σ' H' s'/\Q σ' H') X.xe s
noncomputable abbrev TSet:=V->V->V->Hp->(Hp->Prop)->Prop
noncomputable def PSet(X:Cx)(t:TSet):Prop:=
 ∀(pins:List (Addr×Obj)) (s:X1) (σ:St) (H:Hp) (o i v:V) (ov iv u:X0) (Q:Hp->Prop),Inv X pins σ H s->RelV o ov->RelV i iv->RelV v u->t o i v H Q->
  X4 (X9 X.prog X.w) X.A (setItem ov iv u) (λ_ s'=>∃H',Inv X pins σ H' s'/\Q H') X.xe s
section
variable{X:Cx}{pos:Pos}
noncomputable def BN(i:Nat):TG:=λv σ H Q=>Q (σ.set i (some v)) H
theorem GF{i:Nat}{x:Str}(hN:X.N.Nodup)(hi:X.N[i]?=some x) (hx:Loc X.env.scope x) (hf:X.fn x=true\/X.env.scope.names.lookup x=some .local:=by first|exact .inl rfl|exact .inr rfl|assumption):PG X (.Name x pos) (BN i):=by
 intro pins s σ H v u Q I r h;exact wpAny_assign_Name (GA I hN hi hx r (λs' I'=>⟨_,H,I',h⟩) hf)
noncomputable def gNil:TGs:=λvs σ H Q=>vs=[]/\Q σ H
noncomputable def GG(t:TG)(u:TGs):TGs:=λvs σ H Q=>∃v r,vs=v::r/\t v σ H λσ' H'=>u r σ' H' Q
theorem Qh:PGs X [] gNil:=by
 intro pins s σ H vs us Q I r h;obtain⟨e,h⟩:=h;subst e;cases r;exact assignInOrder_nil ⟨σ,H,I,h⟩
theorem Qi{e:Expr}{es:List Expr}{t:TG}{u:TGs}(h1:PG X e t)(h2:PGs X es u)
  (hs:(Uo (e::es) X.env).map (·.2)=assign e X.env::(Uo es X.env).map (·.2):=by rfl):PGs X (e::es) (GG t u):=by
 intro pins s σ H vs us Q I r h;obtain⟨v,vr,e1,h⟩:=h;subst e1;cases r with
 |cons r rr=>
  rw[hs];refine assignInOrder_cons (thn (h1 pins s σ H _ _ _ I r h) λ_ s1 ⟨σ1,H1,I1,q1⟩=>?_);exact h2 pins s1 σ1 H1 _ _ Q I1 rr q1
noncomputable def gTup(K:X6)(n:Nat)(t:TGs):TG:=λv σ H Q=>∃a xs,v=.ref a/\SqT K H a xs/\xs.length=n/\t xs σ H Q
theorem Qj{es:List Expr}{k:Nat}{t:TGs}{n:Nat}(hc:X.calm=true)(h:PGs X es t)
  (hn:(Uo es X.env).length=n:=by rfl) (hst:(Uo es X.env).findIdx? (·.1)=none:=by rfl):PG X (.Tuple es k pos) (gTup X.K n t):=by
 intro pins s σ H v u Q I r hw;obtain⟨a,xs,e1,hq,hl,hw⟩:=hw;subst e1;cases r;obtain⟨its,rv,ht,hz⟩:=I.tuple hq;refine assign_Tuple_tuple (I.ok.hd hc) ht (by simp[hn,<- hl,rv.length]) hst λh' hx=>?_
 have I1:Inv X pins σ H {s with heap:=h'}:=I.kept (t':=s.toks) λb o e=>hx b o (XH (Xv e)) e;exact h pins _ σ H xs _ Q I1 (by simpa using rv) hw
noncomputable def gSub(to ti:TE)(t:TSet):TG:=λv σ H Q=>to σ H λo H1=>ti σ H1 λi H2=>t o i v H2 λH3=>Q σ H3
theorem Qk{o i:Expr}{to ti:TE}{t:TSet}(ho:PE X o to)(hi:PE X i ti)(hs:PSet X t)
  (ha:∀v,assign (.Subscript o i pos) X.env v=(do
   let ov<- holding [v] (eval o X.env)
   let iv<- holding [v,ov] (eval i X.env)
   standAt pos
   holding [v,ov,iv] (setItem ov iv v)
   release [v,ov,iv] []):=by intro _;rfl):PG X (.Subscript o i pos) (gSub to ti t):=by
 intro pins s σ H v u Q I r h;rw[ha];refine X3 (YL (thn (ho pins s σ H _ I h) λov s1 ⟨x,H1,I1,r1,q1⟩=>?_));refine X3 (YL (thn (hi pins s1 σ H1 _ I1 q1) λiv s2 ⟨y,H2,I2,r2,q2⟩=>?_));refine X3 (wpAny_standAt (X3 (YL (thn (hs pins s2 σ H2 x y v ov iv u _ I2 r1 r2 r q2) λ_ s3 ⟨H3,I3,q3⟩=>?_))));exact wpAny_release ⟨σ,H3,I3,q3⟩
noncomputable def tAsg(te:TE)(g:TG):TS:=λD σ H=>te σ H λx H1=>g x σ H1 D.nx
theorem GH{tg e:Expr}{te:TE}{g:TG}(he:PE X e te)(hg:PG X tg g)(hs:swapsWithSole [tg] e pos.line X.env=pure false:=by rfl)(hw:swappedStores [tg] e X.env=pure none:=by rfl)
  (h1:(Uo [tg] X.env).map (·.2)=[assign tg X.env]:=by rfl):PS X (.Assign [tg] e pos) (tAsg te g):=by
 intro pins s σ H D I h;refine wpAny_Assign_stores (thn (he pins s σ H _ I h) λv s1 ⟨x,H1,I1,r1,q1⟩=>?_) hs hw;rw[h1];exact thn (hg pins s1 σ H1 x v _ I1 r1 q1) λ_ s2 q=>q
theorem GJ{i:Nat}{x:Str}{e:Expr}{te:TE}{pos':Pos}(hN:X.N.Nodup)(hi:X.N[i]?=some x) (hx:Loc X.env.scope x) (he:PE X e te) (hs:V4 e (some (.Name x pos')) pos.line X.env=pure false:=by rfl) (hf:X.fn x=true\/X.env.scope.names.lookup x=some .local:=by first|exact .inl rfl|exact .inr rfl|assumption):
  PS X (.Assign [.Name x pos'] e pos) (tAsg te (BN i)):=by
 intro pins s σ H D I h;refine wpAny_Assign_Name (thn (he pins s σ H _ I h) λv s1 ⟨y,H1,I1,r1,q1⟩=>?_) hs;exact GA I1 hN hi hx r1 (λs2 I2=>⟨_,H1,I2,q1⟩) hf
end
section
variable{X:Cx}{pos:Pos}
noncomputable def Ql(c:TT)(tb:TS):TS:=λD σ H=>∃W:Nat->St->Hp->Prop,(∃m,W m σ H)/\∀m σ H,W m σ H->
 c σ H λb H1=>if b=true then∃N:St->Hp->Prop,(∀σ' H',N σ' H'->∃m',m'<m/\W m' σ' H')/\tb {D with nx:=N,ct:=N,bk:=D.nx} σ H1 else D.nx σ H1
theorem Qm{c:Expr}{body:List Stmt}{tc:TT}{tb:TS}(hp:PassesOwn (X9 X.prog X.w) X.A X.env X.xe)(hc:PT X c tc)(hb:PSs X body tb):PS X (.While c body [] pos) (Ql tc tb):=by
 intro pins s σ H D I h;obtain⟨W,⟨m0,w0⟩,turn⟩:=h;refine wpAny_While (codeAny_whileLoop (λn s'=>∃σ' H',Inv X pins σ' H' s'/\W n σ' H') ?_ m0 ⟨σ,H,I,w0⟩);rintro n s1 ⟨σ1,H1,I1,w1⟩;refine Vt hp (thn (hc pins s1 σ1 H1 _ I1 (turn n σ1 H1 w1)) λb s2 ⟨H2,I2,q2⟩=>?_);cases b with
 |true=>
  obtain⟨N,hN,q2⟩:=q2;rw[if_pos rfl];refine Vt hp (thn (hb pins s2 σ1 H2 _ I2 q2) λf s3 q3=>?_);cases f with
  |next=>
   obtain⟨σ3,H3,I3,n3⟩:=q3;obtain⟨m',hm,w3⟩:=hN σ3 H3 n3;exact⟨m',hm,σ3,H3,I3,w3⟩
  |cont=>
   obtain⟨σ3,H3,I3,n3⟩:=q3;obtain⟨m',hm,w3⟩:=hN σ3 H3 n3;exact⟨m',hm,σ3,H3,I3,w3⟩
  |brk=>exact q3
  |ret v=>exact q3
 |false=>
  rw[if_neg XF];exact wpAny_execs_nil ⟨σ1,H2,I2,q2⟩
end
structure It where
 go:Nat->Hp->Prop
 yld:Nat->Hp->V->Hp->Prop
 stop:Nat->Hp->Prop
noncomputable def FpOk(X:Cx)(pins:List (Addr×Obj))(H:Hp)(b:Addr):Prop:=
 H b=none/\b≠X.env.locals/\b∉X.fs/\(b∈X.ex\/X.s₀.heap.objs.size≤b)/\(∀x c,X.env.cells.lookup x=some c->c≠b)/\∀p∈X.pn++pins,p.1≠b
theorem Inv.fpOk{X:Cx}{pins:List (Addr×Obj)}{σ:St}{H H':Hp}{s:X1}{b:Addr}(I:Inv X pins σ H s)(hb:s.heap.objs.size≤b)(hn:H' b=none):FpOk X pins H' b:=by
 refine⟨hn,VB (YM I.lt hb),I.nofs hb,.inr (Y3 I.sz hb),λx c e z=>?_,λp hp z=>?_⟩
 ·obtain⟨v,q⟩:=I.cell x c e;exact absurd (YM q.lt (by rw[z];exact hb)) (Wi _)
 ·exact absurd (YM (Xv (I.pin p hp).1) (by rw[z];exact hb)) (Wi _)
structure Turn (P:Xm) (w:Xj) (K:X6) (tg:Expr) (J:It) (fp:List Addr) (it:Addr) (tn:Nat->Heap->Prop):Prop where
 mem:it∈fp
 obj:∀i h,tn i h->∀b∈fp,∃o,h.get? b=some o/\∀v,o.data≠.cell v
 keep:∀i h h',tn i h->(∀b∈fp,∀o,h.get? b=some o->h'.get? b=some o)->tn i h'
 item:∀(X:Cx),X.prog=P->X.w=w->X.K=K->X.calm=true->∀(i:Nat) (pins:List (Addr×Obj)) (s:X1) (σ:St) (H:Hp) (E:X0->X1->Prop),Inv X pins σ H s->(∀b∈fp,FpOk X pins H b)->tn i s.heap->J.go i H->
  X4 (X9 P w) X.A (pyNext (.ref it)) (λr s1=>∃u,r=some u/\
   X4 (X9 P w) X.A (B7 tg (.ref it) u) (λ_ s2=>∃x H',Inv X pins σ H' s2/\RelV x u/\J.yld i H x H'/\tn (i+1) s2.heap/\∀b∈fp,H' b=none) E s1) E s
 done:∀(X:Cx),X.prog=P->X.w=w->X.K=K->X.calm=true->∀(i:Nat) (pins:List (Addr×Obj)) (s:X1) (σ:St) (H:Hp) (E:X0->X1->Prop),Inv X pins σ H s->(∀b∈fp,FpOk X pins H b)->tn i s.heap->J.stop i H->
  X4 (X9 P w) X.A (pyNext (.ref it)) (λr s1=>r=none/\Inv X pins σ H s1) E s
 self:∀(A:Xs) (i:Nat) (s:X1) (Q:X0->X1->Prop) (E:X0->X1->Prop),tn i s.heap->Q (.ref it) s->X4 (X9 P w) A (pyIter (.ref it)) Q E s
noncomputable abbrev TI:=St->Hp->(It->Hp->Prop)->Prop
noncomputable def PIE(X:Cx)(pins:List (Addr×Obj))(σ:St)(tg:Expr)(R:It->Hp->Prop)(itv:X0)(s2:X1):Prop:=
 ∃(it:Addr) (fp:List Addr) (tn:Nat->Heap->Prop) (J:It) (H':Hp),itv=.ref it/\Inv X pins σ H' s2/\Turn X.prog X.w X.K tg J fp it tn/\tn 0 s2.heap/\(∀b∈fp,FpOk X pins H' b)/\R J H'
noncomputable def PI(X:Cx)(tg iter:Expr)(wi:TI):Prop:=
 ∀(pins:List (Addr×Obj)) (s:X1) (σ:St) (H:Hp) (R:It->Hp->Prop),Inv X pins σ H s->wi σ H R->
  X4 (X9 X.prog X.w) X.A (eval iter X.env) (λv s1=>X4 (X9 X.prog X.w) X.A (pyIter v) (PIE X pins σ tg R) X.xe s1) X.xe s
theorem VJ{M:Model}{A:Xs}{E:X0->X1->Prop}{s:X1}{tg:Expr}{it:Addr}{u:X0}{o:Obj}{n:String}{vs:Array X0}{Q:Unit->X1->Prop}(ho:s.heap.get? it=some o)(hc:o.cls=.type n)(hd:o.data=.fields vs)
  (hn:["enumerate","zip","dict_itemiterator","dict_reverseitemiterator","odict_iterator","itertools.zip_longest","itertools.pairwise"].contains n=false) (hQ:Q () s):X4 M A (B7 tg (.ref it) u) Q E s:=by
 unfold B7;cases tg<;>first
  |exact Xb hQ
  |(cases u<;>first
    |exact Xb hQ
    |(refine X3 (W6 ho ?_)
      rw[hc,hd];show X4 M A (if(["enumerate","zip","dict_itemiterator","dict_reverseitemiterator","odict_iterator","itertools.zip_longest","itertools.pairwise"].contains n&&vs[0]?==some (Y4 _))=true then _ else _) Q E s;rw[if_neg (by intro h;rw[hn,CV]at h;cases h)]
      exact Xb hQ))
noncomputable def Itl(K:X6)(a:Addr):It:=
 ⟨λi H=>∃xs x,SqL K H a xs/\xs[i]?=some x,λi H x H'=>H'=H/\∀xs,SqL K H a xs->xs[i]?=some x,λi H=>∃xs,SqL K H a xs/\xs.length≤i⟩
noncomputable def Itt(K:X6)(a:Addr):It:=
 ⟨λi H=>∃xs x,SqT K H a xs/\xs[i]?=some x,λi H x H'=>H'=H/\∀xs,SqT K H a xs->xs[i]?=some x,λi H=>∃xs,SqT K H a xs/\xs.length≤i⟩
noncomputable def Itr(lo:Int)(n:Nat):It:=⟨λi _=>i<n,λi H x H'=>H'=H/\x=.int (lo+i),λi _=>n≤i⟩
theorem Qn{P:Xm}{w:Xj}{K:X6}{tg:Expr}(a it:Addr):Turn P w K tg (Itl K a) [it] it (λi h=>h.IsListIter it a i)where
 mem:=by simp
 obj:=λi h st b hb=>by
  have e:b=it:=by simpa using hb
  subst e;obtain⟨o,e,c,d⟩:=st;exact⟨o,e,λv z=>by rw[d]at z;cases z⟩
 keep:=λi h h' st k=>st.at λo e=>k it (by simp) o e
 item:=by
  intro X hP hw hK hc i pins s σ H E I hf st hg;subst hP hw hK;obtain⟨xs,x,hq,hx⟩:=hg;obtain⟨its,rv,p,hz⟩:=I.list hq;obtain⟨u,hu,ru⟩:=rv.get hx;obtain⟨f0,f1,f2,f3,f4,f5⟩:=hf it (by simp)
  refine wpAny_pyNext_list_item st p.isList (x:=u) (by simpa using hu) λh' st' sb=>?_
  have I1:Inv X pins σ H {s with heap:=h'}:=I.turned (t':=s.toks) (λb o hb e=>(sb.2 b hb).trans e) f0 f1 f3 f4 f5;obtain⟨o,e,c,d⟩:=id st';exact⟨u,rfl,VJ (s:={s with heap:=h'}) e c d (by decide) ⟨x,H,I1,ru,⟨rfl,λys hy=>by rw[I.list_inj hy hq];exact hx⟩,st',λb hb=>(hf b hb).1⟩⟩
 done:=by
  intro X hP hw hK hc i pins s σ H E I hf st hg;subst hP hw hK;obtain⟨xs,hq,hx⟩:=hg;obtain⟨its,rv,p,hz⟩:=I.list hq;obtain⟨f0,f1,f2,f3,f4,f5⟩:=hf it (by simp)
  have hl:=rv.length;exact wpAny_pyNext_list_end (I.ok.hd hc) st p.isList (by simp;lia) λh' eb=>⟨rfl,I.turned (t':=s.toks) (λb o hb e=>eb b o hb e) f0 f1 f3 f4 f5⟩
 self:=λ_ _ _ _ _ st h=>wpAny_pyIter_listiter st h
theorem Qo{P:Xm}{w:Xj}{K:X6}{tg:Expr}(a it:Addr):Turn P w K tg (Itt K a) [it] it (λi h=>h.IsTupleIter it a i)where
 mem:=by simp
 obj:=λi h st b hb=>by
  have e:b=it:=by simpa using hb
  subst e;obtain⟨o,e,c,d⟩:=st;exact⟨o,e,λv z=>by rw[d]at z;cases z⟩
 keep:=λi h h' st k=>st.at λo e=>k it (by simp) o e
 item:=by
  intro X hP hw hK hc i pins s σ H E I hf st hg;subst hP hw hK;obtain⟨xs,x,hq,hx⟩:=hg;obtain⟨its,rv,p,hz⟩:=I.tuple hq;obtain⟨u,hu,ru⟩:=rv.get hx;obtain⟨f0,f1,f2,f3,f4,f5⟩:=hf it (by simp)
  refine wpAny_pyNext_tuple_item st (show s.heap.IsTuple a its.toArray from p) (x:=u) (by simpa using hu) λh' st' sb=>?_
  have I1:Inv X pins σ H {s with heap:=h'}:=I.turned (t':=s.toks) (λb o hb e=>(sb.2 b hb).trans e) f0 f1 f3 f4 f5;obtain⟨o,e,c,d⟩:=id st';exact⟨u,rfl,VJ (s:={s with heap:=h'}) e c d (by decide) ⟨x,H,I1,ru,⟨rfl,λys hy=>by rw[I.tuple_inj hy hq];exact hx⟩,st',λb hb=>(hf b hb).1⟩⟩
 done:=by
  intro X hP hw hK hc i pins s σ H E I hf st hg;subst hP hw hK;obtain⟨xs,hq,hx⟩:=hg;obtain⟨its,rv,p,hz⟩:=I.tuple hq;obtain⟨f0,f1,f2,f3,f4,f5⟩:=hf it (by simp)
  have hl:=rv.length;exact wpAny_pyNext_tuple_end (I.ok.hd hc) st (show s.heap.IsTuple a its.toArray from p) (by simp;lia) λh' eb=>⟨rfl,I.turned (t':=s.toks) (λb o hb e=>eb b o hb e) f0 f1 f3 f4 f5⟩
 self:=λ_ _ _ _ _ st h=>wpAny_pyIter_tupleiter st h
theorem Qp{P:Xm}{w:Xj}{K:X6}{tg:Expr}(it:Addr)(lo:Int)(n:Nat):Turn P w K tg (Itr lo n) [it] it (λi h=>IsRangeIter h it (lo+(i:Nat)*1) ((n:Int) - (i:Nat)) 1)where
 mem:=by simp
 obj:=λi h st b hb=>by
  have e:b=it:=by simpa using hb
  subst e;exact⟨_,st,λv z=>by
   have z':Ux _=Data.cell v:=z;cases z'⟩
 keep:=λi h h' st k=>k it (by simp) _ st
 item:=by
  intro X hP hw hK hc i pins s σ H E I hf st hg;subst hP hw hK;obtain⟨f0,f1,f2,f3,f4,f5⟩:=hf it (by simp)
  have W:=Walks.range (prog:=X.prog) (w:=X.w) (I.ok.hd hc) it lo 1 n;refine W.item i s _ _ hg st λv h' tk hv st' kk=>?_;obtain⟨t,rfl⟩:=hv;have I1:Inv X pins σ H {s with heap:=h',toks:=tk}:=I.turned (λb o hb e=>kk b o (by simpa using hb) e) f0 f1 f3 f4 f5
  refine⟨_,rfl,VJ (s:={s with heap:=h',toks:=tk}) (n:="range_iterator") st' rfl rfl (by decide) ⟨.int (lo+i),H,I1,⟨t,?_⟩,⟨rfl,rfl⟩,st',fun b hb=>(hf b hb).1⟩⟩
  rw[Int.mul_one]
 done:=by
  intro X hP hw hK hc i pins s σ H E I hf st hg;subst hP hw hK;obtain⟨f0,f1,f2,f3,f4,f5⟩:=hf it (by simp)
  exact wpAny_pyNext_range_end (I.ok.hd hc) st (by have:n≤i:=hg;lia) λh' eb=>⟨rfl,I.turned (t':=s.toks) (λb o hb e=>eb b o hb e) f0 f1 f3 f4 f5⟩
 self:=λ_ _ _ _ _ st h=>wpAny_pyIter_rangeiter st h
section
variable{X:Cx}{tg:Expr}
theorem GK{pins:List (Addr×Obj)}{σ:St}{H:Hp}{s:X1}{R:It->Hp->Prop}{E:X0->X1->Prop}{lo hi:Int}{t u v:Tok}{tk:Nat}(I:Inv X pins σ H s)(h1:-(2^62)≤lo)(h2:lo<2^62)(h3:-(2^62)≤hi)(h4:hi<2^62)
  (q:R (Itr lo (hi - lo).toNat) H):X4 (X9 X.prog X.w) X.A (pyIter (.ref s.heap.objs.size)) (PIE X pins σ tg R) E {s with heap:=s.heap.push {cls:=.type "range",data:=.fields #[.int lo t,.int hi u,.int 1 v]},toks:=tk}:=by
 refine wpAny_pyIter_range (Dg ..) (small_one h1 h2 h3 h4) ?_;have I1:Inv X pins σ H {s with heap:=s.heap.push {cls:=.type "range",data:=.fields #[.int lo t,.int hi u,.int 1 v]},toks:=tk}:=I.kept fun b o e=>Xr _ e;refine⟨(s.heap.push {cls:=.type "range",data:=.fields #[.int lo t,.int hi u,.int 1 v]}).objs.size,[(s.heap.push {cls:=.type "range",data:=.fields #[.int lo t,.int hi u,.int 1 v]}).objs.size],_,_,H,rfl,
  I1.kept (t':=tk) λb o e=>Xr _ e,Qp _ lo (hi - lo).toNat,?_,λb hb=>?_,q⟩
 ·have e1:lo+((0:Nat):Int)*1=lo:=by simp
  have e2:(((hi - lo).toNat:Nat):Int) - ((0:Nat):Int)=Wm lo hi 1:=by rw[rangeSize_one];split<;>lia
  show IsRangeIter _ _ (lo+((0:Nat):Int)*1) ((((hi - lo).toNat:Nat):Int) - ((0:Nat):Int)) 1;rw[e1,e2];exact XR _ rfl
 ·have e:b=(s.heap.push {cls:=.type "range",data:=.fields #[.int lo t,.int hi u,.int 1 v]}).objs.size:=by simpa using hb
  subst e;exact I1.fpOk (Xl _) (I1.hok.fresh (Xl _))
noncomputable def Qq(ta:TA):TI:=λσ H R=>ta σ H λvs H1=>∃j:Int,vs=[.int j]/\ -(2^62)≤j/\j<2^62/\R (Itr 0 j.toNat) H1
noncomputable def Qr(ta:TA):TI:=λσ H R=>ta σ H λvs H1=>∃i j:Int,vs=[.int i,.int j]/\(-(2^62)≤i/\i<2^62/\ -(2^62)≤j/\j<2^62)/\R (Itr i (j - i).toNat) H1
theorem Qs{a:Expr}{ta:TA}{p pos:Pos}(hg:Gl X "range")(hm:X.mg "range"=none)(ha:PA X [a] ta)(hs:XL [a] X.env=[(false,eval a X.env)]:=by rfl):PI X tg (.Call (.Name "range" p) [a] [] pos) (Qq ta):=by
 intro pins s σ H R I h;refine Call_ (Uz I hg hm boot_range (VF (thn (ha pos pins s σ H _ I h) λus s1 ⟨vs,H1,I1,r1,q1⟩=>?_) hs rfl));obtain⟨j,e,q1,q2,q⟩:=q1;subst e;cases r1 with
 |cons r rr=>
  cases rr;obtain⟨t,rfl⟩:=r;exact call_range_1 (GK I1 (by lia) (by lia) q1 q2 (by simpa using q))
theorem Qt{a b:Expr}{ta:TA}{p pos:Pos}(hg:Gl X "range")(hm:X.mg "range"=none)(ha:PA X [a,b] ta)(hs:XL [a,b] X.env=[(false,eval a X.env),(false,eval b X.env)]:=by rfl)(hs2:XL [b] X.env=[(false,eval b X.env)]:=by rfl):
  PI X tg (.Call (.Name "range" p) [a,b] [] pos) (Qr ta):=by
 intro pins s σ H R I h;refine Call_ (Uz I hg hm boot_range (VF (thn (ha pos pins s σ H _ I h) λus s1 ⟨vs,H1,I1,r1,q1⟩=>?_) (by rw[hs,hs2]) (by rw[hs2];rfl)))
 obtain⟨i,j,e,⟨q1,q2,q3,q4⟩,q⟩:=q1;subst e;cases r1 with
 |cons r rr=>
  cases rr with
  |cons r' rr=>
   cases rr;obtain⟨t,rfl⟩:=r;obtain⟨t',rfl⟩:=r';exact call_range_2 (GK I1 q1 q2 q3 q4 q)
noncomputable def tFor(wi:TI)(g:TG)(tb:TS):TS:=λD σ H=>wi σ H λJ H1=>∃W:Nat->Nat->St->Hp->Prop,(∃m,W 0 m σ H1)/\∀i m σ H,W i m σ H->
 (J.stop i H/\D.nx σ H)\/(J.go i H/\∃N:St->Hp->Prop,(∀σ' H',N σ' H'->∃m',m'<m/\W (i+1) m' σ' H')/\∀x H',J.yld i H x H'->g x σ H' λσ2 H2=>tb {D with nx:=N,ct:=N,bk:=D.nx} σ2 H2)
noncomputable def Wq(fp:List Addr)(h:Heap):List (Addr×Obj):=fp.filterMap λb=>(h.get? b).map λo=>(b,o)
theorem BO{fp:List Addr}{h:Heap}{b:Addr}{o:Obj}(hb:b∈fp)(e:h.get? b=some o):(b,o)∈Wq fp h:=CM.mpr ⟨b,hb,by rw[e];rfl⟩
theorem Qu{fp:List Addr}{h:Heap}{p:Addr×Obj}(hp:p∈Wq fp h):p.1∈fp/\h.get? p.1=some p.2:=by
 obtain⟨b,hb,e⟩:=CM.mp hp;cases q:h.get? b with
 |none=>rw[q]at e;cases e
 |some o=>
  rw[q]at e;have e':(b,o)=p:=Yg e;subst e';exact⟨hb,q⟩
theorem Inv.pinned{pins:List (Addr×Obj)}{σ:St}{H:Hp}{s:X1}{fp:List Addr}(I:Inv X pins σ H s)(hf:∀b∈fp,FpOk X pins H b)(ho:∀b∈fp,∃o,s.heap.get? b=some o/\∀v,o.data≠.cell v):Inv X (pins++Wq fp s.heap) σ H s:=
 I.pins_of λp hp=>(Yf.mp hp).elim (λz=>I.pin p (Ur _ z)) λz=>by
  obtain⟨hb,e⟩:=Qu z;obtain⟨f0,f1,f2,_⟩:=hf p.1 hb;obtain⟨o,e',d⟩:=ho p.1 hb;rw[e]at e';cases e';exact⟨e,f0,f1,f2,d⟩
theorem Inv.unpinned{pins pl:List (Addr×Obj)}{σ:St}{H:Hp}{s:X1}(I:Inv X (pins++pl) σ H s):Inv X pins σ H s:=I.pins_of λp hp=>I.pin p (Ur _ (CJ _ hp))
theorem Qv{iter:Expr}{body:List Stmt}{wi:TI}{g:TG}{tb:TS}{pos:Pos}(hp:PassesOwn (X9 X.prog X.w) X.A X.env X.xe)(hc:X.calm=true)(hi:PI X tg iter wi)(hg:PG X tg g)(hb:PSs X body tb)
  (hs:∀x,B8 iter X.env x=pure x:=by intro _;rfl):PS X (.For tg iter body [] pos) (tFor wi g tb):=by
 intro pins s σ H D I h;refine wpAny_For (thn (hi pins s σ H _ I h) λv s1 h1=>thn h1 λitv s2 h2=>?_) hs;obtain⟨it,fp,tn,J,H2,e,I2,T,st2,f2,W,⟨m0,w0⟩,turn⟩:=h2;subst e;have stat:∀{H':Hp},(∀b∈fp,H' b=none)->∀b∈fp,FpOk X pins H' b:=λhn b hb=>⟨hn b hb,(f2 b hb).2⟩;refine codeAny_forLoop_any (λn s'=>∃i σ' H',Inv X pins σ' H' s'/\tn i s'.heap/\(∀b∈fp,H' b=none)/\W i n σ' H') ?_ m0 ⟨0,σ,H2,I2,st2,λb hb=>(f2 b hb).1,w0⟩;rintro n s3 ⟨i,σ3,H3,I3,st3,fr3,w3⟩;rcases turn i n σ3 H3 w3 with⟨stop,qn⟩|⟨go,N,hN,step⟩
 ·refine Vt hp (thn (T.done X rfl rfl rfl hc i pins s3 σ3 H3 X.xe I3 (stat fr3) st3 stop) λr s4 ⟨hr,I4⟩=>?_);subst hr;exact wpAny_execs_nil ⟨σ3,H3,I4,qn⟩
 ·refine Vt hp (thn (T.item X rfl rfl rfl hc i pins s3 σ3 H3 X.xe I3 (stat fr3) st3 go) λr s4 ⟨u,hr,h4⟩=>?_);subst hr;refine Vt hp (thn h4 λ_ s5 ⟨x,H5,I5,r5,y5,st5,fr5⟩=>?_);have I5':=I5.pinned (stat fr5) (T.obj _ _ st5);refine Vt hp (thn (hg _ s5 σ3 H5 x u _ I5' r5 (step x H5 y5)) λ_ s6 ⟨σ6,H6,I6,q6⟩=>?_);refine Vt hp (thn (hb _ s6 σ6 H6 _ I6 q6) λf s7 q7=>?_);have again:∀{σ7:St} {H7:Hp},Inv X (pins++Wq fp s5.heap) σ7 H7 s7->N σ7 H7->∃m,m<n/\∃i σ' H',Inv X pins σ' H' s7/\tn i s7.heap/\(∀b∈fp,H' b=none)/\W i m σ' H':=fun{σ7 H7} I7 n7=>by
   obtain⟨m',hm,w7⟩:=hN σ7 H7 n7;refine⟨m',hm,i+1,σ7,H7,I7.unpinned,T.keep _ _ _ st5 λb hb o e=>(I7.pin (b,o) (Ur _ (Ur _ (BO hb e)))).1,λb hb=>?_,w7⟩;obtain⟨o,e,d⟩:=T.obj _ _ st5 b hb;exact(I7.pin (b,o) (Ur _ (Ur _ (BO hb e)))).2.1
  cases f with
  |next=>obtain⟨σ7,H7,I7,n7⟩:=q7;exact again I7 n7
  |cont=>obtain⟨σ7,H7,I7,n7⟩:=q7;exact again I7 n7
  |brk=>obtain⟨σ7,H7,I7,q7⟩:=q7;exact⟨σ7,H7,I7.unpinned,q7⟩
  |ret v=>obtain⟨x7,σ7,H7,I7,r7,q7⟩:=q7;exact⟨x7,σ7,H7,I7.unpinned,r7,q7⟩
end
noncomputable abbrev R2:=V->V->Hp->VK->Prop
noncomputable def OpR(X:Cx)(f:X0->X0->Sem X0)(r:R2):Prop:=
 ∀(pins:List (Addr×Obj)) (s:X1) (σ:St) (H:Hp) (x y:V) (v u:X0) (Q:VK),Inv X pins σ H s->RelV x v->RelV y u->r x y H Q->
  X4 (X9 X.prog X.w) X.A (f v u) (EP X pins σ Q) X.xe s
noncomputable def UnR(X:Cx)(f:X0->Sem X0)(r:V->Hp->VK->Prop):Prop:=
 ∀(pins:List (Addr×Obj)) (s:X1) (σ:St) (H:Hp) (x:V) (v:X0) (Q:VK),Inv X pins σ H s->RelV x v->r x H Q->
  X4 (X9 X.prog X.w) X.A (f v) (EP X pins σ Q) X.xe s
noncomputable def CallR(X:Cx)(f:X0)(r:List V->Hp->VK->Prop):Prop:=
 ∀(pins:List (Addr×Obj)) (s:X1) (σ:St) (H:Hp) (xs:List V) (us:List X0) (Q:VK),Inv X pins σ H s->Vals xs us->r xs H Q->
  X4 (X9 X.prog X.w) X.A (call f us) (EP X pins σ Q) X.xe s
noncomputable def tOp(r:R2)(ta tb:TE):TE:=λσ H Q=>ta σ H λx H1=>tb σ H1 λy H2=>r x y H2 Q
noncomputable def tUn(r:V->Hp->VK->Prop)(ta:TE):TE:=λσ H Q=>ta σ H λx H1=>r x H1 Q
noncomputable def rI(C:Int->Int->Prop)(g:Int->Int->V):R2:=λx y H Q=>∃i j,x=.int i/\y=.int j/\C i j/\Q (g i j) H
noncomputable def rI0(g:Int->Int->V):R2:=λx y H Q=>∃i j,x=.int i/\y=.int j/\Q (g i j) H
noncomputable def rU(g:Int->V):V->Hp->VK->Prop:=λx H Q=>∃i,x=.int i/\Q (g i) H
section
variable{X:Cx}{a b c:Expr}{ta tb tc:TE}{pos:Pos}
theorem binT(ha:PE X a ta)(hb:PE X b tb){pins:List (Addr×Obj)}{s:X1}{σ:St}{H:Hp}{R:V->V->Hp->Prop}(I:Inv X pins σ H s)
  (h:ta σ H λx H1=>tb σ H1 λy H2=>R x y H2) {Q:X0->X1->Prop} {f:X0->X0->Sem X0}
  (hf:∀v u s2 x y H2,Inv X pins σ H2 s2->RelV x v->RelV y u->R x y H2->X4 (X9 X.prog X.w) X.A (f v u) Q X.xe s2):
  X4 (X9 X.prog X.w) X.A (eval a X.env) (λv s₁=>X4 (X9 X.prog X.w) X.A (eval b X.env) (λu s₂=>X4 (X9 X.prog X.w) X.A (f v u) Q X.xe s₂) X.xe s₁) X.xe s:=by
 refine thn (ha pins s σ H _ I h) λv s1 ⟨x,H1,I1,r1,q1⟩=>?_;refine thn (hb pins s1 σ H1 _ I1 q1) λu s2 ⟨y,H2,I2,r2,q2⟩=>?_;exact hf v u s2 x y H2 I2 r1 r2 q2
theorem Qw{op:UJ}{r:R2}(ho:OpR X (Z6 op) r)(ha:PE X a ta)(hb:PE X b tb):PE X (.BinOp a op b pos) (tOp r ta tb):=by
 intro pins s σ H Q I h;exact wpAny_BinOp (binT ha hb I h λv u s2 x y H2 I2 rx ry q=>ho pins s2 σ H2 x y v u Q I2 rx ry q)
theorem Qx{op:UnaryOp}{r:V->Hp->VK->Prop}(ho:UnR X (unaryOp op) r)(ha:PE X a ta):PE X (.UnaryOp op a pos) (tUn r ta):=by
 intro pins s σ H Q I h;exact UnaryOp_ (thn (ha pins s σ H _ I h) λv s1 ⟨x,H1,I1,r1,q1⟩=>ho pins s1 σ H1 x v Q I1 r1 q1)
theorem opI{f:X0->X0->Sem X0}{C:Int->Int->Prop}{g:Int->Int->Int}
  (rule:∀(i j:Int) (t u:Tok) (s:X1) (Q:X0->X1->Prop) (E:X0->X1->Prop),C i j->Q (.int (g i j) s.toks) {s with toks:=s.toks+1}->X4 (X9 X.prog X.w) X.A (f (.int i t) (.int j u)) Q E s):
  OpR X f (rI C λi j=>.int (g i j)):=by
 intro pins s σ H x y v u Q I rx ry h;obtain⟨i,j,rfl,rfl,hc,q⟩:=h;obtain⟨t,rfl⟩:=rx;obtain⟨t',rfl⟩:=ry;exact rule i j t t' s _ _ hc ⟨.int (g i j),H,I.tok _,⟨_,rfl⟩,q⟩
theorem opI0{f:X0->X0->Sem X0}{g:Int->Int->Int}
  (rule:∀(i j:Int) (t u:Tok) (s:X1) (Q:X0->X1->Prop) (E:X0->X1->Prop),Q (.int (g i j) s.toks) {s with toks:=s.toks+1}->X4 (X9 X.prog X.w) X.A (f (.int i t) (.int j u)) Q E s):
  OpR X f (rI0 λi j=>.int (g i j)):=by
 intro pins s σ H x y v u Q I rx ry h;obtain⟨i,j,rfl,rfl,q⟩:=h;obtain⟨t,rfl⟩:=rx;obtain⟨t',rfl⟩:=ry;exact rule i j t t' s _ _ ⟨.int (g i j),H,I.tok _,⟨_,rfl⟩,q⟩
theorem opB0{f:X0->X0->Sem X0}{g:Int->Int->Bool}
  (rule:∀(i j:Int) (t u:Tok) (s:X1) (Q:X0->X1->Prop) (E:X0->X1->Prop),Q (.bool (g i j)) s->X4 (X9 X.prog X.w) X.A (f (.int i t) (.int j u)) Q E s):
  OpR X f (rI0 λi j=>.bl (g i j)):=by
 intro pins s σ H x y v u Q I rx ry h;obtain⟨i,j,rfl,rfl,q⟩:=h;obtain⟨t,rfl⟩:=rx;obtain⟨t',rfl⟩:=ry;exact rule i j t t' s _ _ ⟨.bl (g i j),H,I,rfl,q⟩
noncomputable def CPow(i j:Int):Prop:=0≤j/\j≤1000000/\i.natAbs<2^64
noncomputable def CMul(i j:Int):Prop:=(-(2^64)<i/\i<2^64)\/(-(2^64)<j/\j<2^64)
theorem CMul.ok{i j:Int}(h:CMul i j):IntMulOk i j:=by
 rcases h with⟨h1,h2⟩|⟨h1,h2⟩
 ·exact .of_left (intBits_le_64 h1 h2)
 ·exact .of_right (intBits_le_64 h1 h2)
theorem Qy:OpR X (Z6 .Add) (rI0 λi j=>.int (i+j)):=opI0 λ_ _ _ _ _ _ _ q=>add_int q
theorem Qz:OpR X (Z6 .Sub) (rI0 λi j=>.int (i - j)):=opI0 λ_ _ _ _ _ _ _ q=>sub_int q
theorem QA:OpR X (Z6 .Mult) (rI CMul λi j=>.int (i*j)):=opI λ_ _ _ _ _ _ _ hc q=>mul_int q hc.ok
theorem QB:OpR X (Z6 .Mod) (rI (λ_ j=>0<j) λi j=>.int (i%j)):=opI λi j _ _ _ _ _ hc q=>by
 have h1:(0:Int)<j:=hc;exact mod_int' (by lia) (by rw[Int.fmod_eq_emod_of_nonneg i (by lia)];exact q)
theorem QC:OpR X (Z6 .LShift) (rI CPow λi j=>.int (i*2^j.toNat)):=opI λ_ _ _ _ _ _ _ hc q=>lshift_int_small hc.1 hc.2.1 hc.2.2 q
theorem unI{f:X0->Sem X0}{g:Int->Int}
  (rule:∀(i:Int) (t:Tok) (s:X1) (Q:X0->X1->Prop) (E:X0->X1->Prop),Q (.int (g i) s.toks) {s with toks:=s.toks+1}->X4 (X9 X.prog X.w) X.A (f (.int i t)) Q E s):
  UnR X f (rU λi=>.int (g i)):=by
 intro pins s σ H x v Q I rx h;obtain⟨i,rfl,q⟩:=h;obtain⟨t,rfl⟩:=rx;exact rule i t s _ _ ⟨.int (g i),H,I.tok _,⟨_,rfl⟩,q⟩
theorem QD:UnR X (unaryOp .USub) (rU λi=>.int (-i)):=unI λ_ _ _ _ _ q=>neg_int q
end
noncomputable def scal:V->V->Bool
 |.non,.non=>true|.non,.int _=>true|.int _,.non=>true|.non,.bl _=>true|.bl _,.non=>true|.non,.str _=>true|.str _,.non=>true
 |.int _,.int _=>true|.bl _,.bl _=>true|.str _,.str _=>true|.byt _,.byt _=>true
 |.int _,.str _=>true|.str _,.int _=>true|.bl _,.str _=>true|.str _,.bl _=>true
 |_,_=>false
noncomputable def rEq:R2:=λx y H Q=>scal x y=true/\Q (.bl (decide (x=y))) H
noncomputable def rNe:R2:=λx y H Q=>scal x y=true/\Q (.bl (!decide (x=y))) H
theorem GM{i j:Int}:decide (V.int i=V.int j)=(i==j):=by
 rw[Bq];simp
theorem GN{i j:Bool}:decide (V.bl i=V.bl j)=(i==j):=by
 rw[Bq];simp
theorem GO{i j:Str}:decide (V.str i=V.str j)=(i==j):=by
 rw[Bq];simp
theorem GP{i j:Array UInt8}:decide (V.byt i=V.byt j)=(i.toList==j.toList):=by
 rw[Bq];cases i;cases j;simp
section
variable{X:Cx}{a b c:Expr}{ta tb tc:TE}{pos:Pos}
theorem XO{pins:List (Addr×Obj)}{σ:St}{H:Hp}{s:X1}{Q:VK}{k k':Bool}(I:Inv X pins σ H s)(q:Q (.bl k) H)(e:k=k'):EP X pins σ Q (.bool k') s:=by
 subst e;exact⟨.bl k,H,I,rfl,q⟩
theorem QE:OpR X (Y2 .Eq) rEq:=by
 intro pins s σ H x y v u Q I rx ry h;obtain⟨hs,q⟩:=h;cases x with
 |non=>
  cases rx;cases y with
  |non=>cases ry;exact PySem.EqNone.eq_none_none (XO I q (by simp))
  |bl j=>cases ry;exact PySem.EqNone.eq_none_bool (XO I q (by simp))
  |int j=>obtain⟨t',rfl⟩:=ry;exact PySem.EqNone.eq_none_int (XO I q (by simp))
  |str j=>obtain⟨t',rfl⟩:=ry;exact PySem.EqNone.eq_none_str (XO I q (by simp))
  |_=>exact absurd (show false=true from hs) XF
 |bl i=>
  cases rx;cases y with
  |non=>cases ry;exact PySem.EqNone.eq_bool_none (XO I q (by simp))
  |bl j=>cases ry;exact eq_bool (XO I q GN)
  |str j=>obtain⟨t',rfl⟩:=ry;exact PySem.EqMixed.eq_bool_str (XO I q (by simp))
  |_=>exact absurd (show false=true from hs) XF
 |int i=>
  obtain⟨t,rfl⟩:=rx;cases y with
  |non=>cases ry;exact PySem.EqNone.eq_int_none (XO I q (by simp))
  |int j=>obtain⟨t',rfl⟩:=ry;exact eq_int (XO I q GM)
  |str j=>obtain⟨t',rfl⟩:=ry;exact PySem.EqMixed.eq_int_str (XO I q (by simp))
  |_=>exact absurd (show false=true from hs) XF
 |str i=>
  obtain⟨t,rfl⟩:=rx;cases y with
  |non=>cases ry;exact PySem.EqNone.eq_str_none (XO I q (by simp))
  |bl j=>cases ry;exact PySem.EqMixed.eq_str_bool (XO I q (by simp))
  |int j=>obtain⟨t',rfl⟩:=ry;exact PySem.EqMixed.eq_str_int (XO I q (by simp))
  |str j=>obtain⟨t',rfl⟩:=ry;exact eq_str (XO I q GO)
  |_=>exact absurd (show false=true from hs) XF
 |byt i=>
  obtain⟨t,rfl⟩:=rx;cases y with
  |byt j=>obtain⟨t',rfl⟩:=ry;exact PySem.W.eq_bytes (XO I q GP)
  |_=>exact absurd (show false=true from hs) XF
 |_=>cases y<;>exact absurd (show false=true from hs) XF
theorem QF:OpR X (Y2 .NotEq) rNe:=by
 intro pins s σ H x y v u Q I rx ry h;obtain⟨hs,q⟩:=h;cases x with
 |non=>
  cases rx;cases y with
  |non=>cases ry;exact PySem.EqNone.ne_none_none (XO I q (by simp))
  |bl j=>cases ry;exact PySem.EqNone.ne_none_bool (XO I q (by simp))
  |int j=>obtain⟨t',rfl⟩:=ry;exact PySem.EqNone.ne_none_int (XO I q (by simp))
  |str j=>obtain⟨t',rfl⟩:=ry;exact PySem.EqNone.ne_none_str (XO I q (by simp))
  |_=>exact absurd (show false=true from hs) XF
 |bl i=>
  cases rx;cases y with
  |non=>cases ry;exact PySem.EqNone.ne_bool_none (XO I q (by simp))
  |bl j=>cases ry;exact ne_bool (XO I q (congrArg not GN))
  |str j=>obtain⟨t',rfl⟩:=ry;exact PySem.EqMixed.ne_bool_str (XO I q (by simp))
  |_=>exact absurd (show false=true from hs) XF
 |int i=>
  obtain⟨t,rfl⟩:=rx;cases y with
  |non=>cases ry;exact PySem.EqNone.ne_int_none (XO I q (by simp))
  |int j=>obtain⟨t',rfl⟩:=ry;exact ne_int (XO I q (congrArg not GM))
  |str j=>obtain⟨t',rfl⟩:=ry;exact PySem.EqMixed.ne_int_str (XO I q (by simp))
  |_=>exact absurd (show false=true from hs) XF
 |str i=>
  obtain⟨t,rfl⟩:=rx;cases y with
  |non=>cases ry;exact PySem.EqNone.ne_str_none (XO I q (by simp))
  |bl j=>cases ry;exact PySem.EqMixed.ne_str_bool (XO I q (by simp))
  |int j=>obtain⟨t',rfl⟩:=ry;exact PySem.EqMixed.ne_str_int (XO I q (by simp))
  |str j=>obtain⟨t',rfl⟩:=ry;exact ne_str (XO I q (congrArg not GO))
  |_=>exact absurd (show false=true from hs) XF
 |byt i=>
  obtain⟨t,rfl⟩:=rx;cases y with
  |byt j=>obtain⟨t',rfl⟩:=ry;exact PySem.W.ne_bytes (XO I q (congrArg not GP))
  |_=>exact absurd (show false=true from hs) XF
 |_=>cases y<;>exact absurd (show false=true from hs) XF
theorem QG:OpR X (Y2 .Lt) (rI0 λi j=>.bl (decide (i<j))):=opB0 λ_ _ _ _ _ _ _ q=>lt_int q
theorem QH:OpR X (Y2 .LtE) (rI0 λi j=>.bl (decide (i≤j))):=opB0 λ_ _ _ _ _ _ _ q=>le_int q
theorem QI:OpR X (Y2 .Gt) (rI0 λi j=>.bl (decide (j<i))):=opB0 λ_ _ _ _ _ _ _ q=>gt_int q
theorem QJ:OpR X (Y2 .GtE) (rI0 λi j=>.bl (decide (j≤i))):=opB0 λ_ _ _ _ _ _ _ q=>ge_int q
theorem QK:OpR X (Y2 .Is) (λx y H Q=>y=.non/\Q (.bl (decide (x=.non))) H):=by
 intro pins s σ H x y v u Q I rx ry h;obtain⟨rfl,q⟩:=h;cases ry;refine is_none_gen (XO I q ?_);cases x<;>first
  |(cases rx;rfl)
  |(obtain⟨t,rfl⟩:=rx;rfl)
theorem QL:OpR X (Y2 .IsNot) (λx y H Q=>y=.non/\Q (.bl (!decide (x=.non))) H):=by
 intro pins s σ H x y v u Q I rx ry h;obtain⟨rfl,q⟩:=h;cases ry;refine isnot_none_gen (XO I q ?_);cases x<;>first
  |(cases rx;rfl)
  |(obtain⟨t,rfl⟩:=rx;rfl)
theorem OpR.or{f:X0->X0->Sem X0}{r r':R2}(h:OpR X f r)(h':OpR X f r'):OpR X f (λx y H Q=>r x y H Q\/r' x y H Q):=by
 intro pins s σ H x y v u Q I rx ry q;rcases q with q|q
 ·exact h pins s σ H x y v u Q I rx ry q
 ·exact h' pins s σ H x y v u Q I rx ry q
theorem nomark(b:Expr){op:Yw}(h:op≠.In:=by decide)(h2:op≠.NotIn:=by decide):WT op b=false:=by
 have e1:(op==CmpOp.In)=false:=by cases op<;>first|rfl|exact absurd rfl h
 have e2:(op==CmpOp.NotIn)=false:=by cases op<;>first|rfl|exact absurd rfl h2
 cases b<;>simp[WT,e1,e2]
theorem QN{op:Yw}{r:R2}(ho:OpR X (Y2 op) r)(ha:PE X a ta)(hb:PE X b tb)(hm:WT op b=false):PE X (.Compare a [op] [b] pos) (tOp r ta tb):=by
 intro pins s σ H Q I h;exact wpAny_Compare1 (binT ha hb I h λv u s2 x y H2 I2 rx ry q=>ho pins s2 σ H2 x y v u Q I2 rx ry q) hm
noncomputable def GQ(t:TE):TT:=λσ H Q=>t σ H λx H'=>∃k,x=.bl k/\Q k H'
theorem QO{op:Yw}{r:R2}(ho:OpR X (Y2 op) r)(ha:PE X a ta)(hb:PE X b tb)(hm:WT op b=false):PT X (.Compare a [op] [b] pos) (GQ (tOp r ta tb)):=by
 intro pins s σ H Q I h;refine wpAny_isTrue_Compare1 (thn (ha pins s σ H _ I h) λv s1 ⟨x,H1,I1,r1,q1⟩=>thn (hb pins s1 σ H1 _ I1 q1) λu s2 ⟨y,H2,I2,r2,q2⟩=>
  thn (ho pins s2 σ H2 x y v u _ I2 r1 r2 q2) λc s3 ⟨z,H3,I3,r3,k,e,q3⟩=>?_) hm
 subst e;cases r3;exact Um ⟨H3,I3,q3⟩
noncomputable def Dh(r r':R2)(ta tb tc:TE):TE:=λσ H Q=>ta σ H λx H1=>tb σ H1 λy H2=>r x y H2 λz H3=>∃k,z=.bl k/\
 (if k=true then tc σ H3 λw' H4=>r' y w' H4 Q else Q (.bl false) H3)
theorem QP{op op':Yw}{r r':R2}(ho:OpR X (Y2 op) r)(ho':OpR X (Y2 op') r')(ha:PE X a ta)(hb:PE X b tb)(hc:PE X c tc)
  (hm:lastMarks [op,op'] [b,c]=false:=by with_unfolding_all rfl):PE X (.Compare a [op,op'] [b,c] pos) (Dh r r' ta tb tc):=by
 intro pins s σ H Q I h;refine Compare_chain (thn (ha pins s σ H _ I h) λv s1 ⟨x,H1,I1,r1,q1⟩=>chain_link (thn (hb pins s1 σ H1 _ I1 q1) λu s2 ⟨y,H2,I2,r2,q2⟩=>
  thn (ho pins s2 σ H2 x y v u _ I2 r1 r2 q2) λd s3 ⟨z,H3,I3,r3,k,e,q3⟩=>?_)) hm
 subst e;cases r3;refine Um ?_;cases k with
 |false=>exact ite_ff ⟨.bl false,H3,I3,rfl,q3⟩
 |true=>exact ite_tt (chain_last (thn (hc pins s3 σ H3 _ I3 q3) λw' s4 ⟨z',H4,I4,r4,q4⟩=>ho' pins s4 σ H4 y z' u w' Q I4 r2 r4 q4))
theorem QQ{op op':Yw}{r r':R2}(ho:OpR X (Y2 op) r)(ho':OpR X (Y2 op') r')(ha:PE X a ta)(hb:PE X b tb)(hc:PE X c tc)
  (hm:lastMarks [op,op'] [b,c]=false:=by with_unfolding_all rfl):PT X (.Compare a [op,op'] [b,c] pos) (GQ (Dh r r' ta tb tc)):=by
 intro pins s σ H Q I h;refine isTrue_chain (thn (ha pins s σ H _ I h) λv s1 ⟨x,H1,I1,r1,q1⟩=>test_link (thn (hb pins s1 σ H1 _ I1 q1) λu s2 ⟨y,H2,I2,r2,q2⟩=>
  thn (ho pins s2 σ H2 x y v u _ I2 r1 r2 q2) λd s3 ⟨z,H3,I3,r3,k,e,q3⟩=>?_)) hm
 subst e;cases r3;refine Um ?_;cases k with
 |false=>
  obtain⟨k',e',q'⟩:=q3;cases e';exact ite_ff ⟨H3,I3,q'⟩
 |true=>
  refine ite_tt (test_last (thn (hc pins s3 σ H3 _ I3 q3) λw' s4 ⟨z',H4,I4,r4,q4⟩=>thn (ho' pins s4 σ H4 y z' u w' _ I4 r2 r4 q4) λd' s5 ⟨z2,H5,I5,r5,k2,e2,q5⟩=>?_));subst e2;cases r5;exact Um ⟨H5,I5,q5⟩
theorem Wr:(sizeLine:Nat)<2^63:=by rw[sizeLine_eq];decide
theorem QR:OpR X (Z6 .Add) (λx y H Q=>∃i j,x=.str i/\y=.str j/\i.length+j.length≤sizeLine/\Q (.str (i++j)) H):=by
 intro pins s σ H x y v u Q I rx ry h;obtain⟨i,j,rfl,rfl,hz,q⟩:=h;obtain⟨t,rfl⟩:=rx;obtain⟨t',rfl⟩:=ry;exact add_str (λt' tk=>⟨.str (i++j),H,I.tok _,⟨_,rfl⟩,q⟩) hz
theorem YQ{x:V}{us:List X0}(r:Vals [x] us):∃u,us=[u]/\RelV x u:=by
 cases r with
 |cons r1 r2=>cases r2;exact⟨_,rfl,r1⟩
theorem Ws{x y:V}{us:List X0}(r:Vals [x,y] us):∃u w',us=[u,w']/\RelV x u/\RelV y w':=by
 cases r with
 |cons r1 r2=>
  cases r2 with
  |cons r3 r4=>cases r4;exact⟨_,_,rfl,r1,r3⟩
theorem QS:CallR X (.builtin "abs") (fun xs H Q=>∃i,xs=[.int i]/\Q (.int (if i<0 then -i else i)) H):=by
 intro pins s σ H xs us Q I r h;obtain⟨i,rfl,q⟩:=h;obtain⟨u,rfl,t,rfl⟩:=YQ r;exact call_abs_int λu tk=>⟨.int (if i<0 then -i else i),H,I.tok _,⟨_,rfl⟩,q⟩
theorem QT(hc:X.calm=true):CallR X (.builtin "max") (fun xs H Q=>∃i j,xs=[.int i,.int j]/\Q (.int (if j>i then j else i)) H):=by
 intro pins s σ H xs us Q I r h;obtain⟨i,j,rfl,q⟩:=h;obtain⟨u,w',rfl,⟨t,rfl⟩,⟨t',rfl⟩⟩:=Ws r;refine max_two_ints (I.ok.hd hc) λh' tk k=>⟨_,H,I.kept k,?_,q⟩;by_cases hj:j>i
 ·rw[if_pos hj,if_pos hj];exact⟨_,rfl⟩
 ·rw[if_neg hj,if_neg hj];exact⟨_,rfl⟩
theorem QU(hc:X.calm=true):CallR X (.builtin "min") (fun xs H Q=>∃i j,xs=[.int i,.int j]/\Q (.int (if j<i then j else i)) H):=by
 intro pins s σ H xs us Q I r h;obtain⟨i,j,rfl,q⟩:=h;obtain⟨u,w',rfl,⟨t,rfl⟩,⟨t',rfl⟩⟩:=Ws r;refine min_two_ints (I.ok.hd hc) λh' tk k=>⟨_,H,I.kept k,?_,q⟩;by_cases hj:j<i
 ·rw[if_pos hj,if_pos hj];exact⟨_,rfl⟩
 ·rw[if_neg hj,if_neg hj];exact⟨_,rfl⟩
theorem GR:CallR X (.type "int") (fun xs H Q=>(∃i,xs=[.int i]/\Q (.int i) H)\/∃k,xs=[.bl k]/\Q (.int (if k then 1 else 0)) H):=by
 intro pins s σ H xs us Q I r h;rcases h with⟨i,rfl,q⟩|⟨k,rfl,q⟩
 ·obtain⟨u,rfl,t,rfl⟩:=YQ r;exact call_int_int ⟨.int i,H,I,⟨_,rfl⟩,q⟩
 ·obtain⟨u,rfl,r1⟩:=YQ r;cases r1;exact call_int_bool ⟨.int (if k then 1 else 0),H,I.tok _,⟨_,rfl⟩,q⟩
end
structure ObjM (h:Heap) (x dx C:Addr) (mA:Str->Option X0):Prop where
 obj:h.get? x=some (Vy C dx)
 ns:h.Ns1 dx mA
 ne:dx≠x
theorem QV{h:Heap}{dx:Addr}{mA:Str->Option X0}(n:h.Ns1 dx mA):∃od,h.get? dx=some od/\∀name,CU name od=some (mA name):=by
 obtain⟨o,es,ep,ho,hd,hk,_,hm⟩:=n;refine⟨o,ho,λname=>?_⟩;have e:=hm name;unfold nsFind findBy at e;rw[<- Array.find?_toList]at e;unfold CU;rw[hd];dsimp only;split
 ·rename_i y q
  rw[q]at e;exact congrArg some e
 ·rename_i q
  rw[q]at e;have a:es.toList.any (·.refKey)=false:=by
   rw[List.any_eq_false];intro y hy;obtain⟨z,t,hkey⟩:=hk y (Array.mem_toList_iff.mp hy);simp[DictEntry.refKey,hkey]
  have a':¬es.toList.any (·.refKey)=true:=by rw[a];exact XF
  rw[if_neg a'];exact congrArg some e
theorem ObjM.look{h:Heap}{x dx C:Addr}{mA:Str->Option X0}(I:ObjM h x dx C mA):∃od,PySem.W.InstAt h x (Vy C dx) C (some od)/\∀name,CU name od=some (mA name):=
 let⟨od,ho,hl⟩:=QV I.ns
 ⟨od,⟨I.obj,rfl,rfl,ho⟩,hl⟩
section
variable{prog:Xm}{w:Xj}{A:Xs}{E:X0->X1->Prop}{s:X1}{K:X6}{x dx C f:Addr}{mA:Str->Option X0}{name:Str}{v:X0}
end
theorem RelO.some_of{v:V}{o:Option X0}(r:RelO (some v) o):∃u,o=some u/\RelV v u:=by
 cases o with
 |none=>exact(show False from r).elim
 |some u=>exact⟨u,rfl,r⟩
section
variable{P:Xm}{w:Xj}{H H':Hp}{h h':Heap}{a C dx:Addr}{fs fs':List (Str×V)}
theorem GS(hok:HOk P w H h)(e:H a=some (.ins C dx fs)):∃mA,ObjM h a dx C mA/\(∀f,RelO (fs.lookup f) (mA f))/\PySem.Within mA (fs.map (·.1))/\fs.length≤1000/\H dx=some (.own a):=by
 obtain⟨d,z,ne,ob,mA,n,r,q⟩:=(show ObjOk P w H h a (.ins C dx fs)from hok a _ e);exact⟨mA,⟨ob,n,ne⟩,r,q,z,d⟩
end
structure Cls (K:X6) (C:Addr):Prop where
 pg:PySem.W.plainGet K C Aa=true
 hd:PySem.W.hasDictIn K C=true
 po:PySem.W.plainOver K C=true
 sa:Wf K (.ref C) "__setattr__"=some (some (.builtin "object.__setattr__"))
theorem Cls.get{K:X6}{C:Addr}(c:Cls K C)(f:Str):PySem.W.plainGet K C f=true:=c.pg
noncomputable def Di(K:X6)(C:Addr)(f:Str):Prop:=Wf K (.ref C) f=some none
structure Con (K:X6) (C:Addr) (f:Str) (v:V) (u:X0):Prop where
 at_:Wf K (.ref C) f=some (some u)
 rel:RelV v u
 get:PySem.W.specialIn K u "__get__"=some none
 cp:PySem.W.copiedNames.contains f=false
structure Meth (K:X6) (C:Addr) (m:Str) (f:Addr):Prop where
 at_:Wf K (.ref C) m=some (some (.ref f))
 fn:PySem.W.isFn K (.ref f)=true
 kp:Xq K (.ref f)=true
section
variable{X:Cx}{pins:List (Addr×Obj)}{σ:St}{H:Hp}{s:X1}{a C dx:Addr}{fs:List (Str×V)}{f:Str}{v:V}{A:Xs}{E:X0->X1->Prop}
theorem Inv.made(I:Inv X pins σ H s):Inv X pins σ (upd (upd H s.heap.objs.size (.own (s.heap.objs.size+1))) (s.heap.objs.size+1) (.ins C s.heap.objs.size []))
  {s with heap:=(s.heap.push Vb).push (Vy C s.heap.objs.size)}:=by
 have e1:(s.heap.push Vb).get? s.heap.objs.size=some Vb:=XR s.heap rfl;have e2:((s.heap.push Vb).push (Vy C s.heap.objs.size)).get? (s.heap.objs.size+1)=some (Vy C s.heap.objs.size):=by
  have:=XR (s.heap.push Vb) (o:=Vy C s.heap.objs.size) rfl
  rwa [Ug]at this
 have e3:(s.heap.push Vb).Ns s.heap.objs.size (λ_=>none):=⟨Vb,#[],_,e1,rfl,(λe he=>absurd he (by simp)),λ_=>rfl⟩
 have I1:=I.laid (a:=s.heap.objs.size) (o:=.own (s.heap.objs.size+1)) (h':=s.heap.push Vb) (t':=s.toks) (λb u q=>Xr _ q) (Xl _) ⟨_,e1⟩;refine I1.laid (a:=s.heap.objs.size+1) (o:=.ins C s.heap.objs.size []) (t':=s.toks) (λb u q=>Xr _ q) (Wj (Ug _ _)) ?_;have ne:s.heap.objs.size≠s.heap.objs.size+1:=XH (Bu _);refine⟨by rw[XN ne,Uj],YN _,ne,e2,λ_=>none,(Heap.Ns1.of_empty e3).at λo q=>Xr _ q,λ_=>YO,λy hy=>absurd rfl hy⟩
end
section
variable{X:Cx}{o e value:Expr}{f:Str}{pos pos' tpos:Pos}{ta tv:TE}
end
section
variable{X:Cx}{pins:List (Addr×Obj)}{σ:St}{H:Hp}{s:X1}{A:Xs}{E:X0->X1->Prop}{Q:X0->X1->Prop}{c:X0}{b:Bool}
inductive TyOf (K:X6) (H:Hp):V->X0->Prop where
 |non:TyOf K H .non (.type "NoneType")
 |bl (x:Bool):TyOf K H (.bl x) (.type "bool")
 |int (i:Int):TyOf K H (.int i) (.type "int")
 |str (x:Str):TyOf K H (.str x) (.type "str")
 |flt (x:UInt64):TyOf K H (.flt x) (.type "float")
 |lst {a:Addr} {xs:List V} (e:H a=some (.lst xs)):TyOf K H (.ref a) (.type "list")
 |frz {a:Addr} {o:Obj} {xs:List V} (e:H a=some (.frz o (.lst xs))):TyOf K H (.ref a) (.type "list")
 |tup {a:Addr} {xs:List V} (e:H a=some (.tup xs)):TyOf K H (.ref a) (.type "tuple")
 |dK {a:Addr} {kvs:List (Key×V)} (e:H a=some (.dK kvs)):TyOf K H (.ref a) (.type "dict")
 |dT {a:Addr} {kvs:List (List Key×V)} (e:H a=some (.dT kvs)):TyOf K H (.ref a) (.type "dict")
 |ins {a C dx:Addr} {fs:List (Str×V)} (e:H a=some (.ins C dx fs)) (cl:Cls K C) (ha:Wf K (.ref C) "__class__"=some (some (.builtin "object.__class__")))
   (hn:PySem.W.specialIn K (.builtin "object.__class__") "__get__"=some (some (.builtin "getset_descriptor.__get__"))) (htk:PySem.W.takesIn K (.builtin "object.__class__")=some true)
   (hm:PySem.W.mroIn K C (.type "object")=some true):TyOf K H (.ref a) (.ref C)
theorem QW{x:V}{u t:X0}(I:Inv X pins σ H s)(rx:RelV x u)(ty:TyOf X.K H x t)(e:Vz X.K t c=some b)(h:∀tk,Q (.bool b) {s with toks:=tk}):
  X4 (X9 X.prog X.w) A (call (.builtin "isinstance") [u,c]) Q E s:=by
 cases ty with
 |non=>cases(show u=Xw from rx);exact Ue PySem.W.kitx_none I.kIn YO e (λz=>nomatch z) h
 |bl y=>cases(show u=Yj y from rx);exact Ue PySem.W.kitx_bool I.kIn YO e (λz=>nomatch z) h
 |int i=>obtain⟨t,q⟩:=(show∃t,u=A9 i t from rx);cases q;exact Ue PySem.W.kitx_int I.kIn YO e (λz=>nomatch z) h
 |str y=>obtain⟨t,q⟩:=(show∃t,u=XI y t from rx);cases q;exact Ue PySem.W.kitx_str I.kIn YO e (λz=>nomatch z) h
 |flt y=>obtain⟨t,q⟩:=(show∃t,u=Value.float y t from rx);cases q;exact Ue PySem.W.kitx_float I.kIn YO e (λz=>nomatch z) h
 | @lst a xs ea=>
  cases(show u=XC a from rx);obtain⟨_,_,n,_,h1⟩:=(show ObjOk X.prog X.w H s.heap a (.lst xs)from I.hok a _ ea);exact Ue Bm I.kIn ⟨_,h1,rfl⟩ e (λz=>nomatch z) h
 | @frz a ob xs ea=>
  cases(show u=XC a from rx);obtain⟨_,_,_,n,_,h1⟩:=(show ObjOk X.prog X.w H s.heap a (.frz ob (.lst xs))from I.hok a _ ea);exact Ue Bm I.kIn ⟨_,h1,rfl⟩ e (λz=>nomatch z) h
 | @tup a xs ea=>
  cases(show u=XC a from rx);obtain⟨_,_,_,p⟩:=(show ObjOk X.prog X.w H s.heap a (.tup xs)from I.hok a _ ea);obtain⟨o,h1,h2,_⟩:=p.1;exact Ue PySem.W.kitx_tuple I.kIn ⟨o,h1,h2⟩ e (λz=>nomatch z) h
 | @dK a kvs ea=>
  cases(show u=XC a from rx);obtain⟨_,_,vs,_,p⟩:=(show ObjOk X.prog X.w H s.heap a (.dK kvs)from I.hok a _ ea);obtain⟨o,es,ep,h1,h2,_⟩:=p;exact Ue Bn I.kIn ⟨o,h1,h2.1⟩ e (λz=>nomatch z) h
 | @dT a kvs ea=>
  cases(show u=XC a from rx);obtain⟨_,_,xs,_,o,es,ep,h1,h2,_⟩:=(show ObjOk X.prog X.w H s.heap a (.dT kvs)from I.hok a _ ea);exact Ue Bn I.kIn ⟨o,h1,h2.1⟩ e (λz=>nomatch z) h
 | @ins a C dx fs ea cl ha hn htk hm=>
  cases(show u=XC a from rx);obtain⟨mA,O,_⟩:=GS I.hok ea;obtain⟨od,J,_⟩:=O.look;exact Ue (PySem.W.kitx_own (cl.get _) cl.hd ha hn htk hm) I.kIn J e (λz=>nomatch z) h
end
structure Room (k:Nat) (A:Xs):Prop where
 hd:A.handled=none
 dp:A.depth+3*k+5<recursionLimit
 un:A.units+16*k+200<cLine
theorem Room.mono{j k:Nat}{A:Xs}(r:Room k A)(h:j≤k):Room j A:=⟨r.hd,by have:=r.dp;lia,by have:=r.un;lia⟩
theorem Room.deeper{k:Nat}{A:Xs}(r:Room (k+1) A)(env:Env):Room k (A.deeper env):=
 ⟨r.hd,by have:=r.dp;show A.depth+1+3*k+5<_;lia,by have:=r.un;show A.units+3+16*k+200<_;lia⟩
theorem Room.depth{k:Nat}{A:Xs}(r:Room k A):A.depth<recursionLimit:=by have:=r.dp;lia
noncomputable def tNil:TA:=λ_ H Q=>Q [] H
noncomputable def Af(ta:TE)(tr:TA):TA:=λσ H Q=>ta σ H λx H1=>tr σ H1 λxs H2=>Q (x::xs) H2
section
variable{X:Cx}{e:Expr}{es:List Expr}{te:TE}{t:TA}{pos:Pos}
theorem pa_nil:PA X [] tNil:=λ_ _ _ _ H Q I h=>Ac ⟨[],H,I,.nil,h⟩
theorem UQ(ha:PE X e te)(hr:PA X es t)(hs:XL (e::es) X.env=(false,eval e X.env)::XL es X.env:=by rfl):PA X (e::es) (Af te t):=by
 intro pos pins s σ H Q I h;rw[hs];show X4 _ _ (spliced ((false,eval e X.env)::Ys pos (XL es X.env))) _ _ s;refine Ab (thn (ha pins s σ H _ I h) λu s1 ⟨x,H1,I1,r1,q1⟩=>?_);exact thn (hr pos pins s1 σ H1 _ I1 q1) λus s2 ⟨xs,H2,I2,r2,q2⟩=>⟨x::xs,H2,I2,.cons r1 r2,q2⟩
noncomputable def tTup(t:TA):TE:=λσ H Q=>t σ H λxs H1=>xs.length≤sizeLine/\∀p,H1 p=none->Q (.ref p) (upd H1 p (.tup xs))
noncomputable def tLst(t:TA):TE:=λσ H Q=>t σ H λxs H1=>xs.length≤sizeLine/\∀p,H1 p=none->Q (.ref p) (upd H1 p (.lst xs))
theorem QX{x1}(h:PA X es t):PE X (.Tuple es x1 pos) (tTup t):=by
 intro pins s σ H Q I hq;refine wpAny_Tuple_spliced (thn (h pos pins s σ H _ I hq) λus s1 ⟨xs,H1,I1,r,z,q⟩=>⟨by rw[<- r.length];exact z,?_⟩)
 have hf:H1 s1.heap.objs.size=none:=I1.hok.fresh (Xl _);refine⟨.ref s1.heap.objs.size,upd H1 s1.heap.objs.size (.tup xs),I1.laid (t':=s1.toks) (λb u e=>Xr _ e) (Xl _) ?_,rfl,q _ hf⟩;exact⟨z,us,r,⟨_,XR _ rfl,rfl,_,rfl⟩,_,XR _ rfl,rfl⟩
theorem QY(h:PA X es t):PE X (.List es pos) (tLst t):=by
 intro pins s σ H Q I hq;refine wpAny_List_spliced (thn (h pos pins s σ H _ I hq) λus s1 ⟨xs,H1,I1,r,z,q⟩=>⟨by rw[<- r.length];exact z,?_⟩)
 have hf:H1 s1.heap.objs.size=none:=I1.hok.fresh (Xl _);refine⟨.ref s1.heap.objs.size,upd H1 s1.heap.objs.size (.lst xs),I1.laid (t':=s1.toks) (λb u e=>Xr _ e) (Xl _) ?_,rfl,q _ hf⟩;exact⟨z,us,0,r,XR _ rfl⟩
end
noncomputable abbrev Sp:=List V->Hp->VK->XK->Prop
noncomputable abbrev CXT:=List Env->Hp->X1->XK->X0->X1->Prop
structure Env0 (P:Xm) (w:Xj) (K:X6) (mg:Str->Option X0) (base:Heap) (A:Xs) (outer:List Env) (s:X1) (H:Hp):Prop where
 frames:A.frames=some outer
 mod:Mod K mg base
 bs:∀b o,base.get? b=some o->s.heap.get? b=some o/\H b=none
 bsz:base.objs.size≤s.heap.objs.size
 funs:s.heap.FunFrames base outer
 frf:∀b∈frs outer,H b=none
 hok:HOk P w H s.heap
 bare:AllBare s.gens
noncomputable def CE(outer:List Env)(P:Xm)(w:Xj)(H:Hp)(s:X1)(Q:VK)(u:X0)(s':X1):Prop:=
 ∃v H',s'.os=s.os/\AllBare s'.gens/\Un (frs outer) [] H H' s.heap s'.heap/\HOk P w H' s'.heap/\RelV v u/\Q v H'
noncomputable def CR(CX:CXT)(outer:List Env)(P:Xm)(w:Xj)(H:Hp)(s:X1)(Q:VK)(E:XK)(r:Result)(s':X1):Prop:=
 match r with
 |.ok (.ret u)=>CE outer P w H s Q u s'
 |.ok _=>False
 |.error e=>CX outer H s E e s'
structure FnOk (P:Xm) (w:Xj) (K:X6) (mg:Str->Option X0) (base:Heap) (CX:CXT) (k:Nat) (f:Addr) (fd:Xn) (ps:List Str) (sp:Sp):Prop where
 len:∀vs H Q E,sp vs H Q E->vs.length=ps.length
 run:∀(A:Xs) (outer:List Env) (s:X1) (H:Hp) (args:Args) (us:List X0) (vs:List V) (Q:VK) (E:XK),Room k A->Env0 P w K mg base A outer s H->BindsTo s fd args (ps.zip us)->Vals vs us->sp vs H Q E->
  Z7 (X9 P w) A (.call (.ref f) args) (CR CX outer P w H s Q E) s
theorem FnOk.mono{P:Xm}{w:Xj}{K:X6}{mg:Str->Option X0}{base:Heap}{CX:CXT}{j k:Nat}{f:Addr}{fd:Xn}{ps:List Str}{sp:Sp}(F:FnOk P w K mg base CX j f fd ps sp)(h:j≤k):
  FnOk P w K mg base CX k f fd ps sp:=⟨F.len,λA outer s H args us vs Q E hr=>F.run A outer s H args us vs Q E (hr.mono h)⟩
theorem FnOk.imp{P:Xm}{w:Xj}{K:X6}{mg:Str->Option X0}{base:Heap}{CX:CXT}{k:Nat}{f:Addr}{fd:Xn}{ps:List Str}{sp sp':Sp}(F:FnOk P w K mg base CX k f fd ps sp)
  (h:∀vs H Q E,sp' vs H Q E->sp vs H Q E):FnOk P w K mg base CX k f fd ps sp':=
 ⟨λvs H Q E q=>F.len vs H Q E (h _ _ _ _ q),λA outer s H args us vs Q E hr he hb hv hs=>F.run A outer s H args us vs Q E hr he hb hv (h _ _ _ _ hs)⟩
section
variable{X:Cx}{pins:List (Addr×Obj)}{σ:St}{H:Hp}{s s':X1}
theorem Inv.env0(I:Inv X pins σ H s):Env0 X.prog X.w X.K X.mg X.base X.A X.stack s H:=
 ⟨I.ok.frames,I.ok.mod,I.bs,Y3 I.ok.bsz I.sz,I.stack,I.stkFree,I.hok,I.bare⟩
theorem Inv.after{Q:VK}{u:X0}(I:Inv X pins σ H s)(h:CE X.stack X.prog X.w H s Q u s'):EP X pins σ Q u s':=by
 obtain⟨v,H',os,bare,un,hok,r,q⟩:=h;obtain⟨hh,g,d,t,os'⟩:=s';obtain rfl:os'=s.os:=os;exact⟨v,H',I.call (h':=hh) (g':=g) (d':=d) (t':=t) (ch:=[]) un hok bare (λb z=>absurd z (by simp)),r,q⟩
end
noncomputable def QZ(sp:Sp)(dvs:List V)(E:XK)(t:TA):TE:=λσ H Q=>t σ H λvs H1=>sp (vs++dvs) H1 Q E
noncomputable def Binds(K:X6)(fd:Xn)(ps:List Str)(ds:List X0):Prop:=
 ∀(s:X1) (us:List X0),K.In s.heap->(us++ds).length=ps.length->BindsTo s fd ⟨us,[]⟩ (ps.zip (us++ds))
theorem Binds.all{K:X6}{fd:Xn}{ps:List Str}(h:∀us:List X0,us.length=ps.length->bindArgs fd ⟨us,[]⟩=pure (ps.zip us)):Binds K fd ps []:=λs us _ hl=>by
 rw[Wc]at hl ⊢;exact .of_eq (h us hl)
noncomputable def Dj(CX:CXT)(X:Cx)(E:XK):Prop:=∀(pins:List (Addr×Obj)) (σ:St) (H:Hp) (s:X1) (e:X0) (s':X1),Inv X pins σ H s->CX X.stack H s E e s'->X.xe e s'
section
variable{X:Cx}{CX:CXT}{k:Nat}{f C:Addr}{fd:Xn}{ps:List Str}{sp:Sp}{dvs:List V}{ds:List X0}{E:XK}{x m:Str}{p pos apos:Pos}{e o:Expr}{es:List Expr}{ta:TE}{t:TA}
theorem R1{pins:List (Addr×Obj)}{σ:St}{H:Hp}{s:X1}{Q:VK}{us:List X0}{vs:List V}(F:FnOk X.prog X.w X.K X.mg X.base CX k f fd ps sp)(hr:Room k X.A)(hb:Binds X.K fd ps ds)(hd:Vals dvs ds)(hx:Dj CX X E)
  (I:Inv X pins σ H s) (r:Vals vs us) (h:sp (vs++dvs) H Q E):X4 (X9 X.prog X.w) X.A (call (.ref f) us) (EP X pins σ Q) X.xe s:=by
 have r2:Vals (vs++dvs) (us++ds):=r.append hd;have hl:(us++ds).length=ps.length:=by rw[<- r2.length];exact F.len _ _ _ _ h
 refine wpAny_call (WU (F.run X.A X.stack s H ⟨us,[]⟩ (us++ds) (vs++dvs) Q E hr I.env0 (hb s us I.kIn hl) r2 h) λr s' hq=>?_);cases r with
 |error e=>exact hx pins σ H s e s' I hq
 |ok fl=>
  cases fl with
  |ret u=>exact I.after hq
  |next=>exact YI hq
  |brk=>exact YI hq
  |cont=>exact YI hq
theorem R3(F:FnOk X.prog X.w X.K X.mg X.base CX k f fd ps sp)(hr:Room k X.A)(hg:Gl X x)(hm:X.mg x=some (.ref f))(hk:Xq X.K (.ref f)=true)(hb:Binds X.K fd ps ds)(hd:Vals dvs ds)(hx:Dj CX X E)
  (ha:PA X (e::es) t) (hdb:(x==("__debug__":Str))=false:=by decide) (he:XL (e::es) X.env=(false,eval e X.env)::XL es X.env:=by rfl) (hpl:(Ys pos (XL es X.env)).any (·.1)=false:=by rfl):
  PE X (.Call (.Name x p) (e::es) [] pos) (QZ sp dvs E t):=by
 intro pins s σ H Q I h;refine Vu (GD I hg hm ?_ hdb);refine PySem.W.callWith_K (h₀:=X.base) I.ok.mod.kin hk (thn (ha pos pins s σ H _ I h) λus s1 ⟨vs,H1,I1,r,q⟩=>⟨I1.kIn,?_⟩) he hpl;exact R1 F hr hb hd hx I1 r q
structure Mk (K:X6) (C f:Addr):Prop where
 makes:PySem.W.makesIn K C=true
 init:Wf K (.ref C) "__init__"=some (some (.ref f))
 fn:PySem.W.isFn K (.ref f)=true
 kp:Xq K (.ref C)=true
end
section
variable{X:Cx}{CX:CXT}{k:Nat}{f C:Addr}{fd:Xn}{ps ks:List Str}{sp:Sp}{E:XK}{x m:Str}{p pos apos kpos:Pos}{e o:Expr}{es:List Expr}{kws:List Up}{te ta:TE}{t tk:TA}{nm:Option Str}
structure KBinds (K:X6) (fd:Xn) (ps ks:List Str) (g:List X0->List X0->List X0) (gV:List V->List V->List V):Prop where
 to:∀(s:X1) (us ws:List X0),K.In s.heap->(g us ws).length=ps.length->BindsTo s fd ⟨us,ks.zip ws⟩ (ps.zip (g us ws))
 rel:∀{vs:List V} {us:List X0} {zs:List V} {ws:List X0},Vals vs us->Vals zs ws->Vals (gV vs zs) (g us ws)
variable{g:List X0->List X0->List X0}{gV:List V->List V->List V}
end
structure FnScope (N P:List Str) (sc:Scope):Prop where
 kind:sc.kind=.function
 co:sc.isCoroutine=false
 gen:sc.isGenerator=false
 nd:N.Nodup
 pre:N.take P.length=P
 par:∀x∈P,sc.names.lookup x=some .local\/sc.names.lookup x=some .cell
 nofree:∀y∈sc.names,y.2≠.free
theorem mkSc {N P:List Str}{sc:Scope}(a:sc.kind=.function:=by rfl)(b:sc.isCoroutine=false:=by rfl)(c:sc.isGenerator=false:=by rfl)(d:N.Nodup:=by decide+kernel)(e:N.take P.length=P:=by rfl)(f:∀x∈P,sc.names.lookup x=some .local\/sc.names.lookup x=some .cell:=by decide+kernel)(g:∀y∈sc.names,y.2≠.free:=by decide+kernel):FnScope N P sc:=⟨a,b,c,d,e,f,g⟩
theorem GT{kindOf:Str->Option Z8}{x:Str}:∀{binds:List (Str×X0)} {m:Str->Option X0},(∀v,(x,v)∉binds)->bindL kindOf binds m x=m x
 |[],_,_=>rfl
 |(n,v)::r,m,h=>by
  unfold bindL;rw[GT λw hw=>h w (Y5 _ hw)];split
  ·have:x≠n:=by rintro rfl;exact h v Ya
   simp[this]
  ·rfl
theorem GU{kindOf:Str->Option Z8}{x:Str}:∀{binds:List (Str×X0)} {m:Str->Option X0},(∀v,(x,v)∉binds)->bindC kindOf binds m x=m x
 |[],_,_=>rfl
 |(n,v)::r,m,h=>by
  unfold bindC;rw[GU λw hw=>h w (Y5 _ hw)];split
  ·rfl
  ·have:x≠n:=by rintro rfl;exact h v Ya
   simp[this]
theorem GV{kindOf:Str->Option Z8}{x:Str}{v:X0}:∀{P:List Str} {vs:List X0} {i:Nat} {m:Str->Option X0},P.Nodup->P[i]?=some x->vs[i]?=some v->kindOf x=some .local->
  bindL kindOf (P.zip vs) m x=some v
 |[],_,_,_,_,h,_,_=>by simp at h
 |_::_,[],_,_,_,_,h,_=>by simp at h
 |p::P,w::vs,0,m,nd,h1,h2,hk=>by
  simp at h1 h2;subst h1;subst h2;show bindL kindOf ((p,w)::P.zip vs) m p=_;unfold bindL;rw[GT λv hv=>(YH.mp nd).1 (CQ hv).1,if_pos hk];simp
 |p::P,w::vs,i+1,m,nd,h1,h2,hk=>by
  show bindL kindOf ((p,w)::P.zip vs) m x=_;unfold bindL;exact GV (i:=i) (YH.mp nd).2 (by simpa using h1) (by simpa using h2) hk
theorem GW{kindOf:Str->Option Z8}{x:Str}{v:X0}:∀{P:List Str} {vs:List X0} {i:Nat} {m:Str->Option X0},P.Nodup->P[i]?=some x->vs[i]?=some v->kindOf x≠some .local->
  bindC kindOf (P.zip vs) m x=some v
 |[],_,_,_,_,h,_,_=>by simp at h
 |_::_,[],_,_,_,_,h,_=>by simp at h
 |p::P,w::vs,0,m,nd,h1,h2,hk=>by
  simp at h1 h2;subst h1;subst h2;show bindC kindOf ((p,w)::P.zip vs) m p=_;unfold bindC;rw[GU λv hv=>(YH.mp nd).1 (CQ hv).1,if_neg hk];simp
 |p::P,w::vs,i+1,m,nd,h1,h2,hk=>by
  show bindC kindOf ((p,w)::P.zip vs) m x=_;unfold bindC;exact GW (i:=i) (YH.mp nd).2 (by simpa using h1) (by simpa using h2) hk
noncomputable def start(N:List Str)(vs:List V):St:=vs.map some++Vw (N.length - vs.length) none
noncomputable def cxOf(CX:CXT)(P:Xm)(w:Xj)(K:X6)(mg:Str->Option X0)(base:Heap)(N:List Str)(qual:Str)(scope:Scope)(f:Addr)(cd:X0)(A:Xs)(outer:List Env)(s:X1)(H:Hp)(E:XK):Cx where
 prog:=P
 w:=w
 K:=K
 mg:=mg
 base:=base
 A:=A.deeper (envOfC qual scope s.heap.objs.size f cd)
 N:=N
 s₀:=s
 H₀:=H
 env:=envOfC qual scope s.heap.objs.size f cd
 outer:=outer
 stack:=envOfC qual scope s.heap.objs.size f cd::outer
 ex:=[]
 calm:=true
 fn:=λ_=>true
 pn:=[]
 xe:=λe s'=>X4 (X9 P w) (A.deeper (envOfC qual scope s.heap.objs.size f cd)) (leaving (envOfC qual scope s.heap.objs.size f cd) e) (λ_ s''=>CX outer H s E e s'') (λe' s''=>CX outer H s E e' s'') s'
theorem GX{sc:Scope}{n:Nat}{x:Str}(h:sc.names.lookup x=some .cell):∃c,(cellsFrom n sc.names []).lookup x=some c:=by
 have q:=FV sc.names n [] (.inl h);exact Option.isSome_iff_exists.mp q
theorem R4{CX:CXT}{P:Xm}{w:Xj}{K:X6}{mg:Str->Option X0}{base:Heap}{N ps:List Str}{qual:Str}{scope:Scope}{f:Addr}{cd:X0}{A:Xs}{outer:List Env}{s s1:X1}{H:Hp}{E:XK}{us:List X0}{vs:List V}
  (S:FnScope N ps scope) (hd:A.handled=none) (e0:Env0 P w K mg base A outer s H) (hl:vs.length=ps.length) (r:Vals vs us)
  (x:InCallC s s.heap.objs.size (bindL (envOfC qual scope s.heap.objs.size f cd).kindOf (ps.zip us) λ_=>none) (cellsFrom (s.heap.objs.size+1) scope.names []) (bindC (envOfC qual scope s.heap.objs.size f cd).kindOf (ps.zip us) λ_=>none) s1):
  Inv (cxOf CX P w K mg base N qual scope f cd A outer s H E) [] (start N vs) H s1:=by
 have hpl:ps.length≤N.length:=by have:=congrArg List.length S.pre;rw[Yz]at this;lia
 obtain⟨h1,tk,rfl,hk⟩:=x.done;have noA:∀b:Addr,b∉(cxOf CX P w K mg base N qual scope f cd A outer s H E).ex:=λb z=>absurd (show b∈([]:List Addr)from z) (by simp)
 refine⟨⟨e0.mod,S.kind,rfl,rfl,Xl _,λy z c h1 h2=>?_,λy hy=>?_,λy c _ h=>?_,λ_=>hd,Around.frames_deeper e0.frames,.inr ⟨rfl,rfl⟩,λb z=>absurd z (noA b),e0.bs,e0.bsz,λb _ _=>noA b,λb z=>absurd z (noA b),e0.funs,e0.frf⟩,
  rfl,e0.bare,Un.kept hk,⟨_,x.toInCall.ns,λi y v h1 h2 h3=>?_⟩,λy c h=>⟨_,x.cell y c h⟩,e0.hok.fresh (Xl _),λy c h=>?_,λp hp=>absurd (show p∈([]:List (Addr×Obj))from hp) (by simp),e0.hok.kept hk,?_⟩
 ·exact name_of_addr x.apart (Wn h1) (Wn h2)
 ·have hy:scope.names.lookup y=some .cell\/scope.names.lookup y=some .free:=hy;rcases hy with hy|hy
  ·exact GX hy
  ·exact absurd rfl (S.nofree _ (Wn hy))
 ·exact Bv (x.above y c (Wn h))
 ·have hi:i<vs.length:=by
   unfold start at h2;by_cases hi:i<vs.length
   ·exact hi
   ·rw[UL (by simpa using hi)]at h2
    rw[FT]at h2;split at h2<;>cases h2
  have ha:vs[i]?=some v:=by
   unfold start at h2;rw[Uc (by simpa using hi),Xo]at h2
   cases e:vs[i]? with
   |none=>rw[e]at h2;cases h2
   |some a=>rw[e]at h2;cases h2;rfl
  obtain⟨u,hu,rv⟩:=r.get ha;have hp:ps[i]?=some y:=by
   rw[<- S.pre,Bg (by lia)];exact h1
  have ndP:ps.Nodup:=by rw[<- S.pre];exact S.nd.sublist (CN _ _)
  refine⟨u,rv,?_⟩;rcases S.par y (XG hp)with k|k
  ·exact .inl ⟨k,GV ndP hp hu k⟩
  ·obtain⟨c,e⟩:=GX (n:=s.heap.objs.size+1) k;refine .inr ⟨.inl k,c,e,?_⟩;have q:=x.cell y c e;rw[GW ndP hp hu (by show scope.names.lookup y≠_;rw[k];decide)]at q
   exact q
 ·exact e0.hok.fresh (Bv (x.above y c (Wn h)))
 ·unfold start;show _=N.length;rw[Y0,X7,CI];lia
theorem R5{CX:CXT}{P:Xm}{w:Xj}{K:X6}{mg:Str->Option X0}{base:Heap}{k:Nat}{f:Addr}{name qual:Str}{params:Arguments}{body:List Stmt}{scope:Scope}{dV kV doc pm cdv ct oc:X0}{an od:Option Addr}
  {osl:Array (Option X0)} {N ps:List Str} {sp:Sp} (lk:K.lookup f=some ⟨oc,od,.func (Xa name qual params body scope dV kV doc pm an cdv ct),osl⟩) (hcd:Xt K cdv qual=true) (S:FnScope N ps scope)
  (len:∀vs H Q E,sp vs H Q E->vs.length=ps.length)
  (hbody:∀(A:Xs) (outer:List Env) (s:X1) (H:Hp) (vs:List V) (Q:VK) (E:XK),Room k (A.deeper (envOfC qual scope s.heap.objs.size f cdv))->sp vs H Q E->
   ∃t,PSs (cxOf CX P w K mg base N qual scope f cdv A outer s H E) body t/\t {nx:=λ_ H'=>Q .non H',rt:=Q} (start N vs) H):
  FnOk P w K mg base CX (k+1) f (Xa name qual params body scope dV kV doc pm an cdv ct) ps sp:=by
 refine⟨len,λA outer s H args us vs Q E hr e0 hb r hsp=>?_⟩;have hl:=len _ _ _ _ hsp;have KX:K.In s.heap:=e0.mod.kin.keeps λb o e=>(e0.bs b o e).1;have lim:s.heap.NoLimit:=e0.mod.nolimit.keeps λb o e=>(e0.bs b o e).1;have hkind:∀y∈ps.zip us,scope.names.lookup y.1=some .local\/(scope.names.lookup y.1=some .cell/\((cellsFrom (s.heap.objs.size+1) scope.names []).lookup y.1).isSome=true):=fun⟨n,v⟩ hy=>by
  rcases S.par n (CQ hy).1 with q|q
  ·exact .inl q
  ·exact .inr ⟨q,FV _ _ _ (.inl q)⟩
 refine codeAny_call_function hr.depth (KX _ _ lk) rfl S.co S.gen rfl (PySem.W.codeRec_of KX hcd) (hb _ _ _ _ ?_);refine wpAny_newFunctionEnv_cells S.kind hkind λenv he s1 x=>?_;subst he;refine⟨lim.keeps x.toInCall.keep,codeAny_func ?_⟩;obtain⟨t,ht,hq⟩:=hbody A outer s H vs Q E (hr.deeper _) hsp;have I:Inv (cxOf CX P w K mg base N qual scope f cdv A outer s H E) [] (start N vs) H s1:=R4 S hr.hd e0 hl r x;refine Ul (ht [] s1 (start N vs) H _ I hq) (λfl s' hs=>?_) λe s' hs=>hs;have fin:∀{σ':St} {H':Hp} {v:V} {u:X0},Inv (cxOf CX P w K mg base N qual scope f cdv A outer s H E) [] σ' H' s'->RelV v u->Q v H'->CE outer P w H s Q u s':=
  fun{σ' H' v u} J rv q=>⟨v,H',J.os,J.bare,J.base,J.hok,rv,q⟩
 cases fl with
 |ret u=>
  obtain⟨v,σ',H',J,rv,q⟩:=hs;exact fin J rv q
 |next=>
  obtain⟨σ',H',J,q⟩:=hs;exact fin (v:=V.non) (u:=Xw) J rfl q
 |brk=>
  obtain⟨_,_,_,q⟩:=hs;exact YI q
 |cont=>
  obtain⟨_,_,_,q⟩:=hs;exact YI q
section
variable{X:Cx}{x:Str}{p pos:Pos}{e:Expr}{es:List Expr}{t:TA}{id T:String}{r:List V->Hp->VK->Prop}
noncomputable def tCB(r:List V->Hp->VK->Prop)(t:TA):TE:=λσ H Q=>t σ H λvs H1=>r vs H1 Q
theorem R6(hc:CallR X (.builtin id) r)(hg:Gl X x)(hm:X.mg x=none)(hv:YF x=some (.builtin id))(ha:PA X (e::es) t)(hn:x≠"__name__":=by decide)(hdb:(x==("__debug__":Str))=false:=by decide)
  (he:XL (e::es) X.env=(false,eval e X.env)::XL es X.env:=by rfl) (hpl:(Ys pos (XL es X.env)).any (·.1)=false:=by rfl):PE X (.Call (.Name x p) (e::es) [] pos) (tCB r t):=by
 intro pins s σ H Q I h;refine Vu (Uz I hg hm hv ?_ hn hdb);exact FX (thn (ha pos pins s σ H _ I h) λus s1 ⟨vs,H1,I1,r1,q1⟩=>hc pins s1 σ H1 vs us Q I1 r1 q1) he hpl
theorem R7(hc:CallR X (.type T) r)(hg:Gl X x)(hm:X.mg x=none)(hv:YF x=some (.type T))(ha:PA X (e::es) t)(hn:x≠"__name__":=by decide)(hdb:(x==("__debug__":Str))=false:=by decide)
  (he:XL (e::es) X.env=(false,eval e X.env)::XL es X.env:=by rfl) (hpl:(Ys pos (XL es X.env)).any (·.1)=false:=by rfl):PE X (.Call (.Name x p) (e::es) [] pos) (tCB r t):=by
 intro pins s σ H Q I h;refine Vu (Uz I hg hm hv ?_ hn hdb);exact VF (thn (ha pos pins s σ H _ I h) λus s1 ⟨vs,H1,I1,r1,q1⟩=>hc pins s1 σ H1 vs us Q I1 r1 q1) he hpl
end
end L2
namespace HT
open PySem PyProof.Rows
section
open PySem.SeqAt
open PySem.AutoSeq1 (wpAny_loadPart')
open PySem.MeetsSeq PySem.MeetsSeq2 PySem.MeetsSeq3
end
section
variable{prog:Xm}{w:Xj}{A:Xs}{E:X0->X1->Prop}{s:X1}
theorem cat_tup{t b:Addr}{vs ws:List X0}{Q:X0->X1->Prop}(ht:IsTup s.heap t vs.toArray)(hb:IsTup s.heap b ws.toArray)(hv:vs≠ [])
  (h1:ws=[]->Q (.ref t) s) (h2:ws≠ []->Q (.ref s.heap.objs.size) {s with heap:=s.heap.push {cls:=.type "tuple",data:=.seq (vs++ws).toArray} })
  (hsz:vs.length+ws.length≤sizeLine):X4 (X9 prog w) A (Z6 .Add (.ref t) (.ref b)) Q E s:=by
 obtain⟨⟨cls,dd,data,sl⟩,ho,hc,n,hd⟩:=id ht;obtain⟨⟨cls2,dd2,data2,sl2⟩,ho2,hc2,n2,hd2⟩:=id hb;simp only at hc hd hc2 hd2;subst hc hd hc2 hd2;have e:vs.toArray++ws.toArray=(vs++ws).toArray:=by simp
 by_cases hw:ws=[]
 ·exact concat_meets ⟨_,ho,rfl⟩ ⟨_,ho2,rfl⟩ noFill_tuple_add seq_tuple_add G8 G7 (G6 _ _)
   (tuple_addW1 t b vs.toArray ws.toArray n n2 dd dd2 sl sl2 (by simpa using hv) (by simp[hw])) ⟨ho,ho2,h1 hw⟩
 ·refine concat_meets ⟨_,ho,rfl⟩ ⟨_,ho2,rfl⟩ noFill_tuple_add seq_tuple_add G8 G7 (G6 _ _)
   (tuple_addW2 t b vs.toArray ws.toArray n n2 dd dd2 sl sl2 (by simpa using hv) (by simpa using hw) (by rw[XT,XT];exact hsz)) ⟨ho,ho2,?_⟩
  rw[e];exact h2 hw
noncomputable def sIx(n d:Nat):Option Int->Nat
 |none=>d
 |some v=>if v<0 then(v+(n:Int)).toNat else min v.toNat n
theorem sIx_none(n d:Nat):sIx n d none=d:=rfl
theorem sIx_nat(n d k:Nat):sIx n d (some (k:Int))=min k n:=by
 show(if(k:Int)<0 then((k:Int)+(n:Int)).toNat else min (k:Int).toNat n)=min k n;rw[if_neg (by lia),UN]
theorem R8(n d:Nat)(hd:d≤n)(o:Option Int):sIx n d o≤n:=by
 cases o with
 |none=>exact hd
 |some v=>
  show(if v<0 then(v+(n:Int)).toNat else min v.toNat n)≤n;by_cases hv:v<0
  ·rw[if_pos hv];lia
  ·rw[if_neg hv];exact Nat.min_le_right _ _
theorem GY(v:Int)(n d:Nat):(if v<0 then max (v+(n:Int)) 0 else min v (n:Int))=((sIx n d (some v):Nat):Int):=by
 show(if v<0 then max (v+(n:Int)) 0 else min v (n:Int))=(((if v<0 then(v+(n:Int)).toNat else min v.toNat n):Nat):Int);by_cases hv:v<0
 ·simp only[if_pos hv];lia
 ·simp only[if_neg hv];lia
theorem R9(lo hi:Option Int)(n:Nat):D6 lo hi 1 (n:Int)=(((sIx n 0 lo:Nat):Int),((sIx n n hi:Nat):Int)):=by
 have h1:¬((1:Int)<0):=by lia
 unfold D6;simp only[h1,if_false];refine Prod.ext ?_ ?_
 ·cases lo with
  |none=>rfl
  |some v=>exact GY v n 0
 ·cases hi with
  |none=>rfl
  |some v=>exact GY v n n
theorem Ra(i j:Nat):BD (i:Int) (j:Int) 1=j - i:=by
 unfold BD;have h1:(1:Int)>0:=by lia
 simp only[h1,if_true,Int.ediv_one];split<;>lia
theorem GZ{v:X0}{o:Option Int}{Q:Option Int->X1->Prop}(p:IsPart v o)(h:Q o s):X4 (X9 prog w) A (Builtin.Slice.slicePartIndex v) Q E s:=by
 cases p with
 |none=>exact slicePart_none h
 |int i t=>exact slicePart_int h
theorem Ha{sl:Addr}{vl vu:X0}{lo hi:Option Int}{n:Nat}{Q:Int×Int×Nat->X1->Prop}(hs:s.heap.IsSliceOf sl vl vu .none)(pl:IsPart vl lo)(pu:IsPart vu hi)
  (h:Q (((sIx n 0 lo:Nat):Int),1,sIx n n hi - sIx n 0 lo) s):X4 (X9 prog w) A (G2 (.ref sl) (pure (n:Int))) Q E s:=by
 obtain⟨os,hos,hcs,hds⟩:=id hs;unfold G2 Builtin.Slice.sliceFields;refine X3 (X3 (wpAny_field hos hds (x:=vl) rfl (X3 (wpAny_field hos hds (x:=vu) rfl (X3 (wpAny_field hos hds (x:=.none) rfl (Xb ?_)))))));refine X3 (slicePart_none ?_);show X4 _ _ (if((1:Int)==0)=true then _ else _) _ _ s;rw[if_neg (by decide)]
 refine X3 (GZ pl (X3 (GZ pu (X3 (Xb ?_)))));show X4 _ _ (match D6 lo hi 1 (n:Int)with|(lo,hi)=>pure (lo,(1:Int),BD lo hi 1)) _ _ s
 rw[R9 lo hi n];show X4 _ _ (pure (((sIx n 0 lo:Nat):Int),(1:Int),BD ((sIx n 0 lo:Nat):Int) ((sIx n n hi:Nat):Int) 1)) _ _ s;rw[Ra];exact Xb h
theorem Rb(xs:Array X0)(i k:Nat):((XM k).filterMap fun(m:Nat)=>xs[((i:Int)+(m:Int)*1).toNat]?).toArray=((xs.toList.drop i).take k).toArray:=by
 have e:(fun(m:Nat)=>xs[((i:Int)+(m:Int)*1).toNat]?)=λm=>xs[i+m]?:=by
  funext m
  have:((i:Int)+(m:Int)*1).toNat=i+m:=by lia
  rw[this]
 rw[e];have:=pick_run xs i k;rw[List.filterMap_map]at this;have e2:((λx=>xs[x]?)∘ λx=>i+x)=λm=>xs[i+m]?:=rfl;rw[e2]at this;rw[this]
theorem getItem_tuple_cut{t sl:Addr}{items:Array X0}{vl vu:X0}{lo hi:Option Int}{Q:X0->X1->Prop}(ht:IsTup s.heap t items)(hs:s.heap.IsSliceOf sl vl vu .none)(pl:IsPart vl lo)(pu:IsPart vu hi)
  (hw:¬(sIx items.size 0 lo=0/\sIx items.size items.size hi=items.size))
  (h:Q (.ref s.heap.objs.size) {s with heap:=s.heap.push {cls:=.type "tuple",data:=.seq ((items.toList.drop (sIx items.size 0 lo)).take (sIx items.size items.size hi - sIx items.size 0 lo)).toArray} })
  (hsz:items.size≤sizeLine):X4 (X9 prog w) A (getItem (.ref t) (.ref sl)) Q E s:=by
 have htake:sizeOk (.seq ((items.toList.drop (sIx items.size 0 lo)).take (sIx items.size items.size hi - sIx items.size 0 lo)).toArray):=by
  show((items.toList.drop (sIx items.size 0 lo)).take (sIx items.size items.size hi - sIx items.size 0 lo)).toArray.size≤sizeLine;rw[XT,Yz,V8,XW];lia
 have hj:sIx items.size items.size hi≤items.size:=R8 _ _ (Xl _) hi;obtain⟨os,hos,hcs,hds⟩:=id hs;have hTs:s.TypeIs (.ref sl) "slice":=⟨os,hos,hcs⟩;unfold getItem
 try with_reducible refine YL ?_
 first|refine X3 (Xb ?_)|skip
 refine X3 (wpAny_sequenceKey ht.typeIs (by decide) ?_)
 refine X3 (B9 (name:=XX "__getitem__") ht.typeIs Wl
  (Z9 Wl ht.typeIs entry_tuple_getitem ?_ (args_tuple_getitem _ _)))
 show X4 _ _ (G0 (.ref t)>>= _) _ _ s;refine X3 (tupleItemsOf_ ht ?_);refine X3 (Uq hTs ?_);rw[if_pos (by decide)]
 refine X3 (Ha hs pl pu ?_);have hno:¬((((sIx items.size 0 lo:Nat):Int)==0&&(1:Int)==1&&(sIx items.size items.size hi - sIx items.size 0 lo)==items.size)=true):=by
  intro q;rw[YA,YA]at q;have q1:((sIx items.size 0 lo:Nat):Int)=0:=eq_of_beq q.1.1;have q2:sIx items.size items.size hi - sIx items.size 0 lo=items.size:=eq_of_beq q.2;exact hw ⟨by lia,by lia⟩
 show X4 _ _ (if(((sIx items.size 0 lo:Nat):Int)==0&&(1:Int)==1&&(sIx items.size items.size hi - sIx items.size 0 lo)==items.size)=true then _ else _) _ _ s;rw[if_neg hno,Rb]
 first
  |exact X3 (m:=BC _) (UK (Xb ⟨_,rfl,Xb h⟩) htake)
  |exact X3 (m:=BC _) (UK (X3 (Xb (Xb ⟨_,rfl,Xb h⟩))) htake)
  |exact X3 (X3 (m:=BC _) (UK (Xb (Xb ⟨_,rfl,Xb h⟩)) htake))
  |exact X3 (X3 (m:=BC _) (UK (Xb ⟨_,rfl,Xb h⟩) htake))
end
end HT
namespace L2
open PySem PySem.Spec PyProof.Rows
noncomputable abbrev TO:=St->Hp->(Option Int->Hp->Prop)->Prop
noncomputable def PO(X:Cx)(e:Option Expr)(t:TO):Prop:=
 ∀(pins:List (Addr×Obj)) (s:X1) (σ:St) (H:Hp) (Q:Option Int->Hp->Prop),Inv X pins σ H s->t σ H Q->
  X4 (X9 X.prog X.w) X.A (evalPart e X.env) (λu s'=>∃o H',Inv X pins σ H' s'/\IsPart u o/\Q o H') X.xe s
noncomputable def Rc:TO:=λ_ H Q=>Q none H
noncomputable def Re(t:TE):TO:=λσ H Q=>t σ H λx H1=>∃i,x=.int i/\Q (some i) H1
theorem Hb{ns:List Int}:∀{us:List X0},Vals (ns.map V.int) us->IntsAre us ns:=by
 induction ns with
 |nil=>intro us r;rw[Y8]at r;cases r;exact .nil
 |cons n ns ih=>
  intro us r;rw[XA]at r;cases r with
  |cons r1 r2=>
   obtain⟨t,e⟩:=r1;subst e;exact .cons n t (ih r2)
section
variable{X:Cx}{e:Expr}{te:TE}{lo hi:Option Expr}{tl th:TO}{pos p2:Pos}
theorem Rf:PO X none Rc:=by
 intro pins s σ H Q I h;rw[evalPart_none];exact Xb ⟨none,H,I,.none,h⟩
theorem Rg(h:PE X e te):PO X (some e) (Re te):=by
 intro pins s σ H Q I hw;rw[evalPart_some];refine thn (h pins s σ H _ I hw) λu s1 ⟨x,H1,I1,r1,q1⟩=>?_;obtain⟨i,rfl,q⟩:=q1;obtain⟨t,rfl⟩:=r1;exact⟨some i,H1,I1,.int i t,q⟩
noncomputable def SlR(X:Cx)(r:V->Option Int->Option Int->Hp->VK->Prop):Prop:=
 ∀(pins:List (Addr×Obj)) (s:X1) (σ:St) (H:Hp) (x:V) (v vl vu:X0) (lo hi:Option Int) (sl:Addr) (Q:VK),Inv X pins σ H s->RelV x v->s.heap.IsSliceOf sl vl vu .none->IsPart vl lo->IsPart vu hi->r x lo hi H Q->
  ∃T id,W7 (.type T) "__getitem__"=pure (some (.builtin id))/\s.TypeIs v T/\X4 (X9 X.prog X.w) X.A (getItem v (.ref sl)) (EP X pins σ Q) X.xe s
theorem SlR.or{r r':V->Option Int->Option Int->Hp->VK->Prop}(h:SlR X r)(h':SlR X r'):SlR X (λx lo hi H Q=>r x lo hi H Q\/r' x lo hi H Q):=by
 intro pins s σ H x v vl vu lo hi sl Q I rx hs pl pu q;rcases q with q|q
 ·exact h pins s σ H x v vl vu lo hi sl Q I rx hs pl pu q
 ·exact h' pins s σ H x v vl vu lo hi sl Q I rx hs pl pu q
noncomputable def tSl(r:V->Option Int->Option Int->Hp->VK->Prop)(te:TE)(tl th:TO):TE:=λσ H Q=>te σ H λx H1=>tl σ H1 λl H2=>th σ H2 λu H3=>r x l u H3 Q
theorem Rh{r:V->Option Int->Option Int->Hp->VK->Prop}(hr:SlR X r)(he:PE X e te)(hl:PO X lo tl)(hu:PO X hi th):PE X (.Subscript e (.Slice lo hi none p2) pos) (tSl r te tl th):=by
 intro pins s σ H Q I h;refine Subscript_ (thn (he pins s σ H _ I h) λv s1 ⟨x,H1,I1,r1,q1⟩=>?_);refine wpAny_Slice (thn (hl pins s1 σ H1 _ I1 q1) λvl s2 ⟨l,H2,I2,pl,q2⟩=>thn (hu pins s2 σ H2 _ I2 q2) λvu s3 ⟨u,H3,I3,pu,q3⟩=>?_);rw[evalPart_none];refine Xb ?_;have I4:Inv X pins σ H3 {s3 with heap:=s3.heap.push {cls:=.type "slice",data:=.fields #[vl,vu,.none]} }:=I3.kept (t':=s3.toks) fun b ob q=>Xr _ q;obtain⟨T,id,hT,ht,hg⟩:=hr pins {s3 with heap:=s3.heap.push {cls:=.type "slice",data:=.fields #[vl,vu,.none]} } σ H3 x v vl vu l u s3.heap.objs.size Q I4 r1 (Gr ..) pl pu q3;show X4 (X9 X.prog X.w) X.A (subscriptTail e (.Slice lo hi none p2) v (.ref s3.heap.objs.size)) (EP X pins σ Q) X.xe {s3 with heap:=s3.heap.push {cls:=.type "slice",data:=.fields #[vl,vu,.none]} };exact tail_any (ops:=[.ref s3.heap.objs.size,v]) ht hT hg (by with_unfolding_all rfl)
noncomputable def cutV(xs:List V)(lo hi:Option Int):List V:=(xs.drop (HT.sIx xs.length 0 lo)).take (HT.sIx xs.length xs.length hi - HT.sIx xs.length 0 lo)
theorem Hc(xs:List V)(lo hi:Option Int):(cutV xs lo hi).length≤xs.length:=by
 unfold cutV;rw[Yz,V8];lia
noncomputable def rSlT(K:X6):V->Option Int->Option Int->Hp->VK->Prop:=λx lo hi H Q=>∃a xs,x=.ref a/\SqT K H a xs/\
 ¬(HT.sIx xs.length 0 lo=0/\HT.sIx xs.length xs.length hi=xs.length)/\∀p,H p=none->Q (.ref p) (upd H p (.tup (cutV xs lo hi)))
theorem Ri:SlR X (rSlT X.K):=by
 intro pins s σ H x v vl vu lo hi sl Q I rx hs pl pu h;obtain⟨a,xs,rfl,hx,hw,q⟩:=h;cases rx;obtain⟨its,r,ht,hz⟩:=I.tuple hx;have hlen:its.toArray.size=xs.length:=by rw[XT];exact r.length.symm
 refine⟨"tuple",_,Wl.lookup,ht.typeIs,?_⟩;refine HT.getItem_tuple_cut ht hs pl pu (by rw[hlen];exact hw) ?_ (by rw[hlen];exact hz)
 rw[hlen];refine⟨.ref s.heap.objs.size,_,I.laid (t':=s.toks) (o:=.tup (cutV xs lo hi)) (λb ob q=>Xr _ q) (Xl _) ?_,rfl,q _ (I.hok.fresh (Xl _))⟩;exact⟨Y3 (Hc xs lo hi) hz,_,(r.drop (HT.sIx xs.length 0 lo)).take (HT.sIx xs.length xs.length hi - HT.sIx xs.length 0 lo),IsTup.new _ _,_,XR _ rfl,rfl⟩
noncomputable def Rj(K:X6):R2:=λx y H Q=>∃a b xs ys,x=.ref a/\y=.ref b/\SqT K H a xs/\SqT K H b ys/\xs≠ []/\xs.length+ys.length≤sizeLine/\
 (ys=[]->Q (.ref a) H)/\(ys≠ []->∀p,H p=none->Q (.ref p) (upd H p (.tup (xs++ys))))
theorem Vals.nil_iff{xs:List V}{us:List X0}(r:Vals xs us):us=[]↔xs=[]:=by
 cases r with
 |nil=>simp
 |cons _ _=>simp
theorem Rk:OpR X (Z6 .Add) (Rj X.K):=by
 intro pins s σ H x y v u Q I rx ry h;obtain⟨a,b,xs,ys,rfl,rfl,ha,hb,hx,hz,q1,q2⟩:=h;cases rx;cases ry;obtain⟨its,r1,p1,_⟩:=I.tuple ha;obtain⟨its2,r2,p2,_⟩:=I.tuple hb;refine HT.cat_tup p1 p2 (λz=>hx (r1.nil_iff.mp z)) (λz=>⟨.ref a,H,I,rfl,q1 (r2.nil_iff.mp z)⟩) (λz=>?_) (by rw[<- r1.length,<- r2.length];exact hz)
 refine⟨.ref s.heap.objs.size,_,I.laid (t':=s.toks) (o:=.tup (xs++ys)) (λb ob q=>Xr _ q) (Xl _) ?_,rfl,q2 (λw=>z (r2.nil_iff.mpr w)) _ (I.hok.fresh (Xl _))⟩;exact⟨by rw[Y0];exact hz,_,r1.append r2,IsTup.new _ _,_,XR _ rfl,rfl⟩
end
noncomputable def ixN(n:Nat)(i:Int):Option Nat:=if 0≤i then(if i<n then some i.toNat else none)else if -(n:Int)≤i then some (i+n).toNat else none
noncomputable def atI{α:Type}(xs:List α)(i:Int):Option α:=(ixN xs.length i).bind λj=>xs[j]?
theorem Hd{n:Nat}{i:Int}{j:Nat}(h:ixN n i=some j):seqIndex? i n=some j/\j<n/\ -(n:Int)≤i/\i<n:=by
 unfold ixN at h;by_cases h0:0≤i
 ·rw[if_pos h0]at h;by_cases h1:i<n
  ·rw[if_pos h1]at h;have e:i.toNat=j:=Yg h;exact⟨by rw[seqIndex_of h0 h1,e],by lia,by lia,h1⟩
  ·rw[if_neg h1]at h;cases h
 ·rw[if_neg h0]at h;by_cases h1:-(n:Int)≤i
  ·rw[if_pos h1]at h;have e:(i+n).toNat=j:=Yg h;exact⟨by rw[seqIndex_neg (by lia) h1,e],by lia,h1,by lia⟩
  ·rw[if_neg h1]at h;cases h
theorem Dk{α:Type}{xs:List α}{i:Int}{v:α}(h:atI xs i=some v):∃j,seqIndex? i xs.length=some j/\xs[j]?=some v/\j<xs.length/\ -(xs.length:Int)≤i/\i<xs.length:=by
 unfold atI at h;cases e:ixN xs.length i with
 |none=>rw[e]at h;cases h
 |some j=>
  rw[e]at h;obtain⟨h1,h2,h3,h4⟩:=Hd e;exact⟨j,h1,h,h2,h3,h4⟩
theorem XQ{α:Type}{xs:List α}{j:Nat}{v:α}(h:xs[j]?=some v):atI xs (j:Int)=some v:=by
 have hj:j<xs.length:=(XE.mp h).1;have e:ixN xs.length (j:Int)=some j:=by
  unfold ixN;rw[if_pos (by lia),if_pos (by lia)];simp
 unfold atI;rw[e];exact h
theorem He{α:Type}(xs:List α)(v:α):atI (xs++[v]) (-1)=some v:=by
 have hl:(xs++[v]).length=xs.length+1:=by simp
 have e:ixN (xs++[v]).length (-1)=some xs.length:=by
  unfold ixN;rw[hl,if_neg (by decide),if_pos (by lia)]
  congr 1;lia
 unfold atI;rw[e];show(xs++[v])[xs.length]?=some v;simp
noncomputable def Hf(b:Expr):Prop:=∀o i,subscripted b false o i=operate [o,i] (getItem o i)
noncomputable def IxR(X:Cx)(r:R2):Prop:=
 ∀(value slice:Expr) (pins:List (Addr×Obj)) (s:X1) (σ:St) (H:Hp) (x y:V) (v u:X0) (Q:VK),Inv X pins σ H s->RelV x v->RelV y u->r x y H Q->
  subscripted slice false v u=operate [v,u] (getItem v u)->X4 (X9 X.prog X.w) X.A (subscriptTail value slice v u) (EP X pins σ Q) X.xe s
noncomputable def MtR(X:Cx)(id:String)(r:V->List V->Hp->VK->Prop):Prop:=
 ∀(pins:List (Addr×Obj)) (s:X1) (σ:St) (H:Hp) (x:V) (xs:List V) (v:X0) (us:List X0) (Q:VK),Inv X pins σ H s->RelV x v->Vals xs us->r x xs H Q->
  X4 (X9 X.prog X.w) X.A (call (.builtin id) (v::us)) (EP X pins σ Q) X.xe s
section
variable{X:Cx}{a b:Expr}{ta tb:TE}{pos:Pos}
theorem IxR.or{r r':R2}(h:IxR X r)(h':IxR X r'):IxR X (λx y H Q=>r x y H Q\/r' x y H Q):=by
 intro value slice pins s σ H x y v u Q I rx ry q hs;rcases q with q|q
 ·exact h value slice pins s σ H x y v u Q I rx ry q hs
 ·exact h' value slice pins s σ H x y v u Q I rx ry q hs
theorem MtR.or{id:String}{r r':V->List V->Hp->VK->Prop}(h:MtR X id r)(h':MtR X id r'):MtR X id (λx xs H Q=>r x xs H Q\/r' x xs H Q):=by
 intro pins s σ H x xs v us Q I rx rs q;rcases q with q|q
 ·exact h pins s σ H x xs v us Q I rx rs q
 ·exact h' pins s σ H x xs v us Q I rx rs q
theorem Rm{r:R2}(hr:IxR X r)(ha:PE X a ta)(hb:PE X b tb)(hs:Hf b):PE X (.Subscript a b pos) (tOp r ta tb):=by
 intro pins s σ H Q I h;exact Subscript_ (binT ha hb I h λv u s2 x y H2 I2 rx ry q=>hr a b pins s2 σ H2 x y v u Q I2 rx ry q (hs _ _))
noncomputable def rIxL(K:X6):R2:=λx y H Q=>∃p xs i v,x=.ref p/\y=.int i/\SqL K H p xs/\atI xs i=some v/\Q v H
noncomputable def rIxT(K:X6):R2:=λx y H Q=>∃p xs i v,x=.ref p/\y=.int i/\SqT K H p xs/\atI xs i=some v/\Q v H
noncomputable def rIxS:R2:=λx y H Q=>∃z i c,x=.str z/\y=.int i/\z.length≤sizeLine/\atI z.cps.toList i=some c/\Q (.str ⟨#[c]⟩) H
theorem Hg:IxR X (rIxL X.K):=by
 intro value slice pins s σ H x y v u Q I rx ry h hs;obtain⟨p,xs,i,z,rfl,rfl,hq,he,q⟩:=h;cases rx;obtain⟨t,rfl⟩:=ry;obtain⟨its,r,pl,hz⟩:=I.list hq;obtain⟨j,h1,h2,h3,h4,h5⟩:=Dk he;obtain⟨w,ew,rw'⟩:=r.get h2;have hl:=r.length;have hn:=Wr;have fin:EP X pins σ Q w s:=⟨z,H,I,rw',q⟩;by_cases h0:0≤i
 ·have hj:i.toNat=j:=by
   rw[seqIndex_of h0 h5]at h1;exact Yg h1
  exact item_listR pl.isList h0 (by lia) (by rw[hj];simpa using ew) fin hs
 ·have hj:(i+(its.toArray.size:Int)).toNat=j:=by
   rw[seqIndex_neg (by lia) h4]at h1
   rw[XT,<- hl];exact Yg h1
  exact subscriptTail_builtinR (x:=w) pl.isList.typeIs slot_list_getitem.lookup
   (wpAny_getItem_list_neg (Q:=λr s'=>r=w/\EP X pins σ Q r s') pl.isList (by lia) (by rw[XT]<;>lia) (by lia) (by rw[hj];simpa using ew) ⟨rfl,fin⟩) hs
theorem Rn:IxR X (rIxT X.K):=by
 intro value slice pins s σ H x y v u Q I rx ry h hs;obtain⟨p,xs,i,z,rfl,rfl,hq,he,q⟩:=h;cases rx;obtain⟨t,rfl⟩:=ry;obtain⟨its,r,pl,hz⟩:=I.tuple hq;obtain⟨j,h1,h2,h3,h4,h5⟩:=Dk he;obtain⟨w,ew,rw'⟩:=r.get h2;have hl:=r.length;have hn:=Wr;have fin:EP X pins σ Q w s:=⟨z,H,I,rw',q⟩;exact subscriptTail_builtinR (x:=w) pl.typeIs slot_tuple_getitem.lookup
  (getItem_tuple (j:=j) (Q:=λr s'=>r=w/\EP X pins σ Q r s') pl (by lia) (by lia) (by rw[XT,<- hl];exact h1) (by simpa using ew) ⟨rfl,fin⟩) hs
theorem Ro:IxR X rIxS:=by
 intro value slice pins s σ H x y v u Q I rx ry h hs;obtain⟨z,i,c,rfl,rfl,hz,he,q⟩:=h;obtain⟨t,rfl⟩:=rx;obtain⟨t',rfl⟩:=ry;obtain⟨j,h1,h2,h3,h4,h5⟩:=Dk he;have hl:z.cps.toList.length=z.length:=by simp[Bz]
 rw[hl]at h1 h4 h5;have hn:=Wr;exact tail_any (typeIs_str s z t) slot_str_getitem.lookup (getItem_str (c:=c) (by
  have e1:decide (i< -(2^63:Int))=false:=decide_eq_false (by lia)
  have e2:decide (i ≥ 2^63)=false:=decide_eq_false (by lia)
  rw[e1,e2,Bool.or_false]) (by rw[h1];simpa using h2) ⟨.str ⟨#[c]⟩,H,I.tok _,⟨_,rfl⟩,q⟩) hs
theorem Rp(its:List X0)(n j:Nat)(u:X0):UP (·.setIfInBounds j u) {cls:=.type "list",data:=.seq its.toArray n}={cls:=.type "list",data:=.seq (its.set j u).toArray n}:=by
 simp[UP]
theorem Inv.lst{pins:List (Addr×Obj)}{σ:St}{H:Hp}{s:X1}{p:Addr}{xs:List V}(I:Inv X pins σ H s)(h:H p=some (.lst xs)):
  ∃(its:List X0) (n:Nat),Vals xs its/\s.heap.get? p=some {cls:=.type "list",data:=.seq its.toArray n}/\xs.length≤sizeLine:=by
 obtain⟨z,its,n,r,e⟩:=I.hok p _ h;exact⟨its,n,r,e,z⟩
theorem Inv.lstUpd{pins:List (Addr×Obj)}{σ:St}{H:Hp}{s:X1}{p:Addr}{xs ys:List V}{its its':List X0}{n n':Nat}{f:Obj->Obj}(I:Inv X pins σ H s)(h:H p=some (.lst xs))
  (ho:s.heap.get? p=some {cls:=.type "list",data:=.seq its.toArray n}) (hf:f {cls:=.type "list",data:=.seq its.toArray n}={cls:=.type "list",data:=.seq its'.toArray n'}) (r:Vals ys its') (hz:ys.length≤sizeLine) (t:Nat):
  Inv X pins σ (upd H p (.lst ys)) {s with heap:=s.heap.update p f,toks:=t}:=by
 have e:(s.heap.update p f).get? p=some {cls:=.type "list",data:=.seq its'.toArray n'}:=by
  rw[VA f ho (by rw[hf]<;>rfl),hf]
 refine I.write (x:=p) (e:=p) (by rw[h];trivial) (.inl rfl) (λb u hb q=>(Wg _ _ (Ui hb)).trans q) ⟨_,e⟩ ?_
 exact⟨hz,its',n',r,e⟩
noncomputable def Rq:V->V->V->Hp->(Hp->Prop)->Prop:=λo i v H Q=>∃p xs k j,o=.ref p/\i=.int k/\H p=some (.lst xs)/\ixN xs.length k=some j/\Q (upd H p (.lst (xs.set j v)))
theorem Rr:PSet X Rq:=by
 intro pins s σ H o i v ov iv u Q I ro ri rv h;obtain⟨p,xs,k,j,rfl,rfl,hp,hj,q⟩:=h;cases ro;obtain⟨t,rfl⟩:=ri;obtain⟨its,n,r,ho,hz⟩:=I.lst hp;obtain⟨h1,h2,h3,h4⟩:=Hd hj;have hl:=r.length;have hn:=Wr;have I':Inv X pins σ (upd H p (.lst (xs.set j v))) {s with heap:=s.heap.update p (UP (·.setIfInBounds j u))}:=
  I.lstUpd hp ho (Rp its n j u) (r.set rv j) (by rw[A6];exact hz) s.toks
 by_cases h0:0≤k
 ·have hk:k.toNat=j:=by
   rw[seqIndex_of h0 h4]at h1;exact Yg h1
  exact PySem.W.ki_setAt ho h0 (by lia) (by rw[XT,<- hl];exact h4) (by rw[hk];exact⟨_,I',q⟩)
 ·have hk:(k+(its.toArray.size:Int)).toNat=j:=by
   rw[seqIndex_neg (by lia) h3]at h1
   rw[XT,<- hl];exact Yg h1
  exact PySem.W.ki_setBack ho (by lia) (by rw[XT,<- hl];exact h3) (by lia) (by rw[hk];exact⟨_,I',q⟩)
theorem Dl(lo hi:Option Int)(n:Nat):(Z2 lo hi none n).1=((HT.sIx n 0 lo:Nat):Int)/\(Z2 lo hi none n).2.1=((HT.sIx n n hi:Nat):Int)/\(Z2 lo hi none n).2.2=1:=by
 refine⟨?_,?_,rfl⟩
 ·cases lo with
  |none=>simp[Z2,HT.sIx]
  |some i=>
   simp only[Z2,HT.sIx,Option.getD_none,show(1:Int)>0 by decide,if_true]
   by_cases h:i<0
   ·simp only[h,if_true]<;>lia
   ·simp only[h,if_false]<;>lia
 ·cases hi with
  |none=>simp[Z2,HT.sIx]
  |some i=>
   simp only[Z2,HT.sIx,Option.getD_none,show(1:Int)>0 by decide,if_true]
   by_cases h:i<0
   ·simp only[h,if_true]<;>lia
   ·simp only[h,if_false]<;>lia
theorem Rs(its:List X0)(lo hi:Option Int):slicePick its.toArray lo hi none=((its.drop (HT.sIx its.length 0 lo)).take (HT.sIx its.length its.length hi - HT.sIx its.length 0 lo)).toArray:=by
 obtain⟨h1,h2,h3⟩:=Dl lo hi its.toArray.size;unfold slicePick;rw[h1,h2,h3];simp only[sliceRange_one,pick_run,XT]<;>rfl
noncomputable def rSlL(K:X6):V->Option Int->Option Int->Hp->VK->Prop:=λx lo hi H Q=>∃a xs,x=.ref a/\SqL K H a xs/\∀p,H p=none->Q (.ref p) (upd H p (.lst (cutV xs lo hi)))
theorem Hh:SlR X (rSlL X.K):=by
 intro pins s σ H x v vl vu lo hi sl Q I rx hs pl pu h;obtain⟨a,xs,rfl,hx,q⟩:=h;cases rx;obtain⟨its,r,ht,hz⟩:=I.list hx;have hlen:=r.length;refine⟨"list",_,slot_list_getitem.lookup,ht.isList.typeIs,?_⟩;refine wpAny_getItem_list_slice ht.isList hs pl pu .none (by simp) ?_ (by rw[XT]<;>lia)
 rw[Rs,<- hlen];refine⟨.ref s.heap.objs.size,_,I.laid (t':=s.toks) (o:=.lst (cutV xs lo hi)) (λb ob q=>Xr _ q) (Xl _) ?_,rfl,q _ (I.hok.fresh (Xl _))⟩;exact⟨Y3 (Hc xs lo hi) hz,_,0,(r.drop (HT.sIx xs.length 0 lo)).take (HT.sIx xs.length xs.length hi - HT.sIx xs.length 0 lo),XR _ rfl⟩
noncomputable def UA:V->Bool
 |.non=>true
 |.bl _=>true
 |.int _=>true
 |.str _=>true
 |_=>false
noncomputable def eqV:V->V->Bool
 |.non,.non=>true
 |.bl a,.bl b=>a==b
 |.bl a,.int b=>(if a then 1 else 0)==b
 |.int a,.bl b=>a==(if b then 1 else 0)
 |.int a,.int b=>a==b
 |.str a,.str b=>a==b
 |_,_=>false
theorem Hi{A:Xs}{s:X1}{y x:V}{u v:X0}(ry:RelV y u)(rx:RelV x v)(fy:UA y=true)(fx:UA x=true):SeqAt.EqAt A s u v (eqV y x):=by
 cases y with
 |non=>
  cases ry;cases x with
  |non=>cases rx;exact SeqAt.EqAt.same _
  |bl b=>cases rx;exact SeqAt.EqAt.none_bool b
  |int b=>obtain⟨t,rfl⟩:=rx;exact SeqAt.EqAt.none_int b t
  |str b=>obtain⟨t,rfl⟩:=rx;exact SeqAt.EqAt.none_str b t
  |_=>exact absurd (show false=true from fx) XF
 |bl a=>
  cases ry;cases x with
  |non=>cases rx;exact SeqAt.EqAt.bool_none a
  |bl b=>cases rx;exact SeqAt.EqAt.bool_bool a b
  |int b=>obtain⟨t,rfl⟩:=rx;exact SeqAt.EqAt.bool_int a b t
  |str b=>obtain⟨t,rfl⟩:=rx;exact SeqAt.EqAt.bool_str a b t
  |_=>exact absurd (show false=true from fx) XF
 |int a=>
  obtain⟨t',rfl⟩:=ry;cases x with
  |non=>cases rx;exact SeqAt.EqAt.int_none a t'
  |bl b=>cases rx;exact SeqAt.EqAt.int_bool a t' b
  |int b=>obtain⟨t,rfl⟩:=rx;exact SeqAt.EqAt.int_int a t' b t
  |str b=>obtain⟨t,rfl⟩:=rx;exact Gp a t' b t
  |_=>exact absurd (show false=true from fx) XF
 |str a=>
  obtain⟨t',rfl⟩:=ry;cases x with
  |non=>cases rx;exact SeqAt.EqAt.str_none a t'
  |bl b=>cases rx;exact SeqAt.EqAt.str_bool a t' b
  |int b=>obtain⟨t,rfl⟩:=rx;exact Gq a t' b t
  |str b=>obtain⟨t,rfl⟩:=rx;exact SeqAt.EqAt.str_str a t' b t
  |_=>exact absurd (show false=true from fx) XF
 |_=>exact absurd (show false=true from fy) XF
noncomputable def eqU(x:V)(u:X0):Bool:=match u with
 |.none=>eqV .non x
 |.bool b=>eqV (.bl b) x
 |.int i _=>eqV (.int i) x
 |.str z _=>eqV (.str z) x
 |_=>false
theorem Hj{x y:V}{u:X0}(r:RelV y u)(f:UA y=true):eqU x u=eqV y x:=by
 cases y with
 |non=>cases r;rfl
 |bl b=>cases r;rfl
 |int i=>obtain⟨t,rfl⟩:=r;rfl
 |str z=>obtain⟨t,rfl⟩:=r;rfl
 |_=>exact absurd (show false=true from f) XF
theorem Ag{x:V}:∀{xs:List V} {us:List X0},Vals xs us->xs.all UA=true->us.any (eqU x)=xs.any λy=>eqV y x
 |_,_,.nil,_=>rfl
 |y::xs,u::us,.cons r t,f=>by
  rw[Vx,YA]at f;rw[Uv,Uv,Hj r f.1,Ag t f.2]
theorem Ah{A:Xs}{s:X1}{x:V}{v:X0}(rx:RelV x v)(fx:UA x=true):∀{xs:List V} {us:List X0},Vals xs us->xs.all UA=true->∀u∈us,SeqAt.EqAt A s u v (eqU x u)
 |_,_,.nil,_=>λu hu=>by cases hu
 |y::xs,u::us,.cons r t,f=>λu' hu=>by
  rw[Vx,YA]at f;rcases Xu.mp hu with rfl|hu
  ·rw[Hj r f.1];exact Hi r rx f.1 fx
  ·exact Ah rx fx t f.2 u' hu
noncomputable def inV(x:V)(xs:List V):Bool:=xs.any λy=>eqV y x
noncomputable def rIn(K:X6)(neg:Bool):R2:=λx y H Q=>∃p xs,y=.ref p/\(SqL K H p xs\/SqT K H p xs)/\UA x=true/\xs.all UA=true/\Q (.bl (if neg then !inV x xs else inV x xs)) H
theorem Dm:OpR X (Y2 .In) (rIn X.K false):=by
 intro pins s σ H x y v u Q I rx ry h;obtain⟨p,xs,rfl,hq,fx,fs,q⟩:=h;cases ry;rcases hq with hq|hq
 ·obtain⟨its,r,pl,hz⟩:=I.list hq;refine SeqAt.in_listAt (eqU x) pl.isList (λw hw=>Ah rx fx r fs w (by simpa using hw)) ⟨.bl _,H,I,rfl,?_⟩
  rw[show its.toArray.any (eqU x)=its.any (eqU x) by simp,Ag r fs]
  exact q
 ·obtain⟨its,r,pl,hz⟩:=I.tuple hq;refine SeqAt.in_tupleAt (eqU x) pl (λw hw=>Ah rx fx r fs w (by simpa using hw)) ⟨.bl _,H,I,rfl,?_⟩
  rw[show its.toArray.any (eqU x)=its.any (eqU x) by simp,Ag r fs]
  exact q
theorem Do:OpR X (Y2 .NotIn) (rIn X.K true):=by
 intro pins s σ H x y v u Q I rx ry h;obtain⟨p,xs,rfl,hq,fx,fs,q⟩:=h;cases ry;rcases hq with hq|hq
 ·obtain⟨its,r,pl,hz⟩:=I.list hq;refine SeqAt.notIn_listAt (eqU x) pl.isList (λw hw=>Ah rx fx r fs w (by simpa using hw)) ⟨.bl _,H,I,rfl,?_⟩
  rw[show its.toArray.any (eqU x)=its.any (eqU x) by simp,Ag r fs]
  exact q
 ·obtain⟨its,r,pl,hz⟩:=I.tuple hq;refine SeqAt.notIn_tupleAt (eqU x) pl (λw hw=>Ah rx fx r fs w (by simpa using hw)) ⟨.bl _,H,I,rfl,?_⟩
  rw[show its.toArray.any (eqU x)=its.any (eqU x) by simp,Ag r fs]
  exact q
theorem Dq:CallR X (.builtin "len") (fun xs H Q=>∃p ys,xs=[.ref p]/\(SqL X.K H p ys\/SqT X.K H p ys)/\Q (.int ys.length) H):=by
 intro pins s σ H xs us Q I r h;obtain⟨p,ys,rfl,hq,q⟩:=h;obtain⟨u,rfl,rx⟩:=YQ r;cases rx;have hn:=Wr;rcases hq with hq|hq
 ·obtain⟨its,r',pl,hz⟩:=I.list hq;have hlen:=r'.length;exact Calls.call_len_list pl.isList (by simp only[XT]<;>lia) ⟨.int ys.length,H,I.tok _,⟨s.toks+1,by rw[XT,hlen]⟩,q⟩
 ·obtain⟨its,r',pl,hz⟩:=I.tuple hq;have hlen:=r'.length;exact len_tuple pl (by simp only[XT]<;>lia) ⟨.int ys.length,H,I.tok _,⟨s.toks+1,by rw[XT,hlen]⟩,q⟩
theorem Rt:CallR X (.builtin "len") (fun xs H Q=>∃z,xs=[.str z]/\z.length≤sizeLine/\Q (.int z.length) H):=by
 intro pins s σ H xs us Q I r h;obtain⟨z,rfl,hz,q⟩:=h;obtain⟨u,rfl,t,rfl⟩:=YQ r;have hn:=Wr;exact len_str (by lia) ⟨.int z.length,H,I.tok _,⟨_,rfl⟩,q⟩
theorem CallR.or{f:X0}{r r':List V->Hp->VK->Prop}(h:CallR X f r)(h':CallR X f r'):CallR X f (λxs H Q=>r xs H Q\/r' xs H Q):=by
 intro pins s σ H xs us Q I rs q;rcases q with q|q
 ·exact h pins s σ H xs us Q I rs q
 ·exact h' pins s σ H xs us Q I rs q
theorem Dr:CallR X (.type "list") (fun xs H Q=>∃p ys,xs=[.ref p]/\(SqL X.K H p ys\/SqT X.K H p ys)/\∀l,H l=none->Q (.ref l) (upd H l (.lst ys))):=by
 intro pins s σ H xs us Q I r h;obtain⟨p,ys,rfl,hq,q⟩:=h;obtain⟨u,rfl,rx⟩:=YQ r;cases rx;have fin:∀(its:List X0),Vals ys its->ys.length≤sizeLine->∀(h':Heap) (c':Nat),(∀b o',s.heap.get? b=some o'->h'.get? b=some o')->
   h'.get? s.heap.objs.size=some {cls:=.type "list",dict:=none,data:=.seq its.toArray c',slots:=#[]}->EP X pins σ Q (.ref s.heap.objs.size) {s with heap:=h'}:=fun its r' hz h' c' kp e=>
  ⟨.ref s.heap.objs.size,_,I.laid (t':=s.toks) kp (Xl _) (show ObjOk X.prog X.w _ h' _ (.lst ys)from⟨hz,its,c',r',e⟩),rfl,q _ (I.hok.fresh (Xl _))⟩
 rcases hq with hq|hq
 ·obtain⟨its,r',pl,hz⟩:=I.list hq;have hlen:=r'.length;obtain⟨o,ho,hc,n,hd⟩:=pl.isList;exact call_list_seq p (.inl rfl) ho hc hd (λh' c' kp e=>fin its r' hz h' c' kp e) (by simp only[XT]<;>lia)
 ·obtain⟨its,r',pl,hz⟩:=I.tuple hq;have hlen:=r'.length;obtain⟨o,ho,hc,n,hd⟩:=pl;exact call_list_seq p (.inr rfl) ho hc hd (λh' c' kp e=>fin its r' hz h' c' kp e) (by simp only[XT]<;>lia)
theorem Ds:CallR X (.type "tuple") (fun xs H Q=>∃p ys,xs=[.ref p]/\((SqL X.K H p ys/\∀l,H l=none->Q (.ref l) (upd H l (.tup ys)))\/(SqT X.K H p ys/\Q (.ref p) H))):=by
 intro pins s σ H xs us Q I r h;obtain⟨p,ys,rfl,h⟩:=h;obtain⟨u,rfl,rx⟩:=YQ r;cases rx;rcases h with⟨hq,q⟩|⟨hq,q⟩
 ·obtain⟨its,r',pl,hz⟩:=I.list hq;have hlen:=r'.length;refine call_tuple_list pl.isList (λh' kp=>?_) (by simp only[XT]<;>lia)
  have I1:Inv X pins σ H {s with heap:=h'}:=I.kept (t':=s.toks) kp;have I2:Inv X pins σ (upd H h'.objs.size (.tup ys)) {s with heap:=h'.push {cls:=.type "tuple",data:=.seq its.toArray} }:=
   I1.laid (t':=s.toks) (λb o e=>Xr _ e) (Xl _) (show ObjOk X.prog X.w _ _ _ (.tup ys)from⟨hz,its,r',IsTup.new _ _,_,XR _ rfl,rfl⟩)
  exact⟨.ref h'.objs.size,_,I2,rfl,q _ (I1.hok.fresh (Xl _))⟩
 ·obtain⟨its,r',pl,hz⟩:=I.tuple hq;exact call_tuple_same pl ⟨.ref p,H,I,rfl,q⟩
noncomputable def tyV(K:X6)(T:String)(x:V)(H:Hp):Prop:=match x with
 |.str _=>T="str"
 |.int _=>T="int"
 |.ref p=>(T="list"/\∃xs,SqL K H p xs)\/(T="tuple"/\∃o,K.lookup p=some o/\o.cls=.type "tuple"/\o.dict=none)\/
   (T="dict"/\((∃kvs,H p=some (.dK kvs))\/∃kvs,H p=some (.dT kvs)))\/(T="set"/\∃S n,H p=some (.set S n))
 |_=>False
theorem Hk{pins:List (Addr×Obj)}{σ:St}{H:Hp}{s:X1}{T:String}{x:V}{v:X0}(I:Inv X pins σ H s)(r:RelV x v)(ty:tyV X.K T x H):
  s.TypeIs v T/\∀a,v=.ref a->∃ob,s.heap.get? a=some ob/\ob.dict=none:=by
 cases x with
 |str z=>
  obtain⟨t,rfl⟩:=r;cases(show T="str" from ty);exact⟨typeIs_str s z t,λ_ e=>nomatch e⟩
 |int i=>
  obtain⟨t,rfl⟩:=r;cases(show T="int" from ty);exact⟨typeIs_int s i t,λ_ e=>nomatch e⟩
 |ref p=>
  cases r;rcases ty with⟨rfl,xs,hq⟩|⟨rfl,o,hk,hc,hd⟩|⟨rfl,hk⟩|⟨rfl,S,n,hk⟩
  ·obtain⟨its,_,pl,_⟩:=I.list hq;refine⟨pl.isList.typeIs,λa e=>?_⟩;cases e;obtain⟨o,n,e,c,hd,_⟩:=pl;exact⟨o,e,hd⟩
  ·refine⟨⟨o,I.kIn p o hk,hc⟩,λa e=>?_⟩;cases e;exact⟨o,I.kIn _ o hk,hd⟩
  ·have z:∃o,s.heap.get? p=some o/\o.ExactDict:=by
    rcases hk with⟨kvs,hk⟩|⟨kvs,hk⟩
    ·obtain⟨_,_,_,_,o,_,_,e,ex,_⟩:=I.hok p _ hk;exact⟨o,e,ex⟩
    ·obtain⟨_,_,_,_,o,_,_,e,ex,_⟩:=I.hok p _ hk;exact⟨o,e,ex⟩
   obtain⟨o,e,ex⟩:=z;refine⟨⟨o,e,ex.1⟩,λa e2=>?_⟩;cases e2;exact⟨o,e,ex.2.1⟩
  ·obtain⟨o,_,_,_,e,ex,_⟩:=I.hok p _ hk;refine⟨⟨o,e,ex.1⟩,λa e2=>?_⟩;cases e2;exact⟨o,e,ex.2.1⟩
 |_=>exact YI ty
noncomputable def tBM0(K:X6)(T:String)(r:V->List V->Hp->VK->Prop)(to:TE):TE:=λσ H Q=>to σ H λx H1=>tyV K T x H1/\r x [] H1 Q
noncomputable def tBM(K:X6)(T:String)(r:V->List V->Hp->VK->Prop)(to:TE)(t:TA):TE:=λσ H Q=>to σ H λx H1=>tyV K T x H1/\t σ H1 λxs H2=>r x xs H2 Q
variable{o e:Expr}{es:List Expr}{to:TE}{t:TA}{name:Str}{apos cpos:Pos}{T id:String}{r:V->List V->Hp->VK->Prop}
theorem Ru(pa:PlainAttrs T)(slot:Slot T name id)(hty:typeOf (.builtin id)=pure (.type "method_descriptor"))(hm:MtR X id r)(ho:PE X o to)
  (hbase:WV o name X.env (eval o X.env)=eval o X.env:=by rfl) (hline:(apos.endLine==cpos.line)=true:=by rfl):PE X (.Call (.Attribute o name apos) [] [] cpos) (tBM0 X.K T r to):=by
 intro pins s σ H Q I h;refine wpAny_Call_method0_late hbase hline (thn (ho pins s σ H _ I h) λv s1 ⟨x,H1,I1,r1,ty,q1⟩=>?_);obtain⟨h1,h2⟩:=Hk I1 r1 ty;exact⟨T,id,pa,slot,hty,h1,h2,Gi rfl (PySem.evalArgs_none (hm pins s1 σ H1 x [] v [] Q I1 r1 .nil q1))⟩
theorem Rv(pa:PlainAttrs T)(slot:Slot T name id)(hty:typeOf (.builtin id)=pure (.type "method_descriptor"))(hm:MtR X id r)(ho:PE X o to)(ha:PA X (e::es) t)
  (hbase:WV o name X.env (eval o X.env)=eval o X.env:=by rfl)
  (hfew:((Ys cpos (XL (e::es) X.env)).all (λx=>!x.1)&&(backToKw cpos (keywordEach [] X.env)).all (λx=>x.1.isSome)
   &&decide ((e::es).length+([]:List Up).length+(if([]:List Up).isEmpty then 0 else 1)<30))=true:=by rfl)
  (hline:(apos.endLine==cpos.line)=true:=by rfl) (hs:XL (e::es) X.env=(false,eval e X.env)::XL es X.env:=by rfl) (hplain:(Ys cpos (XL es X.env)).any (·.1)=false:=by rfl):
  PE X (.Call (.Attribute o name apos) (e::es) [] cpos) (tBM X.K T r to t):=by
 intro pins s σ H Q I h;refine wpAny_Call_method_late hbase hfew hline rfl (thn (ho pins s σ H _ I h) λv s1 ⟨x,H1,I1,r1,ty,q1⟩=>?_);obtain⟨h1,h2⟩:=Hk I1 r1 ty;refine⟨T,id,pa,slot,hty,h1,h2,?_⟩;have hA:=ha cpos pins s1 σ H1 _ I1 q1;rw[hs]at hA ⊢;refine Gi (by show(false||(Ys cpos (XL es X.env)).any (·.1))=false;rw[hplain]<;>rfl) (Calls.evalArgs_plain ?_)
 exact thn hA λus s2 ⟨vs,H2,I2,r2,q2⟩=>hm pins s2 σ H2 x vs v us Q I2 r1 r2 q2
/- xs.append(e),list.index on a module's tuple .. are MtR facts of 06m -/
end
noncomputable def MtM(X:Cx)(id:String)(r:V->List V->Hp->VK->Prop):Prop:=
 ∀(pins:List (Addr×Obj)) (s:X1) (σ:St) (H:Hp) (x:V) (xs:List V) (v:X0) (us:List X0) (Q:VK),Inv X pins σ H s->RelV x v->Vals xs us->r x xs H Q->
  X4 (X9 X.prog X.w) X.A (call (.builtin id) (v::us)) (EP X pins σ Q) X.xe s
theorem Vals.one:∀{x:V} {us:List X0},Vals [x] us->∃u,us=[u]/\RelV x u
 |_,_,.cons r .nil=>⟨_,rfl,r⟩
theorem Vals.two:∀{x y:V} {us:List X0},Vals [x,y] us->∃u v,us=[u,v]/\RelV x u/\RelV y v
 |_,_,_,.cons r (.cons q .nil)=>⟨_,_,rfl,r,q⟩
section
variable{X:Cx}{pins:List (Addr×Obj)}{σ:St}{H:Hp}{s:X1}{l b:Addr}{xs ys zs:List V}
theorem Inv.lset{its its':List X0}{n:Nat}{f:Array X0->Array X0}{t':Nat}(I:Inv X pins σ H s)(hH:H l=some (.lst xs))
  (e:s.heap.get? l=some {cls:=.type "list",data:=.seq its.toArray n}) (hf:f its.toArray=its'.toArray) (hv:Vals ys its') (hz:ys.length≤sizeLine):
  Inv X pins σ (upd H l (.lst ys)) {s with heap:=s.heap.update l (UP f),toks:=t'}:=by
 have q:=PySem.IsL.update e f;rw[hf]at q;refine I.write (x:=l) (e:=l) (by rw[hH];exact trivial) (.inl rfl) (λb' u hb hu=>(Wg s.heap (UP f) (Ui hb)).trans hu) ⟨_,q⟩ ?_
 exact⟨hz,its',_,hv,q⟩
theorem Inv.lstM(I:Inv X pins σ H s)(hH:H l=some (.lst xs)):xs.length≤sizeLine/\∃(its:List X0) (n:Nat),Vals xs its/\xs.length=its.length/\s.heap.get? l=some {cls:=.type "list",data:=.seq its.toArray n}:=by
 obtain⟨z,its,n,r,e⟩:=I.hok l _ hH;exact⟨z,its,n,r,r.length,e⟩
theorem Rw{n:Nat}(h:n≤sizeLine):Dc n=false:=by
 unfold Dc;exact decide_eq_false (by lia)
end
section
variable{X:Cx}
noncomputable def Rx:V->List V->Hp->VK->Prop:=λx vs H Q=>∃l xs y,x=.ref l/\vs=[y]/\H l=some (.lst xs)/\xs.length<sizeLine/\Q .non (upd H l (.lst (xs++[y])))
theorem Hl:MtM X "list.append" Rx:=by
 intro pins s σ H x vs v us Q I rx rv h;obtain⟨l,xs,y,rfl,rfl,hH,hz,q⟩:=h;cases rx;obtain⟨u,rfl,ru⟩:=rv.one;obtain⟨z,its,n,r,hl,e⟩:=I.lstM hH;refine call_meets F.slot_list_append ⟨_,e,rfl⟩ F.entry_list_append (F.args_list_append_2 _ _) (PySem.list_append l its.toArray n u (by rw[XT];lia)) ⟨e,?_⟩
 refine⟨.non,_,I.lset (its':=its++[u]) hH e (by simp) (r.append (.cons ru .nil)) ?_,rfl,q⟩
 rw[Y0,Us];lia
noncomputable def Ry:V->List V->Hp->VK->Prop:=λx vs H Q=>∃l b xs zs,x=.ref l/\vs=[.ref b]/\H l=some (.lst xs)/\H b=some (.lst zs)/\xs.length+zs.length≤sizeLine/\Q .non (upd H l (.lst (xs++zs)))
theorem Rz:MtM X "list.extend" Ry:=by
 intro pins s σ H x vs v us Q I rx rv h;obtain⟨l,b,xs,zs,rfl,rfl,hH,hB,hz,q⟩:=h;cases rx;obtain⟨u,rfl,ru⟩:=rv.one;cases ru;obtain⟨z,its,n,r,hl,e⟩:=I.lstM hH;obtain⟨z2,its2,n2,r2,hl2,e2⟩:=I.lstM hB;have hsz:its.toArray.size+its2.toArray.size≤sizeLine:=by rw[XT,XT];lia
 have hlong:¬(!its.toArray.isEmpty&&Dc (its.toArray.size+its2.toArray.size))=true:=by
  rw[Rw hsz,CW];exact XF
 refine call_meets F.slot_list_extend ⟨_,e,rfl⟩ F.entry_list_extend (F.args_list_extend_2 _ _)
  (AutoSeq1.list_extend_list_list_0 l its.toArray n b its2.toArray n2 hlong (by rw[XT];lia) (by lia)) ⟨e,e2,?_⟩
 refine⟨.non,_,I.lset (its':=its++its2) hH e (by simp) (r.append r2) ?_,rfl,q⟩
 rw[Y0];lia
end
section
variable{prog:Xm}{w:Xj}{A:Xs}{E:X0->X1->Prop}{s:X1}
set_option maxRecDepth 100000 in
end
section
variable{X:Cx}
end
section
variable{κ:Type} [DecidableEq κ]
noncomputable def valV(kvs:List (κ×V))(k:κ):Option V:=(kvs.find? λkv=>decide (kv.1=k)).map (·.2)
noncomputable def putK(kvs:List (κ×V))(k:κ)(v:V):List (κ×V):=
 if(kvs.any λkv=>decide (kv.1=k))=true then kvs.map (λkv=>if kv.1=k then(kv.1,v)else kv)else kvs++[(k,v)]
theorem BP{p:κ×V}{r:List (κ×V)}{k:κ}(e:p.1=k):valV (p::r) k=some p.2:=by simp[valV,Wd,e]
theorem BQ{p:κ×V}{r:List (κ×V)}{k:κ}(e:¬p.1=k):valV (p::r) k=valV r k:=by simp[valV,Wd,e]
theorem Hm(k:κ):∀kvs:List (κ×V),(kvs.any λkv=>decide (kv.1=k))=(valV kvs k).isSome
 |[]=>rfl
 |p::r=>by
  rw[Uv];by_cases e:p.1=k
  ·simp only[BP e,decide_eq_true e,Bs,Option.isSome_some]
  ·rw[BQ e,decide_eq_false e,Bool.false_or];exact Hm k r
theorem Hn(kvs:List (κ×V))(k:κ)(v:V):(putK kvs k v).length≤kvs.length+1:=by
 unfold putK;split
 ·rw[X7];lia
 ·rw[Y0,YG,List.length_nil];lia
theorem RelO.isSome_eq{o:Option V}{u:Option X0}(r:RelO o u):o.isSome=u.isSome:=by
 cases o with
 |none=>cases u with
  |none=>rfl
  |some _=>exact(show False from r).elim
 |some _=>cases u with
  |none=>exact(show False from r).elim
  |some _=>rfl
theorem KV.val{kvs:List (κ×V)}{vs:List (κ×X0)}(r:KV kvs vs)(k:κ):RelO (valV kvs k) (Z3 vs k):=by
 unfold KV at r
 induction r with
 |nil=>exact YO
 | @cons p q ps qs h t ih=>
  obtain⟨h1,h2⟩:=h;by_cases e:p.1=k
  ·have e':q.1=k:=h1.symm.trans e;have b:Z3 (q::qs) k=some q.2:=by simp[Z3,Wd,e']
   rw[BP e,b];exact h2
  ·have e':¬q.1=k:=λz=>e (h1.trans z);have b:Z3 (q::qs) k=Z3 qs k:=by simp[Z3,Wd,e']
   rw[BQ e,b];exact ih
theorem KV.any{kvs:List (κ×V)}{vs:List (κ×X0)}(r:KV kvs vs)(k:κ):(kvs.any λkv=>decide (kv.1=k))=vs.any λkv=>decide (kv.1=k):=by
 unfold KV at r
 induction r with
 |nil=>rfl
 |cons h t ih=>rw[Uv,Uv,ih,h.1]
theorem KV.repl{kvs:List (κ×V)}{vs:List (κ×X0)}(r:KV kvs vs)(k:κ){y:V}{u:X0}(ry:RelV y u):
  KV (kvs.map λkv=>if kv.1=k then(kv.1,y)else kv) (vs.map λkv=>if kv.1=k then(kv.1,u)else kv):=by
 unfold KV at r ⊢
 induction r with
 |nil=>exact .nil
 | @cons p q ps qs h t ih=>
  rw[XA,XA];refine .cons ?_ ih;obtain⟨h1,h2⟩:=h;by_cases e:p.1=k
  ·rw[if_pos e,if_pos (h1.symm.trans e)];exact⟨h1,ry⟩
  ·rw[if_neg e,if_neg (λz=>e (h1.trans z))];exact⟨h1,h2⟩
theorem KV.put{kvs:List (κ×V)}{vs:List (κ×X0)}(r:KV kvs vs)(k:κ){y:V}{u:X0}(ry:RelV y u):KV (putK kvs k y) (stored vs k u):=by
 unfold putK stored;rw[r.any k];by_cases e:(vs.any λkv=>decide (kv.1=k))=true
 ·rw[if_pos e,if_pos e];exact r.repl k ry
 ·rw[if_neg e,if_neg e];exact Paired.snoc r ⟨rfl,ry⟩
theorem KV.keys{kvs:List (κ×V)}{vs:List (κ×X0)}(r:KV kvs vs):kvs.map (·.1)=vs.map (·.1):=by
 unfold KV at r
 induction r with
 |nil=>rfl
 |cons h t ih=>rw[XA,XA,ih,h.1]
theorem KV.length{kvs:List (κ×V)}{vs:List (κ×X0)}(r:KV kvs vs):kvs.length=vs.length:=Paired.length r
end
theorem VL{P:Xm}{w:Xj}{k:Key}{u:X0}(r:RelV (kV k) u):(YC P w).is k u=true:=by
 cases k with
 |inl i=>obtain⟨t,e⟩:=(show∃t,u=A9 i t from r);subst e;exact PR P w i t
 |inr x=>obtain⟨t,e⟩:=(show∃t,u=XI x t from r);subst e;exact PU P w x t
theorem Ho{P:Xm}{w:Xj}:∀{ks:List Key} {us:List X0},Vals (ks.map kV) us->ItemsAre (YC P w) ks us
 |[],_,r=>by rw[Y8]at r;cases r;exact .nil
 |k::ks,_,r=>by
  rw[XA]at r;cases r with
  |cons h t=>exact .cons (VL h) (Ho t)
noncomputable abbrev KT(H:Hp):List (List Key×V)->List (List Key×Addr×X0)->Prop:=Paired λp q=>p.1=q.1/\H q.2.1=some (.tup (p.1.map kV))/\RelV p.2 q.2.2
theorem KT.val{H:Hp}{kvs:List (List Key×V)}{xs:List (List Key×Addr×X0)}(r:KT H kvs xs)(k:List Key):RelO (valV kvs k) ((atKey xs k).map (·.2)):=by
 induction r with
 |nil=>exact YO
 | @cons p q ps qs h t ih=>
  obtain⟨h1,_,h2⟩:=h;by_cases e:p.1=k
  ·have e':q.1=k:=h1.symm.trans e;have b:atKey (q::qs) k=some q.2:=by simp[atKey,Wd,e']
   rw[BP e,b];exact h2
  ·have e':¬q.1=k:=λz=>e (h1.trans z);have b:atKey (q::qs) k=atKey qs k:=by simp[atKey,Wd,e']
   rw[BQ e,b];exact ih
theorem KT.repl{H:Hp}{kvs:List (List Key×V)}{xs:List (List Key×Addr×X0)}(r:KT H kvs xs)(k:List Key){y:V}{u:X0}(ry:RelV y u):
  KT H (kvs.map λkv=>if kv.1=k then(kv.1,y)else kv) (xs.map (putAt k u)):=by
 induction r with
 |nil=>exact .nil
 | @cons p q ps qs h t ih=>
  rw[XA,XA];refine .cons ?_ ih;obtain⟨h1,h2,h3⟩:=h;unfold putAt;by_cases e:p.1=k
  ·rw[if_pos e,if_pos (h1.symm.trans e)];exact⟨h1,h2,ry⟩
  ·rw[if_neg e,if_neg (λz=>e (h1.trans z))];exact⟨h1,h2,h3⟩
theorem KT.put{H:Hp}{kvs:List (List Key×V)}{xs:List (List Key×Addr×X0)}(r:KT H kvs xs)(k:List Key){b:Addr}{y:V}{u:X0}(hb:H b=some (.tup (k.map kV)))(ry:RelV y u):
  KT H (putK kvs k y) (storedH xs k b u):=by
 have e:(kvs.any λkv=>decide (kv.1=k))=(atKey xs k).isSome:=by
  rw[Hm,(r.val k).isSome_eq,Df]
 unfold putK storedH;rw[e];by_cases q:(atKey xs k).isSome=true
 ·rw[if_pos q,if_pos q];exact r.repl k ry
 ·rw[if_neg q,if_neg q];exact Paired.snoc r ⟨rfl,hb,ry⟩
theorem KT.keeps{H H':Hp}{kvs:List (List Key×V)}{xs:List (List Key×Addr×X0)}(r:KT H kvs xs)(ht:∀b ys,H b=some (.tup ys)->H' b=some (.tup ys)):KT H' kvs xs:=
 Paired.mapP r λ_ _ z=>⟨z.1,ht _ _ z.2.1,z.2.2⟩
section
variable{P:Xm}{w:Xj}{H:Hp}{h:Heap}{a:Addr}
theorem Hq{u:HO}(ok:HOk P w H h)(e:Rd H a u):ObjOk P w H h a u:=e.ok ok
theorem VM{kvs:List (Key×V)}(ok:HOk P w H h)(e:Rd H a (.dK kvs)):kvs.length≤sizeLine/\(a==YU)=false/\∃vs,KV kvs vs/\h.DictOf (YC P w) a vs:=
 show ObjOk P w H h a (.dK kvs)from Hq ok e
theorem Dt{kvs:List (Key×V)}(ok:HOk P w H h)(e:H a=some (.dK kvs)):kvs.length≤sizeLine/\(a==YU)=false/\∃vs,KV kvs vs/\h.DictOf (YC P w) a vs:=VM ok (.inl e)
theorem Ai{ks:List Key}(ok:HOk P w H h)(e:H a=some (.tup (ks.map kV))):(tupleKind (YC P w)).is h ks a:=by
 obtain⟨_,its,r,⟨o,h1,h2,n,h3⟩,_⟩:=(show ObjOk P w H h a (.tup (ks.map kV))from ok a _ e);exact⟨o,its.toArray,n,h1,h2,h3,by simpa using Ho r⟩
theorem Aj{kvs:List (List Key×V)}(ok:HOk P w H h)(e:Rd H a (.dT kvs)):kvs.length≤sizeLine/\(a==YU)=false/\
  ∃xs,KT H kvs xs/\h.DictOfH (tupleKind (YC P w)) a xs:=by
 obtain⟨z,y,xs,r,o,es,ep,h1,h2,h3,h4,h5⟩:=(show ObjOk P w H h a (.dT kvs)from Hq ok e);refine⟨z,y,xs,r,o,es,ep,h1,h2,h3,h4,λx hx=>?_,h5⟩;have all:∀{l:List (List Key×V)} {m:List (List Key×Addr×X0)},KT H l m->∀x∈m,(tupleKind (YC P w)).is h x.1 x.2.1:=by
  intro l m q
  induction q with
  |nil=>intro x hx;exact nomatch hx
  | @cons p q ps qs hq t ih=>
   intro x hx;rcases Xu.mp hx with e|hx
   ·subst e;exact Ai ok (by rw[<- hq.1];exact hq.2.1)
   ·exact ih x hx
 exact all r x hx
theorem RA{kvs:List (List Key×V)}(ok:HOk P w H h)(e:H a=some (.dT kvs)):kvs.length≤sizeLine/\(a==YU)=false/\
  ∃xs,KT H kvs xs/\h.DictOfH (tupleKind (YC P w)) a xs:=Aj ok (.inl e)
end
noncomputable def DGet(H:Hp)(a:Addr)(y:V)(r:Option V):Prop:=
 (∃kvs k,Rd H a (.dK kvs)/\y=kV k/\r=valV kvs k)\/∃kvs k b,Rd H a (.dT kvs)/\y=.ref b/\H b=some (.tup (k.map kV))/\r=valV kvs k
noncomputable def DPut(H:Hp)(a:Addr)(y v:V)(H':Hp):Prop:=
 (∃kvs k,H a=some (.dK kvs)/\y=kV k/\kvs.length<sizeLine/\H'=upd H a (.dK (putK kvs k v)))\/
 ∃kvs k b,H a=some (.dT kvs)/\y=.ref b/\H b=some (.tup (k.map kV))/\kvs.length<sizeLine/\H'=upd H a (.dT (putK kvs k v))
theorem DGet.k{H:Hp}{a:Addr}{kvs:List (Key×V)}{k:Key}(e:H a=some (.dK kvs)):DGet H a (kV k) (valV kvs k):=.inl ⟨kvs,k,.inl e,rfl,rfl⟩
theorem DGet.t{H:Hp}{a b:Addr}{kvs:List (List Key×V)}{k:List Key}(e:H a=some (.dT kvs))(eb:H b=some (.tup (k.map kV))):DGet H a (.ref b) (valV kvs k):=.inr ⟨kvs,k,b,.inl e,rfl,eb,rfl⟩
theorem DPut.k{H:Hp}{a:Addr}{kvs:List (Key×V)}{k:Key}{v:V}(e:H a=some (.dK kvs))(hl:kvs.length<sizeLine):DPut H a (kV k) v (upd H a (.dK (putK kvs k v))):=.inl ⟨kvs,k,e,rfl,hl,rfl⟩
theorem DPut.t{H:Hp}{a b:Addr}{kvs:List (List Key×V)}{k:List Key}{v:V}(e:H a=some (.dT kvs))(eb:H b=some (.tup (k.map kV)))(hl:kvs.length<sizeLine):
  DPut H a (.ref b) v (upd H a (.dT (putK kvs k v))):=.inr ⟨kvs,k,b,e,rfl,eb,hl,rfl⟩
section
variable{X:Cx}{pins:List (Addr×Obj)}{σ:St}{H:Hp}{s:X1}{a:Addr}{y v:V}{u r:X0}{o:Option V}{A:Xs}{E:X0->X1->Prop}
theorem Inv.big(I:Inv X pins σ H s):YU<s.heap.objs.size:=by
 have h:Xf<s.heap.objs.size:=(I.mod.glob.keeps I.bk).lt;exact VC (by decide) h
theorem RB{Q:X0->X1->Prop}(hu:A.units+1<cLine)(I:Inv X pins σ H s)(g:DGet H a y (some v))(ry:RelV y u)(h:∀w' s',Inv X pins σ H s'->RelV v w'->Q w' s'):
  X4 (X9 X.prog X.w) A (getItem (.ref a) u) Q E s:=by
 rcases g with⟨kvs,k,e,ey,l⟩|⟨kvs,k,b,e,ey,eb,l⟩
 ·subst ey;obtain⟨z,hd,vs,rel,dd⟩:=VM I.hok e;obtain⟨w',hw,rw'⟩:=RelO.some_of (v:=v) (o:=Z3 vs k) (by rw[l];exact rel.val k)
  exact wpAny_getItem_of (VL ry) dd.mapOf hw (h w' _ (I.tok _) rw')
 ·subst ey;cases(show u=XC b from ry);obtain⟨z,hd,xs,rel,dd⟩:=Aj I.hok e;obtain⟨w',hw,rw'⟩:=RelO.some_of (v:=v) (o:=(atKey xs k).map (·.2)) (by rw[l];exact rel.val k)
  obtain⟨p,hp,hp2⟩:=Dd.mp hw;refine wpAny_getItem_heap (Ba hu) (Ai I.hok eb) dd hp ?_;rw[hp2];exact h w' _ (I.tok _) rw'
theorem d_in{Q:X0->X1->Prop}(hu:A.units+1<cLine)(I:Inv X pins σ H s)(g:DGet H a y o)(ry:RelV y u)(h:∀s',Inv X pins σ H s'->Q (.bool o.isSome) s'):
  X4 (X9 X.prog X.w) A (Y2 .In u (.ref a)) Q E s:=by
 rcases g with⟨kvs,k,e,ey,l⟩|⟨kvs,k,b,e,ey,eb,l⟩
 ·subst ey;obtain⟨z,hd,vs,rel,dd⟩:=VM I.hok e;refine wpAny_in_of (VL ry) hd dd.mapOf ?_;rw[<- (rel.val k).isSome_eq,<- l];exact h _ (I.tok _)
 ·subst ey;cases(show u=XC b from ry);obtain⟨z,hd,xs,rel,dd⟩:=Aj I.hok e;refine wpAny_in_heap (Ba hu) (Ai I.hok eb) hd dd ?_;have q:=(rel.val k).isSome_eq;rw[Df]at q;rw[<- q,<- l];exact h _ (I.tok _)
theorem RC{Q:X0->X1->Prop}(hu:A.units+1<cLine)(I:Inv X pins σ H s)(g:DGet H a y o)(ry:RelV y u)(h:∀s',Inv X pins σ H s'->Q (.bool (!o.isSome)) s'):
  X4 (X9 X.prog X.w) A (Y2 .NotIn u (.ref a)) Q E s:=by
 rcases g with⟨kvs,k,e,ey,l⟩|⟨kvs,k,b,e,ey,eb,l⟩
 ·subst ey;obtain⟨z,hd,vs,rel,dd⟩:=VM I.hok e;refine wpAny_notIn_of (VL ry) hd dd.mapOf ?_;rw[<- (rel.val k).isSome_eq,<- l];exact h _ (I.tok _)
 ·subst ey;cases(show u=XC b from ry);obtain⟨z,hd,xs,rel,dd⟩:=Aj I.hok e;refine wpAny_notIn_heap (Ba hu) (Ai I.hok eb) hd dd ?_;have q:=(rel.val k).isSome_eq;rw[Df]at q;rw[<- q,<- l];exact h _ (I.tok _)
theorem Hr{h':Heap}{t':Nat}{ob:HO}(I:Inv X pins σ H s)(mu:Mut (H a))(hs:Vc a s.heap h')(he:∃q,h'.get? a=some q)(new:ObjOk X.prog X.w (upd H a ob) h' a ob):
  Inv X pins σ (upd H a ob) {s with heap:=h',toks:=t'}:=
 I.write (x:=a) (e:=a) mu (.inl rfl) (λb q hb z=>(hs.2 b hb).trans z) he new
theorem BR{P:Xm}{w:Xj}{H':Hp}{h':Heap}{kvs:List (Key×V)}{vs:List (Key×X0)}(z:kvs.length≤sizeLine)(hd:(a==YU)=false)(rel:KV kvs vs)(dd:h'.DictOf (YC P w) a vs):
  ObjOk P w H' h' a (.dK kvs):=⟨z,hd,vs,rel,dd⟩
theorem RD{H':Hp}{Q:Unit->X1->Prop}(hu:A.units+1<cLine)(I:Inv X pins σ H s)(g:DPut H a y v H')(ry:RelV y u)(rv:RelV v r)(h:∀s',Inv X pins σ H' s'->Q () s'):
  X4 (X9 X.prog X.w) A (setItem (.ref a) u r) Q E s:=by
 rcases g with⟨kvs,k,e,ey,l,eH⟩|⟨kvs,k,b,e,ey,eb,l,eH⟩
 ·subst ey eH;obtain⟨z,hd,vs,rel,dd⟩:=Dt I.hok e;have hz:vs.length≤sizeLine:=by rw[<- rel.length];exact z
  have hl:(putK kvs k v).length≤sizeLine:=by have:=Hn kvs k v;lia
  refine wpAny_setItem_pairs (hsz:=hz) (VL ry) dd λh' dd' hs=>h _ ?_;have he:∃q,h'.get? a=some q:=let⟨q,_,_,hq,_⟩:=dd';⟨q,hq⟩
  exact Hr I (by rw[e];exact YO) hs he (BR hl hd (rel.put k rv) dd')
 ·subst ey eH;cases(show u=XC b from ry);obtain⟨z,hd,xs,rel,dd⟩:=RA I.hok e;have hz:xs.length≤sizeLine:=by rw[<- Paired.length rel];exact z
  have hl:(putK kvs k v).length≤sizeLine:=by have:=Hn kvs k v;lia
  refine wpAny_setItem_heap (hsz:=hz) (Ba hu) (Ai I.hok eb) dd λh' dd' hs=>h _ ?_;obtain⟨q,es,ep,hq,h2,h3,h4,_,h5⟩:=dd';refine Hr I (by rw[e];exact YO) hs ⟨q,hq⟩ ⟨hl,hd,_,(rel.put k eb rv).keeps λc ys ec=>?_,q,es,ep,hq,h2,h3,h4,h5⟩
  rw[XN (Gx ec e (λz=>nomatch z))];exact ec
end
section
variable{X:Cx}{pins:List (Addr×Obj)}{σ:St}{H:Hp}{s:X1}{a:Addr}{kvs:List (Key×V)}{k:Key}{u:X0}{A:Xs}{E:X0->X1->Prop}
theorem RE{Q:X0->X1->Prop}(I:Inv X pins σ H s)(e:Rd H a (.dK kvs))(h:∀t s',Inv X pins σ H s'->Q (.int kvs.length t) s'):X4 (X9 X.prog X.w) A (call (.builtin "len") [.ref a]) Q E s:=by
 obtain⟨z,hd,vs,rel,dd⟩:=VM I.hok e;refine call_len_dict hd dd (by rw[<- rel.length];rw[sizeLine_eq]at z;lia) ?_
 rw[<- rel.length];exact h _ _ (I.tok _)
end
theorem RF{X:Cx}{pins:List (Addr×Obj)}{σ:St}{H:Hp}{s:X1}{a:Addr}{y:V}{o:Option V}(I:Inv X pins σ H s)(g:DGet H a y o):s.TypeIs (.ref a) "dict":=by
 rcases g with⟨kvs,k,e,_,_⟩|⟨kvs,k,b,e,_,_,_⟩
 ·obtain⟨_,_,vs,_,dd⟩:=VM I.hok e;exact dd.typeIs
 ·obtain⟨_,_,xs,_,dd⟩:=Aj I.hok e;exact dd.typeIs
section
variable{X:Cx}{o i e value:Expr}{pos pos' tpos:Pos}{td ty tv:TE}
end
section
variable{X:Cx}{pos:Pos}
end
noncomputable def Hs:List (TE×TE)->St->Hp->(List (V×V)->Hp->Prop)->Prop
 |[],_,H,Q=>Q [] H
 |(tk,tv)::r,σ,H,Q=>tk σ H λx H1=>tv σ H1 λy H2=>Hs r σ H2 λps H3=>Q ((x,y)::ps) H3
noncomputable abbrev VV:List (V×V)->List (X0×X0)->Prop:=Paired λp q=>RelV p.1 q.1/\RelV p.2 q.2
noncomputable def PPs(X:Cx)(pos:Pos)(keys:List (Option Expr))(values:List Expr)(trs:List (TE×TE)):Prop:=
 ∀(pins:List (Addr×Obj)) (s:X1) (σ:St) (H:Hp) (Q:List (V×V)->Hp->Prop),Inv X pins σ H s->Hs trs σ H Q->
  X4 (X9 X.prog X.w) X.A (evalPairs (pairTrees keys values X.env pos)) (λvs s'=>∃ps H',Inv X pins σ H' s'/\VV ps vs/\Q ps H') X.xe s
theorem RG{X:Cx}{pos:Pos}:PPs X pos [] [] []:=λpins s σ H Q I h=>pairTrees_nil_walk ⟨[],H,I,.nil,h⟩
theorem RI{X:Cx}{pos:Pos}{k v:Expr}{ks:List (Option Expr)}{vs:List Expr}{tk tv:TE}{trs:List (TE×TE)}(hk:PE X k tk)(hv:PE X v tv)(hr:PPs X pos ks vs trs):
  PPs X pos (some k::ks) (v::vs) ((tk,tv)::trs):=λpins s σ H Q I h=>
 pairTrees_cons_walk (thn (hk pins s σ H _ I h) λu s1 ⟨x,H1,I1,rx,q1⟩=>thn (hv pins s1 σ H1 _ I1 q1) λw2 s2 ⟨y,H2,I2,ry,q2⟩=>
  thn (hr pins s2 σ H2 _ I2 q2) λws s3 ⟨ps,H3,I3,rel,q3⟩=>⟨(x,y)::ps,H3,I3,.cons ⟨rx,ry⟩ rel,q3⟩)
structure M1 (X:Cx) (o:Expr) (m:Str) (apos:Pos) (e:Expr) (cpos:Pos):Prop where
 base:WV o m X.env (eval o X.env)=eval o X.env
 few:((Ys cpos (XL [e] X.env)).all (λx=>!x.1)&&(backToKw cpos (keywordEach [] X.env)).all (λx=>x.1.isSome)
  &&decide (([e]:List Expr).length+([]:List Up).length+(if([]:List Up).isEmpty then 0 else 1)<30))=true
 line:(apos.endLine==cpos.line)=true
 trees:Ys cpos (XL [e] X.env)=[(false,eval e X.env)]
structure M2 (X:Cx) (o:Expr) (m:Str) (apos:Pos) (e f:Expr) (cpos:Pos):Prop where
 base:WV o m X.env (eval o X.env)=eval o X.env
 few:((Ys cpos (XL [e,f] X.env)).all (λx=>!x.1)&&(backToKw cpos (keywordEach [] X.env)).all (λx=>x.1.isSome)
  &&decide (([e,f]:List Expr).length+([]:List Up).length+(if([]:List Up).isEmpty then 0 else 1)<30))=true
 line:(apos.endLine==cpos.line)=true
 trees:Ys cpos (XL [e,f] X.env)=[(false,eval e X.env),(false,eval f X.env)]
section
variable{X:Cx}{pins:List (Addr×Obj)}{σ:St}{H:Hp}{s:X1}{a:Addr}{y d:V}{u r:X0}{o:Option V}{A:Xs}{E:X0->X1->Prop}
end
section
variable{X:Cx}{o e f:Expr}{apos cpos:Pos}{td ty tx:TE}
end
section
variable{X:Cx}{pins:List (Addr×Obj)}{σ:St}{H:Hp}{s:X1}{a:Addr}{kvs:List (Key×V)}{A:Xs}{E:X0->X1->Prop}
theorem RJ{Q:X0->X1->Prop}(I:Inv X pins σ H s)(e:Rd H a (.dK kvs))(h:∀p s',H p=none->Inv X pins σ (upd H p (.dK kvs)) s'->Q (.ref p) s'):X4 (X9 X.prog X.w) A (call (.type "dict") [.ref a]) Q E s:=by
 obtain⟨z,hd,vs,rel,dd⟩:=VM I.hok e;refine kt_call_dict hd dd (by rw[<- rel.length];exact z) λh' dd' hs=>?_
 refine h _ _ (I.hok.fresh (Xl _)) (I.laid (a:=s.heap.objs.size) (o:=.dK kvs) (t':=s.toks) (λb q hq=>?_) (Xl _) (BR z (beq_eq_false_iff_ne.mpr (Ui (XH I.big))) rel dd'));exact(hs.2 b (XH (Xv hq))).trans (Xr _ hq)
end
section
variable{X:Cx}{pins:List (Addr×Obj)}{σ:St}{H:Hp}{s:X1}{a:Addr}{y:V}{u:X0}{A:Xs}{E:X0->X1->Prop}
end
end L2
namespace Att
open PySem PySem.W PySem.Calls PyProof.Rows
theorem RK{P:Params}{h:Heap}:∀(ns:List Int) (vs:List X0),WellAll P h vs (ns.map WData.int)->IntsAre vs ns:=by
 intro ns
 induction ns with
 |nil=>
  intro vs w;rw[Y8]at w;cases w;exact .nil
 |cons n ns ih=>
  intro vs w;rw[XA]at w;cases w with
  |cons a b=>
   cases a;exact .cons _ _ (ih _ b)
theorem RL{l:OpenLaw}{n:Nat}(hn:l.most=some n){P:Params}{h:Heap}{args:List WData}{vals:List X0}
  (hpre:l.row.toRowW.claim.pre args=true) (hwl:WellAll P h vals args):
  ∃a vs ns,vals=[XC a]/\args=[WData.list (ns.map WData.int)]/\h.get? a=some {cls:=.type "list",data:=.seq vs.toArray}/\IntsAre vs ns/\ns.length≤n:=by
 have hsh:WShape.hasAll [] args [.list .int]=true:=(pre_splitW hpre).1;have hc:l.pre.holds [] {args:=args}=true:=(pre_splitW hpre).2;obtain⟨d,r,rfl,h1,h2⟩:=hasAllW_cons hsh;obtain rfl:=hasAllW_nil h2;obtain⟨xs,rfl,h3⟩:=hasW_list h1;obtain⟨ns,rfl⟩:=items_int h3;have hlen:ns.length≤n:=by
  unfold OpenLaw.pre at hc;have h4:(WTm.not (.lt (.lit (.int (n:Int))) (.len (.arg 0)))).holds [] {args:=[.list (ns.map .int)]}=true:=by
   have h4:=(holds_andW hc).1;rw[hn]at h4;exact h4
  have h5:=condW_of h4 (w_not (w_lt w_lit (w_len_list (w_arg rfl))));rw[X7]at h5;refine Nat.le_of_not_lt λq=>?_;have q':(n:Int)<((ns.length:Nat):Int):=by lia
  first
   |(rw[decide_eq_true q']at h5;exact absurd h5 (by decide))
   |(simp at h5;lia)
 cases hwl with
 |cons w1 w2=>
  cases w2;cases w1 with
  |list ho hall=>exact⟨_,_,ns,rfl,rfl,ho,RK ns _ hall,hlen⟩
theorem RN(l:OpenLaw)(args:List WData):l.row.toRowW.claim.post args (.bool true) args=true:=
 postW_of (r:=l.row.toRowW) (X:=(true==true))
  (show WShape.has [] (.bool true) .bool=true by first|rfl|decide|simp[WShape.has,WShape.arms,WShape.armsAll])
  (show(WTm.eq .res (.lit (.bool true))).value [] {args:=args,res:=some (.bool true),after:=args}=some (.bool (true==true))from w_eq_bool (w_res rfl) w_lit) rfl
theorem attach_call{l:OpenLaw}{n:Nat}{q:Xm}{loose:List Str}{XP:(Str->Option X0)->Heap->Prop}{YP:Xj->Heap->Prop}{d:DefRec}
  (hn:l.most=some n) (hdf:d.params.defaults=[])
  (call:∀(w:Xj) (s₀ s₁:X1) (mg mb:Str->Option X0) (fa:Addr) (o:Obj) (pm cd doc:X0) (a:Addr) (vs:List X0) (ns:List Int),
   Ground q loose [] XP w s₀ mg mb s₁.heap->YP w s₁.heap->
   s₁.heap.get? fa=some o->o.data=.func (docDef d.name d.params d.body d.scope pm cd doc)->s₁.heap.CodeRec cd d.name->mg d.name=some (.ref fa)->
   s₁.heap.get? a=some {cls:=.type "list",data:=.seq vs.toArray}->IntsAre vs ns->ns.length≤n->s₁.gens=#[]->
   Z7 (X9 l.prog w) callerA (.call (.ref fa) ⟨[.ref a],[]⟩) (λr s'=>r=.ok (.ret (.bool true))/\OldK s₁.heap s'.heap/\s'.os=s₁.os/\AllBare s'.gens) s₁):
  WalkO q loose XP YP l.row.toRowW d [] (λf vs=>PySem.call f vs):=by
 intro w s₀ s₁ mg mb G Y fa o pm cd doc dV kV ho hd hcd hD hmg hg args vals as hpre hlay hrd hwl hlo;obtain rfl:dV=.none:=Dflts.none hD hdf;obtain rfl:kV=.none:=Dflts.noKw hD;obtain⟨a,vs,ns,rfl,rfl,hobj,hints,hlen⟩:=RL hn hpre hwl;refine enter_call (WU (call w s₀ s₁ mg mb fa o pm cd doc a vs ns G Y ho (fd_plain hd) hcd hmg hobj hints hlen hg) λr s' hq=>?_);obtain⟨rfl,h2,h3,h4⟩:=hq;exact⟨.inl ⟨.bool true,.bool true,[],rfl,λ_=>rfl,.bool true,RN l _,λ_=>⟨List.Pairwise.nil,λ_ hm=>(nomatch hm)⟩⟩,h2,h3,h4⟩
section
variable{prog:Xm}{w:Xj}{A:Xs}{E:X0->X1->Prop}{s:X1}{K:Frag}
noncomputable def ledger(h:Heap)(L d:Addr):List (Addr×Obj):=(XM h.objs.size).filterMap λa=>if a=L\/a=d then none else(h.get? a).map λo=>(a,o)
end
end Att
namespace L2
open PySem PySem.Spec PyProof.Rows
theorem Ht:∀{vs:List X0} {ns:List Int},IntsAre vs ns->Vals (ns.map V.int) vs
 |_,_,.nil=>.nil
 |_,_,.cons n t h=>.cons ⟨t,rfl⟩ (Ht h)
noncomputable def Only(H:Hp):Prop:=∀b,H b=none\/∃o xs,H b=some (.frz o (.lst xs))
theorem RP{P:Xm}{w:Xj}{K:X6}{mg mb:Str->Option X0}{CX:CXT}{k:Nat}{fa a:Addr}{fd:Xn}{x:Str}{sp:Sp}{s₁:X1}{vs:List X0}{ns:List Int}
  (KX:K.In s₁.heap) (hns:s₁.heap.Ns Xf mg) (hb:s₁.heap.Ns builtinsNs mb) (hbb:∀x:Str,x≠"__name__"->mb x=YF x) (hlim:s₁.heap.NoLimit) (hg:s₁.gens=#[])
  (ha:s₁.heap.get? a=some {cls:=.type "list",data:=.seq vs.toArray}) (hi:IntsAre vs ns) (hl:ns.length≤sizeLine) (hr:Room k callerA)
  (F:∀base:Heap,K.In base->base.Ns Xf mg->FnOk P w K mg base CX k fa fd [x] sp) (hbind:∀(s:X1) (u:X0),BindsTo s fd ⟨[u],[]⟩ [(x,u)])
  (hsp:∀H:Hp,Only H->SqL K H a (ns.map V.int)->sp [.ref a] H (λv _=>v=.bl true) λ_ _ _=>False)
  (hCX:∀H e s',CX [] H s₁ (λ_ _ _=>False) e s'->False):
  Z7 (X9 P w) callerA (.call (.ref fa) ⟨[.ref a],[]⟩) (λr s'=>r=.ok (.ret (.bool true))/\OldK s₁.heap s'.heap/\s'.os=s₁.os/\AllBare s'.gens) s₁:=by
 have rv:=Ht hi;have lenV:=hi.length;have core:∀H:Hp,Only H->SqL K H a (ns.map V.int)->HOk P w H s₁.heap->(∀b,H b≠none->b=a)->(H a≠none->K.lookup a=none)->
   Z7 (X9 P w) callerA (.call (.ref fa) ⟨[.ref a],[]⟩) (λr s'=>r=.ok (.ret (.bool true))/\OldK s₁.heap s'.heap/\s'.os=s₁.os/\AllBare s'.gens) s₁:=by
  intro H hO hS hok hA hK;have base_of:∀{b:Addr} {o:Obj},s₁.heap.get? b=some o->H b=none->(hidT s₁.heap H).get? b=some o:=λe n=>PX e n;have noA:∀{b:Addr} {o:Obj} {es:Array DictEntry} {ep:Nat},s₁.heap.get? b=some o->o.data=.dict es ep->H b=none:=fun{b o es ep} e d=>by
   cases q:H b with
   |none=>rfl
   |some u=>
    have e':b=a:=hA b (by rw[q];simp)
    subst e';rw[ha]at e;cases e;have d':Z5 vs.toArray _=Data.dict es ep:=d;cases d'
  have nsK:∀{b:Addr} {m:Str->Option X0},s₁.heap.Ns b m->(hidT s₁.heap H).Ns b m:=fun{b m} ⟨o,es,ep,e,d,r⟩=>⟨o,es,ep,base_of e (noA e d),d,r⟩;have hKb:K.In (hidT s₁.heap H):=λb o e=>base_of (KX b o e) (by
   cases q:H b with
   |none=>rfl
   |some u=>
    have e':b=a:=hA b (by rw[q];simp)
    subst e';rw[hK (by rw[q];simp)]at e;cases e)
  have hM:Mod K mg (hidT s₁.heap H):=⟨hKb,nsK hns,⟨mb,nsK hb,hbb⟩,let⟨mc,h1,h2⟩:=hlim;⟨mc,nsK h1,h2⟩⟩
  have e0:Env0 P w K mg (hidT s₁.heap H) callerA [] s₁ H:=⟨rfl,hM,λb o e=>PY e,Wj (PV _ _),trivial,λb hb=>absurd (show b∈([]:List Addr)from hb) (by simp),hok,.of_eq hg⟩
  refine WU ((F _ hKb (nsK hns)).run callerA [] s₁ H ⟨[.ref a],[]⟩ [.ref a] [.ref a] _ _ hr e0 (hbind s₁ (.ref a)) (.cons rfl .nil) (hsp H hO hS)) λr s' h=>?_;cases r with
  |error e=>exact(hCX H e s' h).elim
  |ok fl=>
   cases fl with
   |next=>exact YI h
   |brk=>exact YI h
   |cont=>exact YI h
   |ret u=>
    obtain⟨v,H',os,bare,un,hok',r',q⟩:=h;have q':v=.bl true:=q;subst q';obtain rfl:u=Yj true:=r';refine⟨rfl,OldK.of_keep λb o e=>?_,os,bare⟩;cases q:H b with
    |none=>exact un.keep b o e q (by intro z;exact absurd (show b∈([]:List Addr)from z) (by simp)) (by simp)
    |some u=>
     rcases hO b with z|⟨ob,xs,z⟩
     ·rw[q]at z;cases z
     ·have z2:=un.frzs b ob _ z;obtain⟨e1,_⟩:=hok b _ z;obtain⟨e2,_⟩:=hok' b _ z2;rw[e]at e1;cases e1;exact e2
 cases hk:K.lookup a with
 |some o=>
  have e:=KX a o hk;rw[ha]at e;cases e;refine core (λ_=>none) (λ_=>.inl rfl) (.inr ⟨_,vs.toArray,_,hk,rfl,rfl,rfl,by rw[XT,lenV];exact hl,by simpa using rv⟩) (λb u z=>by have z':(none:Option HO)=some u:=z;cases z') (λb z=>absurd rfl z) λz=>absurd rfl z
 |none=>
  refine core (fun b=>if b=a then some (.frz {cls:=.type "list",data:=.seq vs.toArray} (.lst (ns.map V.int)))else none) (fun b=>?_) (.inl (.inr ⟨{cls:=.type "list",data:=.seq vs.toArray},if_pos rfl⟩)) (fun b u z=>?_) (fun b z=>?_) fun _=>hk
  ·by_cases hb:b=a
   ·exact .inr ⟨_,_,if_pos hb⟩
   ·exact .inl (if_neg hb)
  ·by_cases hb:b=a
   ·have z':=(if_pos hb).symm.trans z;cases z';subst hb;exact⟨ha,by rw[X7];exact hl,vs,_,rv,ha⟩
   ·have z':=(if_neg hb).symm.trans z;cases z'
  ·by_cases hb:b=a
   ·exact hb
   ·exact absurd (if_neg hb) z
noncomputable abbrev KOf{K:X6}{h:Heap}(_:K.In h):X6:=K
theorem walk_of{l:CT}{n k:Nat}{q:Xm}{loose:List Str}{XP:(Str->Option X0)->Heap->Prop}{YP:Xj->Heap->Prop}{d:DefRec}{K:Params->X6}{CX:Xj->CXT}{sp:Xj->Sp}{x:Str}
  (hn:l.most=some n) (hn2:n≤sizeLine) (hdf:d.params.defaults=[]) (hr:Room k callerA)
  (hY:∀(w:Xj) (h:Heap),YP w h->(K w.params).In h)
  (F:∀(w:Xj) (mg:Str->Option X0) (fa:Addr) (h:Heap),(K w.params).In h->h.Ns Xf mg->mg d.name=some (.ref fa)->
   ∃fd:Xn,(∀(s:X1) (u:X0),BindsTo s fd ⟨[u],[]⟩ [(x,u)])/\
    ∀base:Heap,(K w.params).In base->base.Ns Xf mg->FnOk l.prog w (K w.params) mg base (CX w) k fa fd [x] (sp w))
  (hsp:∀(w:Xj) (H:Hp) (a:Addr) (ns:List Int),ns.length≤n->Only H->SqL (K w.params) H a (ns.map V.int)->sp w [.ref a] H (λv _=>v=.bl true) λ_ _ _=>False)
  (hCX:∀(w:Xj) (H:Hp) (s:X1) (e:X0) (s':X1),CX w [] H s (λ_ _ _=>False) e s'->False):
  PySem.W.WalkO q loose XP YP l.row.toRowW d [] (λf vs=>PySem.call f vs):=by
 refine Att.attach_call hn hdf λw s₀ s₁ mg mb fa o pm cd doc a vs ns G Y ho hd hcd hmg hobj hints hlen hg=>?_;have KX:=hY w _ Y;obtain⟨fd,hb,hF⟩:=F w mg fa _ KX G.T.g hmg;exact RP KX G.T.g G.T.b G.T.builtins G.T.nolimit hg hobj hints (Y3 hlen hn2) hr hF hb (λH hO hS=>hsp w H a ns hlen hO hS) λH e s'=>hCX w H s₁ e s'
end L2
/- THE LAST THEOREM (shape;LID,My.*are yours):
  My.Adr:a structure of the addresses that your layer names (classes,functions);My.Txt K t:a structure(Prop) of the equations over K;
  My.txt_mk:{K} {implicit addresses ..} (e1:nsIn K Xf "law"=some (some (.ref f))) (e2:K.lookup f=some ⟨oc,od,.func (fnOf "law" "law" params body scope dV kV doc pm an cdv ct),sl⟩) (e3:codeIn K cdv "law"=true) ..:∃t,My.Txt K t
set_option maxRecDepth 100000 in
set_option maxHeartbeats 0 in
theorem PySem.Challenge.cw_LID_holds : PySem.Challenge.rw_LID.Holds := by
 w_on;o_law;k_head;(case hw=>w_witness2)
 k_fill
 refine L2.walk_of (l:=PySem.Challenge.rw_LID) (n:=63) (k:=40) (x:="script") (CX:=fun w=>..) (sp:=fun _=>My.sp_law) rfl (by decide) rfl ⟨rfl,by decide,by decide⟩ (fun w h Y=>PySem.W.kIn_of Y) ?F ?S ?C
 case F=>
  intro w mg fa h KX G hmg;have T:∃t,My.Txt (L2.KOf KX) t:=by
   dsimp only[L2.KOf] -- K must stand as «<heap const> w.params» for k_is
   refine' My.txt_mk ?e1 ?e2 ?e3 ..
   (case e1=>PySem.W.k_is) -- in the order:a name->its address->its object->its parts
   (case e2=>PySem.W.k_is)
   ..
  obtain⟨t,T⟩:=T;have e0:=hmg.symm.trans (Xp KX G T.law);cases e0 -- fa is the law's own address
  exact⟨_,λs u=>.of_eq rfl,λbase kb nb=>My.law_fn T kb nb⟩ -- if «.of_eq rfl» comes too early:refine' ⟨_,?b,λbase kb nb=>My.law_fn T kb nb⟩;exact λs u=>.of_eq rfl
 case S=>exact λw H a ns hl hO hS=>..
 case C=>exact ..
(the tactic k_is has no namespace:write k_is) -/
namespace L2
open PySem PySem.Spec PyProof.Rows
noncomputable def Xd(s:Stmt):Arguments:=match s with
 |.FunctionDef _ a _ _ _ _ _ _ _ _=>a
 |_=>{posonlyargs:=[],args:=[],vararg:=none,kwonlyargs:=[],kw_defaults:=[],kwarg:=none,defaults:=[]}
noncomputable def X5(s:Stmt):List Stmt:=match s with
 |.FunctionDef _ _ b _ _ _ _ _ _ _=>b
 |_=>[]
noncomputable def X2(s:Stmt):Scope:=match s with
 |.FunctionDef _ _ _ _ _ _ sc _ _ _=>sc
 |_=>{kind:=.function,names:=[],isGenerator:=false,isCoroutine:=false}
noncomputable abbrev CX0:CXT:=λ_ _ _ _ _ _=>False
noncomputable abbrev E0:XK:=λ_ _ _=>False
theorem RQ{X:Cx}:Dj CX0 X E0:=λ_ _ _ _ _ _ _ h=>h.elim
structure Fun (K:X6) (x qual:Str) (st:Stmt) (f:Addr) (fd:Xn):Prop where
 ex:∃(oc:X0) (od:Option Addr) (kV doc pm:X0) (an:Option Addr) (cdv ct:X0) (osl:Array (Option X0)),
  fd=Xa x qual (Xd st) (X5 st) (X2 st) .none kV doc pm an cdv ct/\K.lookup f=some ⟨oc,od,.func fd,osl⟩/\Xt K cdv qual=true
 kp:Xq K (.ref f)=true
section
variable{P:Xm}{w:Xj}{K:X6}{mg:Str->Option X0}{base:Heap}
theorem Fun.ok{x qual:Str}{st:Stmt}{f:Addr}{fd:Xn}{N ps:List Str}{k:Nat}{sp:Sp}(F:Fun K x qual st f fd)(S:FnScope N ps (X2 st))(len:∀vs H Q E,sp vs H Q E->vs.length=ps.length)
  (hbody:∀(cdv:X0) (A:Xs) (outer:List Env) (s:X1) (H:Hp) (vs:List V) (Q:VK) (E:XK),Room k (A.deeper (envOfC qual (X2 st) s.heap.objs.size f cdv))->sp vs H Q E->
   ∃t,PSs (cxOf CX0 P w K mg base N qual (X2 st) f cdv A outer s H E).nox (X5 st) t/\t {nx:=λ_ H'=>Q .non H',rt:=Q} (start N vs) H):FnOk P w K mg base CX0 (k+1) f fd ps sp:=by
 obtain⟨oc,od,kV,doc,pm,an,cdv,ct,osl,rfl,lk,hcd⟩:=F.ex;refine R5 lk hcd S len λA outer s H vs Q E hr hsp=>?_;obtain⟨t,h,q⟩:=hbody cdv A outer s H vs Q E hr hsp;exact⟨t,h.nox,q⟩
theorem Fun.binds{x qual:Str}{st:Stmt}{f:Addr}{fd:Xn}{ps:List Str}(F:Fun K x qual st f fd)
  (h:∀(kV doc pm:X0) (an:Option Addr) (cdv ct:X0) (us:List X0),us.length=ps.length->bindArgs (Xa x qual (Xd st) (X5 st) (X2 st) .none kV doc pm an cdv ct) ⟨us,[]⟩=pure (ps.zip us)):Binds K fd ps []:=by
 obtain⟨oc,od,kV,doc,pm,an,cdv,ct,osl,rfl,lk,hcd⟩:=F.ex;exact .all (h kV doc pm an cdv ct)
theorem Xe{x qual:Str}{st:Stmt}{f:Addr}{oc:X0}{od an:Option Addr}{osl:Array (Option X0)}{kV doc pm cdv ct:X0}(l:K.lookup f=some ⟨oc,od,.func (Xa x qual (Xd st) (X5 st) (X2 st) .none kV doc pm an cdv ct),osl⟩)
  (c:Xt K cdv qual=true) (k:Xq K (.ref f)=true):Fun K x qual st f (Xa x qual (Xd st) (X5 st) (X2 st) .none kV doc pm an cdv ct):=⟨⟨oc,od,kV,doc,pm,an,cdv,ct,osl,rfl,l,c⟩,k⟩
end
section
variable{X:Cx}
theorem pv(i:Nat){x:Str}{pos:Pos}(hN:X.N[i]?=some x:=by rfl) (hv:Vis X.env.scope x:=by first|exact Or.inl rfl|exact Or.inr (Or.inl rfl)|exact Or.inr (Or.inr rfl)) (hd:(x==("__debug__":Str))=false:=by decide)
  (hcd:(x==("__classdict__":Str))=false:=by decide):PE X (.Name x pos) (tVar i):=GC hN hv hd hcd
end
section
variable{X:Cx}
theorem RT:CallR X (.builtin "len") (fun xs H Q=>∃a kvs,xs=[V.ref a]/\H a=some (.dK kvs)/\Q (.int kvs.length) H):=by
 intro pins s σ H xs us Q I r h;obtain⟨a,kvs,rfl,ha,q⟩:=h;obtain⟨u,rfl,ru⟩:=YQ r;cases ru;exact RE I (.inl ha) λt s' I'=>⟨.int kvs.length,H,I',⟨t,rfl⟩,q⟩
end
section
variable{κ:Type} [DecidableEq κ]
theorem Hu:∀{l:List κ} {k:κ},l.Nodup->¬k∈l->(l++[k]).Nodup
 |[],k,_,_=>by simp
 |a::r,k,h,hk=>by
  obtain⟨h1,h2⟩:=YH.mp h;show(a::(r++[k])).Nodup;refine YH.mpr ⟨λm=>?_,Hu h2 λm=>hk (Xu.mpr (Or.inr m))⟩;rcases Yf.mp m with q|q
  ·exact h1 q
  ·exact hk (Xu.mpr (Or.inl (Y6.mp q).symm))
end
section
variable{X:Cx}
noncomputable def Ak(i j:Int):Prop:=0<j/\j<2^256
theorem RU{j:Int}(h:Ak i j):j.natAbs.log2<9000:=by
 have h1:(0:Int)<j:=h.1;have h2:j<2^256:=h.2;have h0:j.natAbs≠0:=by lia
 have:j.natAbs<2^256:=by lia
 have:=(Nat.log2_lt h0).mpr this;lia
theorem RV:OpR X (Z6 .FloorDiv) (rI Ak λi j=>.int (i/j)):=opI λi j _ _ _ _ _ hc q=>by
 have h1:(0:Int)<j:=hc.1;exact floordiv_int (by lia) (by rw[Int.fdiv_eq_ediv_of_nonneg i (by lia)];exact q) (.inl (PyProof.noPylong_of_log2 (RU hc)))
theorem RW:CallR X (.builtin "isinstance") (fun xs H Q=>∃x c t b,xs=[x,.ty c]/\TyOf X.K H x t/\Vz X.K t (.type c)=some b/\Q (.bl b) H):=by
 intro pins s σ H xs us Q I r h;obtain⟨x,c,t,b,rfl,ty,e,q⟩:=h;obtain⟨u,w',rfl,ru,rw'⟩:=Ws r;cases rw';exact QW I ru ty e λtk=>⟨.bl b,H,I.tok tk,rfl,q⟩
end
mutual
inductive Dp (K:X6) (H:Hp):V->Yx->Prop
 |non:Dp K H .non .none
 |bl (b:Bool):Dp K H (.bl b) (.bool b)
 |int (i:Int):Dp K H (.int i) (.int i)
 |str (x:Str):Dp K H (.str x) (.str x)
 |lst {a:Addr} {xs:List V} {ds:List Yx}:SqL K H a xs->DpAll K H xs ds->Dp K H (.ref a) (.list ds)
 |tup {a:Addr} {xs:List V} {ds:List Yx}:SqT K H a xs->DpAll K H xs ds->Dp K H (.ref a) (.tuple ds)
inductive DpAll (K:X6) (H:Hp):List V->List Yx->Prop
 |nil:DpAll K H [] []
 |cons {x:V} {xs:List V} {d:Yx} {ds:List Yx}:Dp K H x d->DpAll K H xs ds->DpAll K H (x::xs) (d::ds)
end
section
variable{X:Cx}{pins:List (Addr×Obj)}{σ:St}{H:Hp}{s:X1}
mutual
theorem Dp.reads(I:Inv X pins σ H s):∀{x:V} {d:Yx} {u:X0},Dp X.K H x d->RelV x u->∃as,Reads s.heap u d as
 |_,_,_,.non,r=>by cases r;exact⟨_,.none⟩
 |_,_,_,.bl b,r=>by cases r;exact⟨_,.bool b⟩
 |_,_,_,.int i,r=>by obtain⟨t,rfl⟩:=r;exact⟨_,.int i t⟩
 |_,_,_,.str x,r=>by obtain⟨t,rfl⟩:=r;exact⟨_,.str x t⟩
 |_,_,_,.lst hq ha,r=>by
  cases r;obtain⟨its,rv,pl,hz⟩:=I.list hq;obtain⟨as,rs⟩:=DpAll.reads I ha rv;obtain⟨o,ho,hc,n,hd⟩:=pl.isList;exact⟨_,.list ho hc hd (by simpa using rs)⟩
 |_,_,_,.tup hq ha,r=>by
  cases r;obtain⟨its,rv,pl,hz⟩:=I.tuple hq;obtain⟨as,rs⟩:=DpAll.reads I ha rv;obtain⟨o,ho,hc,n,hd⟩:=pl;exact⟨_,.tuple ho hc hd (by simpa using rs)⟩
theorem DpAll.reads(I:Inv X pins σ H s):∀{xs:List V} {ds:List Yx} {us:List X0},DpAll X.K H xs ds->Vals xs us->∃as,ReadsAll s.heap us ds as
 |_,_,_,.nil,r=>by cases r;exact⟨_,.nil⟩
 |_,_,_,.cons h t,r=>by
  cases r with
  |cons r1 r2=>
   obtain⟨as,a⟩:=Dp.reads I h r1;obtain⟨bs,b⟩:=DpAll.reads I t r2;exact⟨_,.cons a b⟩
end
end
section
variable{X:Cx}
end
end L2
namespace L2
end L2
namespace L2
open PySem PySem.Spec PyProof.Rows
noncomputable def clOf(cells:List (Str×Addr)):List (Str×Z8)->List (Str×Addr)->List (Str×Addr)
 |[],acc=>acc
 |(n,k)::r,acc=>if k=.free then(match cells.lookup n with|some a=>clOf cells r ((n,a)::acc)|none=>clOf cells r acc)else clOf cells r acc
theorem Am(cells:List (Str×Addr)):∀(names:List (Str×Z8)) (acc:List (Str×Addr)) (x:Str) (c:Addr),(clOf cells names acc).lookup x=some c->acc.lookup x=some c\/cells.lookup x=some c
 |[],acc,x,c,h=>.inl h
 |(n,k)::r,acc,x,c,h=>by
  unfold clOf at h;by_cases hk:k=.free
  ·rw[if_pos hk]at h;cases hc:cells.lookup n with
   |none=>rw[hc]at h;exact Am cells r acc x c h
   |some a=>
    rw[hc]at h;rcases Am cells r _ x c h with q|q
    ·by_cases hx:x=n
     ·subst hx;simp at q;subst q;exact .inr hc
     ·have hb:(x==n)=false:=beq_eq_false_iff_ne.mpr hx;simp only[Ut,hb]at q;exact .inl q
    ·exact .inr q
  ·rw[if_neg hk]at h;exact Am cells r acc x c h
theorem BS(cells:List (Str×Addr)):∀(names:List (Str×Z8)) (acc:List (Str×Addr)) (x:Str) (c:Addr),cells.lookup x=some c->acc.lookup x=some c->(clOf cells names acc).lookup x=some c
 |[],acc,x,c,_,h=>h
 |(n,k)::r,acc,x,c,h,ha=>by
  unfold clOf;by_cases hk:k=.free
  ·rw[if_pos hk];cases hc:cells.lookup n with
   |none=>exact BS cells r acc x c h ha
   |some a=>
    refine BS cells r _ x c h ?_;by_cases hx:x=n
    ·subst hx;rw[h]at hc;cases hc;simp
    ·have hb:(x==n)=false:=beq_eq_false_iff_ne.mpr hx;simp only[Ut,hb];exact ha
  ·rw[if_neg hk];exact BS cells r acc x c h ha
theorem An(cells:List (Str×Addr)):∀(names:List (Str×Z8)) (acc:List (Str×Addr)) (x:Str) (c:Addr),(x,Yu)∈names->cells.lookup x=some c->(clOf cells names acc).lookup x=some c
 |[],acc,x,c,h,_=>by cases h
 |(n,k)::r,acc,x,c,h,ha=>by
  unfold clOf;rcases Xu.mp h with e|h
  ·cases e;rw[if_pos rfl,ha];exact BS cells r _ _ c ha (by simp)
  ·by_cases hk:k=.free
   ·rw[if_pos hk];cases hc:cells.lookup n with
    |none=>exact An cells r acc x c h ha
    |some a=>exact An cells r _ x c h ha
   ·rw[if_neg hk];exact An cells r acc x c h ha
theorem Du{env:Env}(f:Str×Z8->List (Str×Addr)->Sem (ForInStep (List (Str×Addr))))
  (hf:∀n k r,f (n,k) r=if(k==Yu)=true then(cellOf env n >>= λa=>pure (BL ((n,a)::r)))else pure (BL r)):
  ∀(names:List (Str×Z8)) (acc:List (Str×Addr)),(∀y∈names,y.2=.free->∃c,env.cells.lookup y.1=some c)->(forIn names acc f:Sem (List (Str×Addr)))=pure (clOf env.cells names acc)
 |[],acc,_=>by rw[List.forIn_nil];rfl
 |(n,k)::r,acc,h=>by
  rw[List.forIn_cons,hf];have hr:∀y∈r,y.2=.free->∃c,env.cells.lookup y.1=some c:=λy hy=>h y (Y5 _ hy);by_cases hk:k=.free
  ·subst hk;obtain⟨c,hc⟩:=h (n,.free) Ya rfl;have hc':env.cells.lookup n=some c:=hc;have e:cellOf env n=pure c:=by unfold cellOf;rw[hc']
   rw[if_pos (by decide),e,pure_bind,pure_bind]
   show forIn r ((n,c)::acc) f=_;rw[Du f hf r _ hr];simp only[clOf,if_pos,hc']
  ·have hb:(k==Yu)=false:=by simpa using hk
   rw[hb,if_neg XF,pure_bind];show forIn r acc f=_;rw[Du f hf r _ hr];simp only[clOf,if_neg hk]
theorem Hv{scope:Scope}{env:Env}(h:∀y∈scope.names,y.2=.free->∃c,env.cells.lookup y.1=some c):closureFor scope env=pure (clOf env.cells scope.names []):=by
 unfold closureFor;simp only[bind_pure];exact Du _ (λn k r=>by
  by_cases hk:(k==Yu)=true
  ·simp only[hk,if_true]
  ·simp only[hk,if_false]) scope.names [] h
noncomputable def Wt(osc scope:Scope)(N own:List Str)(fr:List Nat):Bool:=
 decide (scope.kind=.function)&&scope.names.all (λy=>decide (y.2≠.cell))&&scope.names.all (λy=>decide (y.2=.local->scope.names.lookup y.1=some .local))&&
 scope.names.all (λy=>decide (y.2=.free->osc.names.lookup y.1=some .cell\/osc.names.lookup y.1=some .free))&&
 fr.all (λi=>match N[i]? with|some x=>decide ((x,Yu)∈scope.names/\scope.names.lookup x=some .free/\(osc.names.lookup x=some .cell\/osc.names.lookup x=some .free))|none=>false)
structure CompOk (osc scope:Scope) (N:List Str) (fr:List Nat):Prop where
 kind:scope.kind=.function
 nocell:∀y∈scope.names,y.2≠.cell
 names:∀y∈scope.names,y.2=.local->scope.names.lookup y.1=some .local
 has:∀y∈scope.names,y.2=.free->osc.names.lookup y.1=some .cell\/osc.names.lookup y.1=some .free
 frees:∀i∈fr,∃x,N[i]?=some x/\(x,Yu)∈scope.names/\scope.names.lookup x=some .free/\(osc.names.lookup x=some .cell\/osc.names.lookup x=some .free)
theorem Wu{osc scope:Scope}{N own:List Str}{fr:List Nat}(h:Wt osc scope N own fr=true):CompOk osc scope N fr:=by
 unfold Wt at h;simp only[YA,List.all_eq_true,decide_eq_true_eq]at h;obtain⟨⟨⟨⟨h1,h2⟩,h3⟩,h4⟩,h5⟩:=h;refine⟨h1,h2,h3,h4,λi hi=>?_⟩;have q:=h5 i hi;cases e:N[i]? with
 |none=>rw[e]at q;simp at q
 |some x=>rw[e]at q;simp only[decide_eq_true_eq]at q;exact⟨x,rfl,q⟩
noncomputable def sC(own:List Str)(fr:List Nat)(σ:St):St:=own.map (λ_=>none)++fr.map (λi=>σ.getD i none)
noncomputable def nC(own:List Str)(fr:List Nat)(N:List Str):List Str:=own++fr.map (λi=>N.getD i Aa)
noncomputable def cxC(X:Cx)(scope:Scope)(own:List Str)(fr:List Nat)(C:Addr)(fp:List Addr)(s₃:X1)(H₃:Hp):Cx:=
 {X with N:=nC own fr X.N,s₀:=s₃,H₀:=H₃,env:=compEnvC scope (clOf X.env.cells scope.names []) C X.env,outer:=X.stack,ex:=fp,fn:=λ_=>false,xe:=λ_ _=>False}
noncomputable def Keep(σ σ':St):Prop:=σ.length=σ'.length/\∀(i:Nat) (v:V),σ[i]?=some (some v)->σ'[i]?=some (some v)
noncomputable def tAll:TT:=λ_ H Q=>Q true H
noncomputable def PTs(X:Cx)(ifs:List Expr)(t:TT):Prop:=(ifs=[]/\t=tAll)\/∃c,ifs=[c]/\PT X c t
section
variable{prog:Xm}{w:Xj}{A:Xs}{R:Result->X1->Prop}{s:X1}
theorem RX{elt target iter:Expr}{ifs:List Expr}{scope:Scope}{pos:Pos}{it acc:X0}{env:Env}(I:Nat->X1->Prop)
  (turn:∀n s,I n s->X4 (X9 prog w) A (pyNext it) (λr s₁=>match r with
   |none=>R (.ok .next) s₁
   |some v=>X4 (X9 prog w) A (B7 target it v) (λ_ s₁'=>X4 (X9 prog w) A (assign target env v) (λ_ s₂=>
     X4 (X9 prog w) A (forIn ifs true λc r=>if r=true then do let ok<- isTrue c env (eval c env);pure (BL ok)else pure (BL r)) (λok s₃=>
      if ok=true then X4 (X9 prog w) A (eval elt env) (λx s₄=>
       X4 (X9 prog w) A (call (.builtin "list.append") [acc,x]) (fun _ s₅=>∃m,m<n/\I m s₅) (fun _ _=>False) s₄) (fun _ _=>False) s₃
      else∃m,m<n/\I m s₃) (λ_ _=>False) s₂) (λ_ _=>False) s₁') (λ_ _=>False) s₁) (λ_ _=>False) s)
  (n:Nat) (h:I n s):
  Z7 (X9 prog w) A (.compLoop (.ListComp elt [⟨target,iter,ifs,0⟩] scope pos) 0 it acc env) R s:=by
 refine codeAny_loop rfl I (λn s hI=>?_) n h;show X4 _ A ((compTurn (.ListComp elt [⟨target,iter,ifs,0⟩] scope pos) 0 it acc env).onRaise (λx=>do noteFrame x env;theTreesLotGoes x)) _ _ s
 refine wpAny_noted ?_;rw[compTurn_list];refine X3 (wpAny_standAt (X3 (Ul (turn n s hI) (λr s₁ h₁=>?_) λ_ _ h'=>h'.elim)));cases r with
 |none=>exact Xb h₁
 |some v=>
  refine X3 (Ul h₁ (λ_ s₁' h₁'=>?_) λ_ _ h'=>h'.elim);refine X3 (Ul h₁' (λ_ s₂ h₂=>X3 (Ul h₂ (λok s₃ h₃=>?_) λ_ _ h'=>h'.elim)) λ_ _ h'=>h'.elim);cases ok with
  |false=>exact Xb ⟨rfl,h₃⟩
  |true=>
   exact X3 (X3 (Ul h₃ (λx s₄ h₄=>X3 (Ul h₄ (λ_ s₅ h₅=>Xb (Xb ⟨rfl,h₅⟩)) λ_ _ h'=>h'.elim)) λ_ _ h'=>h'.elim))
end
theorem RY{σ:St}{H:Hp}{Q:Bool->Hp->Prop}(h:Q true H):tAll σ H Q:=h
section
variable{X:Cx}{pins:List (Addr×Obj)}{σ:St}{H1:Hp}{s2:X1}{tg elt iter:Expr}{ifs:List Expr}{scope:Scope}{pos:Pos}{own:List Str}{fr:List Nat}{g:TG}{tt:TT}{te:TE}
theorem Hw{scope:Scope}{env:Env}{x:Str}:∀{names:List (Str×Z8)},names.lookup x=some .free->
  (names.map fun(n,k)=>if(k==Yu&&env.scope.kind==.function&&env.kindOf n==some .cell)then(n,Wk)else(n,k)).lookup x=some .cell\/
  (names.map fun(n,k)=>if(k==Yu&&env.scope.kind==.function&&env.kindOf n==some .cell)then(n,Wk)else(n,k)).lookup x=some .free
 |[],h=>by simp at h
 |(n,k)::r,h=>by
  have ih:=@Hw scope env x r;show List.lookup x ((if(k==Yu&&env.scope.kind==.function&&env.kindOf n==some .cell)=true then(n,Wk)else(n,k))::_)=_\/List.lookup x ((if(k==Yu&&env.scope.kind==.function&&env.kindOf n==some .cell)=true then(n,Wk)else(n,k))::_)=_;cases hx:x==n with
  |true=>
   simp only[Ut,hx]at h;cases h;by_cases hc:(Yu==Yu&&env.scope.kind==.function&&env.kindOf n==some .cell)=true
   ·rw[if_pos hc];simp only[Ut,hx];exact .inl trivial
   ·rw[if_neg hc];simp only[Ut,hx];exact .inr trivial
  |false=>
   simp only[Ut,hx]at h;by_cases hc:(k==Yu&&env.scope.kind==.function&&env.kindOf n==some .cell)=true
   ·rw[if_pos hc];simp only[Ut,hx];exact ih h
   ·rw[if_neg hc];simp only[Ut,hx];exact ih h
theorem Hx{scope:Scope}{env:Env}(hn:∀y∈scope.names,y.2≠.cell){x:Str}:∀{names:List (Str×Z8)},(∀y∈names,y.2≠.cell)->
  ((names.map fun(n,k)=>if(k==Yu&&env.scope.kind==.function&&env.kindOf n==some .cell)then(n,Wk)else(n,k)).lookup x=some .cell\/
  (names.map fun(n,k)=>if(k==Yu&&env.scope.kind==.function&&env.kindOf n==some .cell)then(n,Wk)else(n,k)).lookup x=some .free)->(x,Yu)∈names
 |[],_,h=>by simp at h
 |(n,k)::r,hnc,h=>by
  have ih:=@Hx scope env hn x r (λy hy=>hnc y (Y5 _ hy));have hk:k≠.cell:=hnc (n,k) Ya;simp only[XA]at h;cases hx:x==n with
  |true=>
   have e:x=n:=eq_of_beq hx;subst e;by_cases hc:(k==Yu&&env.scope.kind==.function&&env.kindOf x==some .cell)=true
   ·have:k=.free:=by
     simp only[YA,beq_iff_eq]at hc;exact hc.1.1
    subst this;exact Ya
   ·rw[if_neg hc]at h;simp at h;rcases h with h|h
    ·exact absurd h hk
    ·subst h;exact Ya
  |false=>
   by_cases hc:(k==Yu&&env.scope.kind==.function&&env.kindOf n==some .cell)=true
   ·rw[if_pos hc]at h;simp only[Ut,hx]at h;exact Y5 _ (ih h)
   ·rw[if_neg hc]at h;simp only[Ut,hx]at h;exact Y5 _ (ih h)
theorem RZ{C:Addr}{fp:List Addr}{s3:X1}{H3:Hp}{h4:Heap}{tk:Nat}{m:Str->Option X0}(ok:CompOk X.env.scope scope X.N fr)(I3:Inv X pins σ H3 s3)(hC:C=s3.heap.objs.size)(hf:∀b∈fp,FpOk X pins H3 b)(hfo:∀b∈fp,∃o,s3.heap.get? b=some o)
  (ns:h4.Ns C m) (kp:∀b o,s3.heap.get? b=some o->h4.get? b=some o):
  Inv (cxC X scope own fr C fp s3 H3) pins (sC own fr σ) H3 {s3 with heap:=h4,toks:=tk}:=by
 have cellsub:∀x c,(clOf X.env.cells scope.names []).lookup x=some c->X.env.cells.lookup x=some c:=λx c h=>(Am _ _ _ _ _ h).elim (λz=>by simp at z) id
 have cellt:∀x c,X.env.cells.lookup x=some c->c<s3.heap.objs.size:=λx c e=>let⟨v,q⟩:=I3.cell x c e;q.lt
 have fplt:∀b∈fp,b<s3.heap.objs.size:=λb hb=>let⟨o,e⟩:=hfo b hb;Xv e
 have kindOf_of:∀x,(X.env.scope.names.lookup x=some .cell\/X.env.scope.names.lookup x=some .free)->∃c,X.env.cells.lookup x=some c:=λx h=>I3.ok.has x h;refine⟨⟨I3.ok.mod,ok.kind,I3.ok.glob,I3.ok.blt,Wj hC.symm,λx y c h1 h2=>I3.ok.inj x y c (cellsub x c h1) (cellsub y c h2),λx hx=>?_,λx c z=>?_,I3.ok.hd,I3.ok.frames,.inl rfl,λb hb=>⟨?_,λx c e=>?_⟩,λb o e=>I3.bs b o e,Y3 I3.ok.bsz I3.sz,λb o e hb=>?_,λb hb hz=>?_,I3.stack,λb hb=>I3.stkFree b hb⟩,
  rfl,I3.bare,Un.kept kp,⟨m,ns,λi x v e1 e2 e3=>?_⟩,λx c e=>?_,?_,λx c e=>I3.freeC x c (cellsub x c e),λp hp=>?_,I3.hok.kept kp,?_⟩
 · -- has
  have hm:(x,Yu)∈scope.names:=Hx (scope:=scope) (env:=X.env) ok.nocell ok.nocell hx;obtain⟨c,hc⟩:=kindOf_of x (ok.has _ hm rfl);exact⟨c,An _ _ _ _ _ hm hc⟩
 ·exact absurd z XF
 ·exact XH (by rw[hC];exact fplt b hb)
 ·exact(hf b hb).2.2.2.2.1 x c (cellsub x c e)
 ·rcases(hf b hb).2.2.2.1 with z|z
  ·exact I3.ok.noex b o e z
  ·exact absurd (YM (Xv e) (Y3 I3.ok.bsz z)) (Wi _)
 ·rcases Xu.mp (I3.stkSub b hz)with z|z
  ·exact(hf b hb).2.1 z
  ·exact(hf b hb).2.2.1 z
 · -- a free name's value
  have e2':(own.map (λ_=>(none:Option V))++fr.map (λi=>σ.getD i none))[i]?=some (some v):=e2;have e1':(own++fr.map (λi=>X.N.getD i Aa))[i]?=some x:=e1;by_cases hi:i<own.length
  ·rw[Uc (by simpa using hi),Xo]at e2'
   cases q:own[i]? with
   |none=>rw[q]at e2';cases e2'
   |some z=>rw[q]at e2';cases e2'
  ·rw[UL (by simpa using hi)]at e2'
   rw[UL (by simpa using hi)]at e1'
   simp only[X7]at e2';rw[Xo]at e1' e2';cases q:fr[i - own.length]? with
   |none=>rw[q]at e2';cases e2'
   |some j=>
    rw[q]at e1' e2';obtain⟨y,hy,hm,hl,ho⟩:=ok.frees j (XG q);have ex:x=y:=by
     have:X.N.getD j Aa=y:=by rw[Ym,hy];rfl
     simp only[Option.map_some,this,By]at e1';exact e1'.symm
    subst ex;have ev:σ[j]?=some (some v):=by
     simp only[Option.map_some,By]at e2';rw[Ym]at e2';cases z:σ[j]? with
     |none=>rw[z]at e2';cases e2'
     |some o=>rw[z]at e2';cases e2';rfl
    obtain⟨m0,hn0,hl0⟩:=I3.loc;obtain⟨u,ru,lk⟩:=hl0 j x v hy ev (.inr ho);refine⟨u,ru,.inr ⟨Hw (scope:=scope) hl,?_⟩⟩;rcases lk with⟨k1,_⟩|⟨_,c,hc,z⟩
    ·have k1':X.env.scope.names.lookup x=some .local:=k1;rw[k1']at ho;rcases ho with z|z<;>cases z
    ·exact⟨c,An _ _ _ _ _ hm hc,z.keeps kp⟩
 ·obtain⟨v,z⟩:=I3.cell x c (cellsub x c e);exact⟨v,z.keeps kp⟩
 ·show H3 C=none;exact I3.hok.fresh (Wj hC.symm)
 ·obtain⟨e,n,ne,nf,d⟩:=I3.pin p hp;refine⟨kp _ _ e,n,XH (by rw[hC];exact Xv e),λz=>?_,d⟩
  rcases Xu.mp (I3.stkSub p.1 z)with z|z
  ·exact ne z
  ·exact nf z
 ·show(own.map (λ_=>(none:Option V))++fr.map (λi=>σ.getD i none)).length=(own++fr.map (λi=>X.N.getD i Aa)).length;simp
end
section
variable{X:Cx}
theorem S0(hc:X.calm=true):CallR X (.builtin "min") (fun xs H Q=>∃(p:Addr) (ns:List Int),xs=[.ref p]/\SqL X.K H p (ns.map V.int)/\0<ns.length/\∀M,M∈ns->(∀a∈ns,M≤a)->Q (.int M) H):=by
 intro pins s σ H xs us Q I r h;obtain⟨p,ns,rfl,hq,hne,q⟩:=h;obtain⟨u,rfl,ru⟩:=YQ r;cases ru;obtain⟨its,rv,pl,hz⟩:=I.list hq;have hi:IntsAre its ns:=Hb rv;obtain⟨xs,e⟩:=hi.allInts.items;have hns:ns=xs.toList.map (·.1):=by rw[<- hi.numsOf,<- nums_intItems,<- e]
 have hsz:0<xs.size:=by
  have h3:=hne;rw[hns,X7,XW]at h3;exact h3
 have hl:=pl.isList;rw[e]at hl;refine min_intList (I.ok.hd hc) hl hsz λv h' tk hv hk=>?_;obtain⟨t,rfl⟩:=intItems_at hv;obtain⟨h1,h2⟩:=argBest_lt (numAt xs) (xs.size - 1);refine⟨.int _,H,I.kept hk,⟨t,rfl⟩,q _ ?_ λa ha=>?_⟩
 ·rw[hns,numAt_eq];exact getD_mem (by rw[X7,XW];lia)
 ·rw[hns]at ha;obtain⟨j,hj,rfl⟩:=mem_getD ha;rw[X7,XW]at hj;rw[<- numAt_eq];exact h2 j (by lia)
theorem S1(hc:X.calm=true):CallR X (.builtin "max") (fun xs H Q=>∃(p:Addr) (ns:List Int),xs=[.ref p]/\SqL X.K H p (ns.map V.int)/\0<ns.length/\∀M,M∈ns->(∀a∈ns,a≤M)->Q (.int M) H):=by
 intro pins s σ H xs us Q I r h;obtain⟨p,ns,rfl,hq,hne,q⟩:=h;obtain⟨u,rfl,ru⟩:=YQ r;cases ru;obtain⟨its,rv,pl,hz⟩:=I.list hq;have hi:IntsAre its ns:=Hb rv;obtain⟨xs,e⟩:=hi.allInts.items;have hns:ns=xs.toList.map (·.1):=by rw[<- hi.numsOf,<- nums_intItems,<- e]
 have hsz:0<xs.size:=by
  have h3:=hne;rw[hns,X7,XW]at h3;exact h3
 have hl:=pl.isList;rw[e]at hl;refine max_intList (I.ok.hd hc) hl hsz λv h' tk hv hk=>?_;obtain⟨t,rfl⟩:=intItems_at hv;obtain⟨h1,h2⟩:=argBest_gt (numAt xs) (xs.size - 1);refine⟨.int _,H,I.kept hk,⟨t,rfl⟩,q _ ?_ λa ha=>?_⟩
 ·rw[hns,numAt_eq];exact getD_mem (by rw[X7,XW];lia)
 ·rw[hns]at ha;obtain⟨j,hj,rfl⟩:=mem_getD ha;rw[X7,XW]at hj;rw[<- numAt_eq];exact h2 j (by lia)
end
section
variable{X:Cx}
end
section
variable{X:Cx}
end
section
variable{X:Cx}
theorem S2{z:Str}{i:Int}(hz:z.length≤16)(h0:-1000≤i)(h1:i≤1000):MulOk z i:=by
 refine⟨?_,λh2 _=>?_,λh2 _=>?_⟩
 ·rw[decide_eq_false (by lia),decide_eq_false (by lia)];rfl
 ·have hi:1≤i:=by lia
  have:(16:Int)≤(2^63 - 1)/i:=by
   rw[Int.le_ediv_iff_mul_le (by lia)]
   lia
  lia
 ·have:z.length*i.toNat≤16*1000:=Nat.mul_le_mul hz (by lia)
  have h3:z.length*i.toNat<2^20:=by lia
  generalize z.length*i.toNat=n at h3;revert n;intro n hn;have hs:sizeLine=16777216:=by decide
  show decide (n>sizeLine)=false;rw[hs];exact decide_eq_false (by lia)
theorem S3:OpR X (Z6 .Mult) (λx y H Q=>∃z i,x=.str z/\y=.int i/\z.length≤16/\ -1000≤i/\i≤1000/\Q (.str (Txt.mul z i)) H):=by
 intro pins s σ H x y v u Q I rx ry h;obtain⟨z,i,rfl,rfl,hz,h0,h1,q⟩:=h;obtain⟨t,rfl⟩:=rx;obtain⟨t',rfl⟩:=ry;exact SB.mul (S2 hz h0 h1) (λt' k=>⟨.str (Txt.mul z i),H,I.tok _,⟨_,rfl⟩,q⟩)
theorem S4(hu:X.A.units<cLine):OpR X (Y2 .Eq) (λx y H Q=>∃a b xs,x=.ref a/\y=.ref b/\SqL X.K H a xs/\SqL X.K H b []/\Q (.bl xs.isEmpty) H):=by
 intro pins s σ H x y v u Q I rx ry h;obtain⟨a,b,xs,rfl,rfl,ha,hb,q⟩:=h;cases rx;cases ry;obtain⟨its,rv,pl,hz⟩:=I.list ha;obtain⟨jts,rw',pl',_⟩:=I.list hb;have hj:jts=[]:=Bf rw'.length.symm;subst hj;cases xs with
 |nil=>
  have hi:its=[]:=Bf rv.length.symm;subst hi;exact SeqAt.eq_listAt (e:=λ_=>true) pl.isList pl'.isList rfl hu (λj h1 _=>absurd h1 (D0 j)) (XO I q rfl)
 |cons x r=>
  have hl:its.length=r.length+1:=by rw[<- rv.length];rfl
  exact SeqAt.eq_list_lengthsAt pl.isList pl'.isList (by simp;intro e;rw[e]at hl;simp at hl) hu (XO I q rfl)
theorem S5(hu:X.A.units<cLine):OpR X (Y2 .NotEq) (λx y H Q=>∃a b xs,x=.ref a/\y=.ref b/\SqL X.K H a xs/\SqL X.K H b []/\Q (.bl (!xs.isEmpty)) H):=by
 intro pins s σ H x y v u Q I rx ry h;obtain⟨a,b,xs,rfl,rfl,ha,hb,q⟩:=h;cases rx;cases ry;obtain⟨its,rv,pl,hz⟩:=I.list ha;obtain⟨jts,rw',pl',_⟩:=I.list hb;have hj:jts=[]:=Bf rw'.length.symm;subst hj;cases xs with
 |nil=>
  have hi:its=[]:=Bf rv.length.symm;subst hi;exact SeqAt.RcNeAt.lists (e:=λ_=>true) pl.isList pl'.isList rfl hu (λj h1 _=>absurd h1 (D0 j)) X.prog X.w _ _ (XO I q rfl)
 |cons x r=>
  have hl:its.length=r.length+1:=by rw[<- rv.length];rfl
  exact SeqAt.RcNeAt.lists_lengths pl.isList pl'.isList (by simp;intro e;rw[e]at hl;simp at hl) hu X.prog X.w _ _ (XO I q rfl)
end
open AutoSeq1 (wpAny_loadPart')
open MeetsSeq MeetsSeq2 MeetsSeq3 SeqRoads2
noncomputable def AliP(P:Xm)(w:Xj)(A:Xs)(s:X1)(y x:X0):Prop:=∀(E:X0->X1->Prop) (Q:Bool->X1->Prop),Q true s->X4 (X9 P w) A (eqBool y x) Q E s
noncomputable def RcP(P:Xm)(w:Xj)(A:Xs)(s:X1)(y x:X0):Prop:=∀(E Q:X0->X1->Prop),Q (.bool true) s->X4 (X9 P w) A (richCompare .Eq y x) Q E s
noncomputable def RnP(P:Xm)(w:Xj)(A:Xs)(s:X1)(y x:X0):Prop:=∀(E Q:X0->X1->Prop),Q (.bool false) s->X4 (X9 P w) A (richCompare .NotEq y x) Q E s
section
variable{P:Xm}{w:Xj}{A:Xs}{s:X1}{a b:Addr}{xs ys:Array X0}
theorem AliP.of_at{y x:X0}(h:SeqAt.EqAt A s y x true):AliP P w A s y x:=λE Q q=>h P w E Q q
theorem AliP.refs(h:RcP P w A s (.ref a) (.ref b)):AliP P w A s (.ref a) (.ref b):=by
 intro E Q q;by_cases e:a=b
 ·subst e;exact SeqAt.EqAt.same _ P w E Q q
 ·unfold eqBool;refine YL (wpAny_ite_split (λz=>absurd (by injection (eq_of_beq z)) e) λ_=>?_)
  exact X3 (h E _ (Um q))
theorem S6(ha:s.heap.IsTuple a xs)(hb:s.heap.IsTuple b ys)(hz:xs.size=ys.size)(hu:A.units<cLine)(he:∀p∈xs.toList.zip ys.toList,AliP P w A.in1 s p.1 p.2):RcP P w A s (.ref a) (.ref b):=by
 intro E Q q;obtain⟨⟨c1,d1,t1,l1⟩,o1,k1,n1,e1⟩:=id ha;obtain⟨⟨c2,d2,t2,l2⟩,o2,k2,n2,e2⟩:=id hb;dsimp only at k1 e1 k2 e2;subst k1 e1 k2 e2;refine W8 (op:=.Eq) ⟨_,o1,rfl⟩ ⟨_,o2,rfl⟩ F.slot_tuple_eq (Z9 F.slot_tuple_eq ⟨_,o1,rfl⟩ F.entry_tuple_eq ?_ (F.args_tuple_eq_2 _ _)) hu;obtain⟨h0,g0,dd,tk,os⟩:=s;have f2:=Gm
 wp_walk using Yl o1,Yl o2,wpAny_forIn_list _ (λrest r s'=>r.1=none/\s'=⟨h0,g0,dd,tk,os⟩/\∀p∈rest,AliP P w A.in1 ⟨h0,g0,dd,tk,os⟩ p.1 p.2) _
 case turn=>
  rintro⟨y,x⟩ rest r s' ⟨z1,rfl,m⟩;refine X3 (m (y,x) Ya _ _ ?_)
  wp_walk
  exact⟨rfl,rfl,λp hp=>m p (Y5 _ hp)⟩
 case fin=>
  rintro⟨r1,r2⟩ s' ⟨z1,rfl,-⟩;dsimp only at z1;subst z1
  wp_walk
  have tc:BB .Eq xs.size ys.size=.bool true:=by simp[BB,hz]
  rw[tc];exact⟨_,rfl,(λz=>nomatch z),q⟩
 case h=>exact⟨rfl,rfl,he⟩
theorem S7{n1 n2:Nat}{d1 d2:Option Addr}{l1 l2:Array (Option X0)}(hz:xs.size=ys.size){R:Result->X1->Prop}
  (o1:s.heap.get? a=some {cls:=.type "list",dict:=d1,data:=.seq xs n1,slots:=l1}) (o2:s.heap.get? b=some {cls:=.type "list",dict:=d2,data:=.seq ys n2,slots:=l2})
  (he:∀j (h1:j<xs.size) (h2:j<ys.size),AliP P w A.in1 s xs[j] ys[j]) (q:R (.ok (.ret (.bool true))) s):∀k i:Nat,xs.size - i=k->
  X4 (X9 P w) A.in1 (Builtin.«list.__eq__.loop» ⟨[.ref a,.ref b,Y4 i,Y4 2],[]⟩) (λfin s'=>match fin with|.done f=>R (.ok f) s'|.again c'=>c'.quiet=true/\Z7 (X9 P w) A c' R s') (λe s'=>R (.error e) s') s:=by
 obtain⟨h0,g0,dd,tk,os⟩:=s;intro k
 induction k with
 |zero=>
  intro i hk
  wp_walk using Yl o1,Yl o2
  rw[show xs[((i:Nat):Int).toNat]?=none by simp;lia,show ys[((i:Nat):Int).toNat]?=none by simp;lia]
  wp_walk using Yl o1,Yl o2
  show R (.ok (.ret (.bool (xs.size==ys.size)))) _
  simpa [hz]using q
 |succ k ih=>
  intro i hk;have h1:i<xs.size:=by lia
  have h2:i<ys.size:=by lia
  wp_walk using Yl o1,Yl o2
  rw[show xs[((i:Nat):Int).toNat]?=some xs[i] by simp[h1],show ys[((i:Nat):Int).toNat]?=some ys[i] by simp[h2]]
  refine X3 (he i h1 h2 _ _ ?_)
  wp_walk
  rw[show((i:Int)+1)=((i+1:Nat):Int) by push_cast;rfl]
  refine⟨Ub plain_eq_loop _,Za entry_eq_loop ?_⟩;rw[Uh plain_eq_loop _];exact ih (i+1) (by lia)
theorem S8(ha:s.heap.IsList a xs)(hb:s.heap.IsList b ys)(hz:xs.size=ys.size)(hu:A.units<cLine)(he:∀j (h1:j<xs.size) (h2:j<ys.size),AliP P w A.in1 s xs[j] ys[j]):RcP P w A s (.ref a) (.ref b):=by
 intro E Q q;obtain⟨⟨c1,d1,t1,l1⟩,o1,k1,n1,e1⟩:=id ha;obtain⟨⟨c2,d2,t2,l2⟩,o2,k2,n2,e2⟩:=id hb;dsimp only at k1 e1 k2 e2;subst k1 e1 k2 e2;have t1:s.TypeIs (.ref a) "list":=⟨_,o1,rfl⟩;refine W8 (op:=.Eq) t1 ⟨_,o2,rfl⟩ D7 (wpAny_call (WW D7.plain F.entry_list_eq (D7.check _ _ _ _ _ _ _ _ t1 (F.args_list_eq_2 _ _) ?_))) hu;obtain⟨h0,g0,dd,tk,os⟩:=s;have f3:=Gn;have nz:¬(xs.size != ys.size)=true:=by simp[hz]
 wp_walk using Yl o1,Yl o2
 refine⟨Ub plain_eq_loop _,Za entry_eq_loop ?_⟩;rw[Uh plain_eq_loop _];exact S7 (R:=wants (λv s'=>v≠.notImplemented/\Q v s') E) hz o1 o2 he (show Yj true≠.notImplemented/\Q (.bool true) _ from⟨(λz=>nomatch z),q⟩) _ 0 rfl
theorem S9(ha:s.heap.IsTuple a xs)(hb:s.heap.IsTuple b ys)(hz:xs.size=ys.size)(hu:A.units<cLine)(he:∀p∈xs.toList.zip ys.toList,AliP P w A.in1 s p.1 p.2):RnP P w A s (.ref a) (.ref b):=by
 intro E Q q;obtain⟨⟨c1,d1,t1,l1⟩,o1,k1,n1,e1⟩:=id ha;obtain⟨⟨c2,d2,t2,l2⟩,o2,k2,n2,e2⟩:=id hb;dsimp only at k1 e1 k2 e2;subst k1 e1 k2 e2;refine W8 (op:=.NotEq) ⟨_,o1,rfl⟩ ⟨_,o2,rfl⟩ F.slot_tuple_ne (Z9 F.slot_tuple_ne ⟨_,o1,rfl⟩ F.entry_tuple_ne ?_ (F.args_tuple_ne_2 _ _)) hu;obtain⟨h0,g0,dd,tk,os⟩:=s;have f2:=Gm
 wp_walk using Yl o1,Yl o2,wpAny_forIn_list _ (λrest r s'=>r.1=none/\s'=⟨h0,g0,dd,tk,os⟩/\∀p∈rest,AliP P w A.in1 ⟨h0,g0,dd,tk,os⟩ p.1 p.2) _
 case turn=>
  rintro⟨y,x⟩ rest r s' ⟨z1,rfl,m⟩;refine X3 (m (y,x) Ya _ _ ?_)
  wp_walk
  exact⟨rfl,rfl,λp hp=>m p (Y5 _ hp)⟩
 case fin=>
  rintro⟨r1,r2⟩ s' ⟨z1,rfl,-⟩;dsimp only at z1;subst z1
  wp_walk
  have tc:BB .NotEq xs.size ys.size=.bool false:=by simp[BB,hz]
  rw[tc];exact⟨_,rfl,(λz=>nomatch z),q⟩
 case h=>exact⟨rfl,rfl,he⟩
theorem Sa{n1 n2:Nat}{d1 d2:Option Addr}{l1 l2:Array (Option X0)}(hz:xs.size=ys.size){R:Result->X1->Prop}
  (o1:s.heap.get? a=some {cls:=.type "list",dict:=d1,data:=.seq xs n1,slots:=l1}) (o2:s.heap.get? b=some {cls:=.type "list",dict:=d2,data:=.seq ys n2,slots:=l2})
  (he:∀j (h1:j<xs.size) (h2:j<ys.size),AliP P w A.in1 s xs[j] ys[j]) (q:R (.ok (.ret (.bool false))) s):∀k i:Nat,xs.size - i=k->
  X4 (X9 P w) A.in1 (Builtin.«list.__eq__.loop» ⟨[.ref a,.ref b,Y4 i,Y4 3],[]⟩) (λfin s'=>match fin with|.done f=>R (.ok f) s'|.again c'=>c'.quiet=true/\Z7 (X9 P w) A c' R s') (λe s'=>R (.error e) s') s:=by
 obtain⟨h0,g0,dd,tk,os⟩:=s;intro k
 induction k with
 |zero=>
  intro i hk
  wp_walk using Yl o1,Yl o2
  rw[show xs[((i:Nat):Int).toNat]?=none by simp;lia,show ys[((i:Nat):Int).toNat]?=none by simp;lia]
  wp_walk using Yl o1,Yl o2
  show R (.ok (.ret (.bool (xs.size != ys.size)))) _
  simpa [hz]using q
 |succ k ih=>
  intro i hk;have h1:i<xs.size:=by lia
  have h2:i<ys.size:=by lia
  wp_walk using Yl o1,Yl o2
  rw[show xs[((i:Nat):Int).toNat]?=some xs[i] by simp[h1],show ys[((i:Nat):Int).toNat]?=some ys[i] by simp[h2]]
  refine X3 (he i h1 h2 _ _ ?_)
  wp_walk
  rw[show((i:Int)+1)=((i+1:Nat):Int) by push_cast;rfl]
  refine⟨Ub plain_eq_loop _,Za entry_eq_loop ?_⟩;rw[Uh plain_eq_loop _];exact ih (i+1) (by lia)
theorem Sb(ha:s.heap.IsList a xs)(hb:s.heap.IsList b ys)(hz:xs.size=ys.size)(hu:A.units<cLine)(he:∀j (h1:j<xs.size) (h2:j<ys.size),AliP P w A.in1 s xs[j] ys[j]):RnP P w A s (.ref a) (.ref b):=by
 intro E Q q;obtain⟨⟨c1,d1,t1,l1⟩,o1,k1,n1,e1⟩:=id ha;obtain⟨⟨c2,d2,t2,l2⟩,o2,k2,n2,e2⟩:=id hb;dsimp only at k1 e1 k2 e2;subst k1 e1 k2 e2;have t1:s.TypeIs (.ref a) "list":=⟨_,o1,rfl⟩;refine W8 (op:=.NotEq) t1 ⟨_,o2,rfl⟩ D8 (wpAny_call (WW D8.plain F.entry_list_ne (D8.check _ _ _ _ _ _ _ _ t1 (F.args_list_ne_2 _ _) ?_))) hu;obtain⟨h0,g0,dd,tk,os⟩:=s;have f3:=Gn;have nz:¬(xs.size != ys.size)=true:=by simp[hz]
 wp_walk using Yl o1,Yl o2
 refine⟨Ub plain_eq_loop _,Za entry_eq_loop ?_⟩;rw[Uh plain_eq_loop _];exact Sa (R:=wants (λv s'=>v≠.notImplemented/\Q v s') E) hz o1 o2 he (show Yj false≠.notImplemented/\Q (.bool false) _ from⟨(λz=>nomatch z),q⟩) _ 0 rfl
theorem Hy{K:Type} [DecidableEq K] {knd:KeyKind P w K}{nm:String}{ka kb:List (K×X0)}{E:X0->X1->Prop}{Q:Bool->X1->Prop}(na:(a==YU)=false)(nb:(b==YU)=false)
  (da:s.heap.DictOf knd a ka) (db:s.heap.DictOf knd b kb) (hz:ka.length=kb.length) (he:∀p∈ka,∃y,Z3 kb p.1=some y/\AliP P w A s p.2 y) (q:Q true s):
  X4 (X9 P w) A (G4 nm a b) Q E s:=by
 obtain⟨oa,ea,pa,o1,_,t1,k1,v1,_⟩:=da;obtain⟨ob,eb,pb,o2,_,t2,k2,v2,_⟩:=db;have za:ka.length=ea.size:=v1.length.symm.trans XW;have zb:kb.length=eb.size:=v2.length.symm.trans XW;have fd:∀k,findBy knd.is eb k=Z3 kb k:=by
  intro k;rw[<- v2.find k];clear zb v2 k2 t2 o2;obtain⟨l⟩:=eb;simp[findBy]
 have zz:ea.size=eb.size:=by lia
 unfold G4 Builtin.Dict.showsAll;rw[na,nb];refine X3 (Xb (X3 (Xb (X3 (Bb o1 t1 ?_)))));dsimp only;refine X3 (Bb o2 t2 ?_);rw[if_neg (by simp[zz])]
 refine X3 (wpAny_dictEpoch o1 t1 (X3 ?_));rw[Std.Legacy.Range.forIn_eq_forIn_range'];simp only[Std.Legacy.Range.size,Bw,Nat.add_sub_cancel,Nat.div_one];refine wpAny_forIn_list _ (λrest r s'=>s'=s/\r=(none,())/\∀i∈rest,i<ea.size) _ ?_ ?_ _ _ ⟨rfl,rfl,λi hi=>by simpa using hi⟩
 ·rintro i rest r s' ⟨rfl,rfl,m⟩;have lt:i<ea.size:=m i Ya;have lt':i<ka.length:=by lia
  refine X3 (Bb o1 t1 ?_);rw[VD lt];obtain⟨key,val⟩:=v1.get? (i:=i) (e:=ea[i]) (k:=ka[i].1) (v:=ka[i].2) (by rw[FW];exact VD lt) (X8 lt')
  obtain⟨k',i',hh⟩:=k1 ea[i] (Array.getElem_mem lt);obtain rfl:k'=ka[i].1:=knd.inj _ _ _ i' key;obtain⟨y,fy,al⟩:=he ka[i] (XY lt');show X4 _ _ (holding [ea[i].key,ea[i].val] _ >>= _) _ _ _;rw[hh];refine X3 (YL (X3 (wpAny_dictFind_of key o2 t2 k2 ?_)));have fy':=fy;rw[<- fd,findBy_of_findIdx?]at fy';cases hj:eb.findIdx? λe=>knd.is ka[i].1 e.key with
  |none=>rw[hj]at fy';cases fy'
  |some j=>
   rw[hj]at fy';obtain⟨jl,_,_⟩:=Array.findIdx?_eq_some_iff_getElem.mp hj;refine X3 (Bb o2 t2 ?_);rw[VD jl];have ey:eb[j].val=y:=by simpa [VD jl]using fy'
   rw[<- ey,<- val]at al;refine YL (al _ _ ?_);show X4 _ _ (if(!true)=true then _ else _) _ _ _;rw[if_neg (show¬(!true)=true from XF)];refine X3 (wpAny_dictEpoch o1 t1 ?_);rw[if_neg (by simp)]
   exact Xb ⟨rfl,rfl,λz hz=>m z (Y5 _ hz)⟩
 ·rintro r s' ⟨rfl,rfl,-⟩;exact Xb q
theorem Sc{K:Type} [DecidableEq K] {knd:KeyKind P w K}{ka kb:List (K×X0)}(na:(a==YU)=false)(nb:(b==YU)=false)
  (da:s.heap.DictOf knd a ka) (db:s.heap.DictOf knd b kb) (hu:A.units<cLine) (hz:ka.length=kb.length) (he:∀p∈ka,∃y,Z3 kb p.1=some y/\AliP P w A.in1 s p.2 y):RcP P w A s (.ref a) (.ref b):=by
 intro E Q q;refine W8 (op:=.Eq) da.typeIs db.typeIs Gf (Z9 Gf da.typeIs PySem.F.entry_dict_eq ?_ (PySem.F.args_dict_eq_2 _ _)) hu;show X4 _ _ (BE "__eq__" ⟨[.ref a,.ref b],[]⟩>>= _) _ _ s;refine X3 ?_;unfold BE;refine X3 (Bc da.typeIs (Xb (X3 (V5 (T:="dict") db.typeIs G9 ?_))));rw[if_neg (by decide)]
 refine X3 (Xb (X3 (Xb (X3 (Hy na nb da db hz he ?_)))));exact Xb ⟨_,rfl,(λz=>nomatch z),q⟩
theorem Sd{K:Type} [DecidableEq K] {knd:KeyKind P w K}{ka kb:List (K×X0)}(na:(a==YU)=false)(nb:(b==YU)=false)
  (da:s.heap.DictOf knd a ka) (db:s.heap.DictOf knd b kb) (hu:A.units<cLine) (hz:ka.length=kb.length) (he:∀p∈ka,∃y,Z3 kb p.1=some y/\AliP P w A.in1 s p.2 y):RnP P w A s (.ref a) (.ref b):=by
 intro E Q q;refine W8 (op:=.NotEq) da.typeIs db.typeIs Gg (Z9 Gg da.typeIs PySem.F.entry_dict_ne ?_ (PySem.F.args_dict_ne_2 _ _)) hu;show X4 _ _ (BE "__ne__" ⟨[.ref a,.ref b],[]⟩>>= _) _ _ s;refine X3 ?_;unfold BE;refine X3 (Bc da.typeIs (Xb (X3 (V5 (T:="dict") db.typeIs G9 ?_))));rw[if_neg (by decide)]
 refine X3 (Xb (X3 (Xb (X3 (Hy na nb da db hz he ?_)))));exact Xb ⟨_,rfl,(λz=>nomatch z),q⟩
end
section
variable{X:Cx}
theorem Hz:∀{ss:List Str} {us:List X0},Vals (ss.map V.str) us->∃l:List (Str×Tok),us=strValues l/\l.map (·.1)=ss
 |[],_,.nil=>⟨[],rfl,rfl⟩
 |x::ss,_,.cons q r=>by
  obtain⟨l,e,e'⟩:=Hz r;obtain⟨t,rfl⟩:=(show∃t,_=XI x t from q);exact⟨(x,t)::l,by rw[e];rfl,by rw[XA,e']⟩
theorem Se:MtR X "str.join" (fun x xs H Q=>∃sep b ss,x=.str sep/\xs=[.ref b]/\SqL X.K H b (ss.map V.str)/\ss.toArray.foldl (fun n z=>n+z.length+sep.length) 0≤sizeLine/\(Uw sep ss).length≤sizeLine/\Q (.str (Uw sep ss)) H):=by
 intro pins s σ H x xs v us Q I rx rs h;obtain⟨sep,b,ss,rfl,rfl,g,z,z2,q⟩:=h;obtain⟨t,rfl⟩:=rx;obtain⟨u,rfl,ru⟩:=YQ rs;obtain rfl:u=XC b:=ru;obtain⟨its,r,⟨o,n,o1,o2,_,o3⟩,_⟩:=I.list g;obtain⟨l,rfl,e⟩:=Hz r;have tl:FY ((l.map (·.1)).toArray.foldl (λn z=>n+z.length+sep.length) 0)=false:=by
  rw[e];unfold FY;exact decide_eq_false (by lia)
 refine call_meets Ga (typeIs_str s sep t) PySem.F.entry_str_join (PySem.F.args_str_join_2 _ _) (meets_str_join_list sep t b l tl) ⟨⟨o,o1,o2,n,o3⟩,?_⟩;have fin:(Made.str (Uw sep (l.map (·.1)))).post (λv s'=>EP X pins σ Q v s') s:=by
  rw[e];exact⟨z2,.str _,H,I.tok _,⟨_,rfl⟩,q⟩
 match l,e,fin with
 |[],_,fin=>exact fin
 |[p],e,fin=>
  refine⟨.str p.1,H,I,⟨_,rfl⟩,?_⟩;have e2:ss=[p.1]:=e.symm;rw[e2]at q;exact q
 |_::_::_,_,fin=>exact fin
end
end L2
namespace L2
open PySem PySem.Spec PyProof.Rows
section
variable{X:Cx}
end
section
variable{X:Cx}{pins:List (Addr×Obj)}{σ:St}{H:Hp}{s:X1}
theorem Ao{H:Hp}{a b:Addr}{u v:HO}(e:H a=some u)(mu:Mut (some u))(q:H b=some v)(nv:¬Mut (some v)):b≠a:=by
 intro z;subst z;rw[e]at q;cases q;exact nv mu
theorem Inv.freeze(I:Inv X pins σ H s){a:Addr}{u:HO}{o:Obj}(e:H a=some u)(mu:Mut (some u))(ho:s.heap.get? a=some o):Inv X pins σ (upd H a (.frz o u)) s:=by
 have nn:∀b,H b=none->b≠a:=λb n z=>by subst z;rw[e]at n;cases n
 refine I.step (h':=s.heap) (g':=s.gens) (t':=s.toks) (d':=s.drawn) (ch:=[]) (λ_ z=>nomatch z) (λb o _ _ _ q _=>q) (λb o _ _ _ q _=>⟨o.slots,q⟩) (λb o _ _ n=>by rw[XN (nn b n)];exact n) (λb o _ q=>⟨o,q⟩)
  (λb xs q=>by rw[XN (Ao e mu q λz=>z)];exact q) (λb o u q=>by rw[XN (Ao e mu q λz=>z)];exact q) (λb ps q=>⟨#[],by rw[XN (Ao e mu q λz=>z),q];simp⟩) (λm h=>h) (λb v q=>?_) I.bare
 have st:∀{c:Addr} {y:HO},ObjOk X.prog X.w H s.heap c y->ObjOk X.prog X.w (upd H a (.frz o u)) s.heap c y:=λx=>
  x.stay (λc v _ q=>q) (λc q=>by rw[XN (Ao e mu q λz=>z)];exact q) λc xs q=>by rw[XN (Ao e mu q λz=>z)];exact q
 by_cases hb:b=a
 ·subst hb;rw[Uj]at q;cases q;exact⟨ho,st (I.hok b u e)⟩
 ·rw[XN hb]at q;exact st (I.hok b v q)
noncomputable def Thw(X:Cx)(H H':Hp):Prop:=H'=H\/∃a o u,H a=some (.frz o u)/\Mut (some u)/\(∀o' u',X.H₀ a≠some (.frz o' u'))/\H'=upd H a u
theorem Inv.thaw(I:Inv X pins σ H s){H':Hp}(t:Thw X H H'):Inv X pins σ H' s:=by
 rcases t with rfl|⟨a,o,u,e,mu,nf,rfl⟩
 ·exact I
 have ne:∀{b:Addr} {y:HO},H b=some y->y≠.frz o u->b≠a:=fun{b y} q n z=>by subst z;rw[e]at q;cases q;exact n rfl
 have nn:∀b,H b=none->b≠a:=λb n z=>by subst z;rw[e]at n;cases n
 have st:∀{c:Addr} {y:HO},ObjOk X.prog X.w H s.heap c y->ObjOk X.prog X.w (upd H a u) s.heap c y:=λx=>
  x.stay (λc v _ q=>q) (λc q=>by rw[XN (ne q (λz=>by cases z))];exact q) λc xs q=>by rw[XN (ne q (λz=>by cases z))];exact q
 refine⟨I.ok,I.os,I.bare,⟨I.base.keep,I.base.slot,λb ob q n hx=>?_,I.base.there,λb xs q=>?_,λb o' u' q=>?_,λb ps q=>?_⟩,I.loc,I.cell,?_,λx c q=>?_,λp hp=>?_,λb v q=>?_,I.len⟩
 ·have:=I.base.free b ob q n hx;rw[XN (nn b this)];exact this
 ·have:=I.base.tups b xs q;rw[XN (ne this (λz=>by cases z))];exact this
 ·rw[XN (λz=>by subst z;exact nf o' u' q)]
  exact I.base.frzs b o' u' q
 ·obtain⟨m,h⟩:=I.base.tbls b ps q;exact⟨m,by rw[XN (ne h (λz=>by cases z))];exact h⟩
 ·rw[XN (nn _ I.free)];exact I.free
 ·rw[XN (nn _ (I.freeC x c q))];exact I.freeC x c q
 ·obtain⟨h1,h2,h3⟩:=I.pin p hp;exact⟨h1,by rw[XN (nn _ h2)];exact h2,h3⟩
 ·by_cases hb:b=a
  ·subst hb;rw[Uj]at q;cases q;exact st (I.hok b _ e).2
  ·rw[XN hb]at q;exact st (I.hok b v q)
theorem Inv.nofrz(I:Inv X pins σ H s){a:Addr}{u:HO}(e:H a=some u)(mu:Mut (some u)):∀o' u',X.H₀ a≠some (.frz o' u'):=λo' u' z=>by
 have:=I.base.frzs a o' u' z;rw[e]at this;cases this;exact mu
noncomputable def thwD(X:Cx)(D:Ends):Ends where
 nx:=λσ H=>∃H',Thw X H H'/\D.nx σ H'
 rt:=λv H=>∃H',Thw X H H'/\D.rt v H'
 bk:=λσ H=>∃H',Thw X H H'/\D.bk σ H'
 ct:=λσ H=>∃H',Thw X H H'/\D.ct σ H'
theorem PS.thaw{st:Stmt}{t:TS}(h:PS X st t):PS X st (λD σ H=>t (thwD X D) σ H):=by
 intro pins s σ H D I q;refine thn (h pins s σ H _ I q) λf s' hf=>?_;cases f with
 |next=>obtain⟨σ',H',I',H2,t2,d⟩:=hf;exact⟨σ',H2,I'.thaw t2,d⟩
 |brk=>obtain⟨σ',H',I',H2,t2,d⟩:=hf;exact⟨σ',H2,I'.thaw t2,d⟩
 |cont=>obtain⟨σ',H',I',H2,t2,d⟩:=hf;exact⟨σ',H2,I'.thaw t2,d⟩
 |ret u=>obtain⟨v,σ',H',I',r,H2,t2,d⟩:=hf;exact⟨v,σ',H2,I'.thaw t2,r,d⟩
theorem PE.thaw{e:Expr}{t:TE}(h:PE X e t):PE X e (λσ H Q=>t σ H λv H'=>∃H2,Thw X H' H2/\Q v H2):=by
 intro pins s σ H Q I q;refine thn (h pins s σ H _ I q) λu s' ⟨v,H',I',r,H2,t2,d⟩=>⟨v,H2,I'.thaw t2,r,d⟩
noncomputable def Itd(a:Addr)(o:Obj):It where
 go:=λi H=>∃kvs,H a=some (.frz o (.dK kvs))/\i<kvs.length
 yld:=λi H x H'=>H'=H/\∀kvs,H a=some (.frz o (.dK kvs))->∃k v,kvs[i]?=some (k,v)/\x=kV k
 stop:=λi H=>∃kvs,H a=some (.frz o (.dK kvs))/\kvs.length≤i
theorem HA{P:Xm}{w:Xj}{h:Heap}{a:Addr}{o:Obj}{kvs:List (Key×V)}{es:Array DictEntry}{ep:Nat}(ok:HOk P w H h)(e:H a=some (.frz o (.dK kvs)))(hd:o.data=.dict es ep):
  ∃vs,KV kvs vs/\h.DictAt (YC P w) a vs ep/\vs.length=es.size:=by
 obtain⟨ho,z,_,vs,rel,o',es',ep',ho',r1,r2,r3⟩:=ok a _ e;rw[ho]at ho';cases ho';rw[hd]at r2;injection r2 with e1 e2;subst e1 e2;exact⟨vs,rel,⟨o,es,ho,r1,hd,r3⟩,by rw[<- r3.2.1.length];simp⟩
theorem Sf{kvs:List (Key×V)}{vs:List (Key×X0)}(r:KV kvs vs):kvs.length=vs.length:=by
 induction r with
 |nil=>rfl
 |cons _ _ ih=>rw[YG,YG,ih]
theorem Sg{kvs:List (Key×V)}{vs:List (Key×X0)}(r:KV kvs vs):∀{i:Nat} {k:Key} {v:V},kvs[i]?=some (k,v)->∃u,vs[i]?=some (k,u)/\RelV v u:=by
 induction r with
 |nil=>intro i k v h;cases h
 | @cons p p' _ _ q _ ih=>
  intro i k v h;cases i with
  |zero=>
   cases h;obtain⟨k2,x2⟩:=p';have e1:k=k2:=q.1;subst e1;exact⟨x2,rfl,q.2⟩
  |succ i=>exact ih (i:=i) h
theorem Sh{P:Xm}{w:Xj}{k:Key}{u:X0}(h:(YC P w).is k u=true):RelV (kV k) u:=by
 rcases Uy h with⟨i,t,rfl,rfl⟩|⟨x,t,rfl,rfl⟩
 ·exact⟨t,rfl⟩
 ·exact⟨t,rfl⟩
theorem Si{P:Xm}{w:Xj}{A:Xs}{E:X0->X1->Prop}{s:X1}{it d:Addr}{i n ep:Nat}{Q:X0->X1->Prop}(hit:s.heap.IsKeyIter it d i n ep)(h:Q (.ref it) s):
  X4 (X9 P w) A (pyIter (.ref it)) Q E s:=by
 refine wpAny_pyIter_slot hit.typeIs G5 (Z9 G5 hit.typeIs PySem.F.entry_dict_keyiterator_iter ?_ (PySem.F.args_dict_keyiterator_iter_1 _));show X4 _ _ (ret (.ref it)) _ _ s;exact Xb ⟨_,rfl,"dict_keyiterator",_,hit.typeIs,PySem.F.slot_dict_keyiterator_next.lookup,h⟩
theorem Sj{P:Xm}{w:Xj}{K:X6}{tg:Expr}(a it:Addr)(o:Obj)(es:Array DictEntry)(ep:Nat)(hd:o.data=.dict es ep):Turn P w K tg (Itd a o) [it] it (λi h=>h.IsKeyIter it a i es.size ep)where
 mem:=by simp
 obj:=λi h st b hb=>by
  have e:b=it:=by simpa using hb
  subst e;obtain⟨o,e,c,d⟩:=st;exact⟨o,e,λv z=>by rw[d]at z;cases z⟩
 keep:=λi h h' st k=>by
  obtain⟨o,e,c,d⟩:=st;exact⟨o,k it (by simp) o e,c,d⟩
 item:=by
  intro X hP hw hK hc i pins s σ H E I hf st hg;subst hP hw hK;obtain⟨kvs,hq,hx⟩:=hg;obtain⟨vs,rel,da,hl⟩:=HA I.hok hq hd;obtain⟨⟨k,v⟩,hk⟩:∃p,kvs[i]?=some p:=⟨_,X8 hx⟩;obtain⟨u,hu,ru⟩:=Sg rel hk;obtain⟨f0,f1,f2,f3,f4,f5⟩:=hf it (by simp)
  rw[<- hl]at st;refine wpAny_pyNext_dict_item st da hu λkey h' hkey st' sb=>?_;have I1:Inv X pins σ H {s with heap:=h'}:=I.turned (t':=s.toks) (λb o hb e=>(sb.2 b hb).trans e) f0 f1 f3 f4 f5;rw[hl]at st';obtain⟨o',e,c,d⟩:=id st';exact⟨key,rfl,VJ (s:={s with heap:=h'}) e c d (by decide) ⟨kV k,H,I1,Sh hkey,⟨rfl,λkvs' e'=>by rw[hq]at e';cases e';exact⟨k,v,hk,rfl⟩⟩,st',λb hb=>(hf b hb).1⟩⟩
 done:=by
  intro X hP hw hK hc i pins s σ H E I hf st hg;subst hP hw hK;obtain⟨kvs,hq,hx⟩:=hg;obtain⟨vs,rel,da,hl⟩:=HA I.hok hq hd;obtain⟨f0,f1,f2,f3,f4,f5⟩:=hf it (by simp)
  rw[Sf rel]at hx;rw[<- hl]at st;exact wpAny_pyNext_dict_end (I.ok.hd hc) st da (CF.mpr hx) λh' eb=>⟨rfl,I.turned (t':=s.toks) (λb o hb e=>eb b o hb e) f0 f1 f3 f4 f5⟩
 self:=λ_ _ _ _ _ st h=>Si st h
theorem Sk{tg:Expr}{R:It->Hp->Prop}{E:X0->X1->Prop}{a:Addr}{kvs:List (Key×V)}(I:Inv X pins σ H s)(e:H a=some (.dK kvs))(q:∀o,(∀o' u',X.H₀ a≠some (.frz o' u'))->R (Itd a o) (upd H a (.frz o (.dK kvs)))):
  X4 (X9 X.prog X.w) X.A (pyIter (.ref a)) (PIE X pins σ tg R) E s:=by
 obtain⟨z,hm,vs,rel,o,es,ep,ho,r1,r2,r3⟩:=I.hok a _ e;have I1:=I.freeze e trivial ho;have nf:=I.nofrz e trivial;refine wpAny_pyIter_dict hm (⟨o,es,ho,r1,r2,r3⟩:s.heap.DictAt (YC X.prog X.w) a vs ep) ?_;refine⟨s.heap.objs.size,[s.heap.objs.size],_,_,upd H a (.frz o (.dK kvs)),rfl,I1.kept (t':=s.toks) λb o e=>Xr _ e,Sj a _ o es ep r2,?_,λb hb=>?_,q o nf⟩
 ·have hl:es.size=vs.length:=by rw[<- r3.2.1.length];simp
  rw[hl];exact⟨_,XR _ rfl,rfl,rfl⟩
 ·have e:b=s.heap.objs.size:=by simpa using hb
  subst e;exact I1.fpOk (Xl _) (I1.hok.fresh (Xl _))
end
section
variable{prog:Xm}{w:Xj}{A:Xs}{E:X0->X1->Prop}{s:X1}{a₀:Array Keyed}
end
section
variable{X:Cx}
end
structure Mrk (t t':Yy):Prop where
 led:t'.led=t.led
 plain:t.plain=false->t'.plain=false
theorem Mrk.refl(t:Yy):Mrk t t:=⟨rfl,id⟩
theorem Mrk.trans{a b c:Yy}(x:Mrk a b)(y:Mrk b c):Mrk a c:=⟨y.led.trans x.led,λh=>y.plain (x.plain h)⟩
theorem Mrk.standIn(t:Yy)(n:Nat):Mrk t (t.standIn n):=⟨rfl,λ_=>rfl⟩
theorem Mrk.orStandIn(t:Yy)(n:Nat):Mrk t (t.orStandIn n):=by
 unfold SetTable.orStandIn;split
 ·exact .refl t
 ·exact .standIn t n
theorem Mrk.lay(t:Yy)(es:Array (Int×X0))(k:Int)(x:X0):Mrk t (layNew t es k x).2.1:=by
 unfold layNew;split
 ·exact Mrk.trans (b:=(t.put _).1) ⟨rfl,id⟩ (.orStandIn _ _)
 ·exact .standIn t _
theorem Mrk.relaid{t t':Yy}{hs:Array Int}{n:Nat}{od:Array Nat}(h:t.relaid hs n=some (t',od)):Mrk t t':=by
 unfold SetTable.relaid SetTable.laid at h;cases hl:SetTable.layClean (SetTable.sizeAbove n - 1) hs with
 |none=>rw[hl]at h;simp at h
 |some ow=>
  rw[hl]at h;simp only[Option.bind_eq_bind,Option.bind_some,Option.pure_def,By,Prod.mk.injEq]at h;obtain⟨rfl,_⟩:=h;exact⟨rfl,id⟩
theorem Mrk.relay(t:Yy)(es:Array (Int×X0))(n:Nat):Mrk t (relayAll t es n).2.1:=by
 unfold relayAll;split
 ·rename_i hr
  dsimp only;split
  ·exact .relaid hr
  ·exact .standIn t _
 ·exact .standIn t _
noncomputable def txt:X0->Str
 |.str x _=>x
 |_=>⟨#[]⟩
noncomputable def met1(zs:List Str)(x:Str):List Str:=if x∈zs then zs else zs++[x]
noncomputable def met(f:Nat->Str):Nat->List Str
 |0=>[]
 |i+1=>met1 (met f i) (f i)
theorem Sl{zs:List Str}(h:zs.Nodup)(x:Str):(met1 zs x).Nodup:=by
 unfold met1;split
 ·exact h
 ·rename_i n
  rw[Zb];exact⟨h,by simp,λa ha b hb=>by rw[Y6]at hb;subst hb;exact λe=>n (e▸ha)⟩
theorem Dv(f:Nat->Str):∀i,(met f i).Nodup
 |0=>.nil
 |i+1=>Sl (Dv f i) _
theorem Sn{zs:List Str}{x y:Str}:y∈met1 zs x↔y∈zs\/y=x:=by
 unfold met1;split
 ·rename_i h
  exact⟨.inl,λz=>z.elim id λe=>e▸h⟩
 ·simp
theorem Dw{f:Nat->Str}{y:Str}:∀i,y∈met f i↔∃j,j<i/\f j=y
 |0=>by simp[met]
 |i+1=>by
  unfold met;rw[Sn,Dw i];constructor
  ·rintro(⟨j,hj,e⟩|e)
   ·exact⟨j,by lia,e⟩
   ·exact⟨i,by lia,e.symm⟩
  ·rintro⟨j,hj,e⟩;by_cases z:j=i
   ·subst z;exact .inr e.symm
   ·exact .inl ⟨j,by lia,e⟩
theorem HB(f:Nat->Str):∀i,(met f i).length≤i
 |0=>Xl _
 |i+1=>by
  have:=HB f i;unfold met met1;split
  ·lia
  ·rw[Y0];simp;lia
section
variable{prog:Xm}{w:Xj}{A:Xs}{E:X0->X1->Prop}{s:X1}
noncomputable def WSet(prog:Xm)(w:Xj)(o:Obj)(zs:List Str):Prop:=
 o.ExactSet/\∃es ep t,o.data=.set es ep t/\ElemsOf (strKind prog w) es.toList/\(es.toList.map λe=>txt e.2).Perm zs/\es.size<scanBound/\t.fits es.size=true
  /\t.led=(!w.params.followText "set-order")/\(zs≠ []->t.plain=false)
theorem WSet.fresh:WSet prog w {cls:=.type "set",dict:=none,data:=.set #[] 0 (.fresh 0 0 (!w.params.followText "set-order"))} []:=
 ⟨⟨rfl,rfl,rfl⟩,#[],0,_,rfl,λe he=>by simp at he,by simp,by decide,by rfl,rfl,λh=>absurd rfl h⟩
theorem isT{k:Str}{v:X0}:(strKind prog w).is k v=true↔∃t,v=.str k t:=by
 constructor
 ·exact λh=>Value.isStrOf_shape h
 ·rintro⟨t,rfl⟩;exact strKind_is prog w k t
theorem WSet.mem{es:Array (Int×X0)}{zs:List Str}(he:ElemsOf (strKind prog w) es.toList)(hp:(es.toList.map λe=>txt e.2).Perm zs)(k:Str):
  k∈zs↔∃e∈es.toList,(strKind prog w).is k e.2=true:=by
 rw[<- hp.mem_iff,XU];constructor
 ·rintro⟨e,hm,q⟩;refine⟨e,hm,isT.mpr ?_⟩;obtain⟨⟨k',hk,_⟩,_⟩:=he e hm;obtain⟨t,ht⟩:=isT.mp hk;rw[ht]at q ⊢;exact⟨t,by rw[<- q];rfl⟩
 ·rintro⟨e,hm,q⟩;obtain⟨t,ht⟩:=isT.mp q;exact⟨e,hm,by rw[ht];rfl⟩
theorem HC{h:Heap}{a:Addr}{o:Obj}{es:Array (Int×X0)}{ep:Nat}{t:Yy}(ho:h.get? a=some o)(hd:o.data=.set es ep t)(es':Array (Int×X0))(t':Yy):
  (h.update a (Obj.putSet es' t')).get? a=some {o with data:=.set es' (ep+1) t'}:=by
 have z:=VA (Obj.putSet es' t') ho (by rw[putSet_of es' t' hd];rfl)
 rwa [putSet_of es' t' hd]at z
theorem HD{g:Bool->Sem Unit}(hg:∀(b:Bool) (s₁:X1) (Q':Unit->X1->Prop),Q' () s₁->X4 (X9 prog w) A (g b) Q' E s₁)
  {a:Addr} {o:Obj} {es:Array (Int×X0)} {ep:Nat} {t:Yy} (ho:s.heap.get? a=some o) (hex:o.ExactSet) (hd:o.data=.set es ep t)
  {es1:Array (Int×X0)} {t2:Yy} {zs:List Str} (hel:ElemsOf (strKind prog w) es1.toList) (hp:(es1.toList.map λe=>txt e.2).Perm zs) (hb:es1.size<scanBound)
  (hf:t2.fits es1.size=true) (hled:t2.led=(!w.params.followText "set-order")) (hpl:t2.plain=false) {was:Bool} {R:Option Bool->X1->Prop}
  (h:∀h' o',Vc a s.heap h'->h'.get? a=some o'->WSet prog w o' zs->R (some true) {s with heap:=h'}):
  X4 (X9 prog w) A (do
    storeSet a es1 t2
    if(!was&&t2.tooFull)=true then do
      g (relayAll t2 es1 (VG es1.size)).2.2
      storeSet a (relayAll t2 es1 (VG es1.size)).1 (relayAll t2 es1 (VG es1.size)).2.1
      pure (some true)
     else pure (some true)) R E s:=by
 refine X3 (wpAny_storeSet_of ho hd ?_ (fits_of_scanBound hb));have ho1:=HC ho hd es1 t2;split
 ·have hp2:=relayAll_perm t2 es1 (VG es1.size);have hf2:=relayAll_fits t2 es1 (VG es1.size);have hm:=Mrk.relay t2 es1 (VG es1.size);generalize relayAll t2 es1 (VG es1.size)=Rl at hp2 hf2 hm ⊢;obtain⟨es2,t3,gv⟩:=Rl;dsimp only at hp2 hf2 hm ⊢;have hz:es2.size=es1.size:=by rw[<- XW,hp2.length_eq,XW]
  refine X3 (hg _ _ _ ?_);refine X3 (wpAny_storeSet_of ho1 rfl ?_ (fits_of_scanBound (by lia)))
  exact Xb (h _ _ ((UO _ a _).trans (UO _ a _)) (HC ho1 rfl es2 t3)
   ⟨hex,es2,_,t3,rfl,hel.perm hp2,(hp2.map _).trans hp,by lia,hf2,hm.led.trans hled,λ_=>hm.plain hpl⟩)
 ·exact Xb (h _ _ (UO _ a _) ho1 ⟨hex,es1,_,t2,rfl,hel,hp,hb,hf,hled,λ_=>hpl⟩)
theorem So{a:Addr}{o:Obj}{zs:List Str}{x:Str}{tk:Tok}{Q:Bool->X1->Prop}(ho:s.heap.get? a=some o)(hS:WSet prog w o zs)(hroom:zs.length+1<scanBound)
  (h:∀b h' o',Vc a s.heap h'->h'.get? a=some o'->WSet prog w o' (met1 zs x)->Q b {s with heap:=h'}):
  X4 (X9 prog w) A (setAddHashed a (.str x tk) ((strKind prog w).hash x)) Q E s:=by
 obtain⟨hex,es,ep,t,hd,hel,hp,hb,hf,hled,hpl⟩:=id hS;have hkey:(strKind prog w).is x (.str x tk)=true:=strKind_is prog w x tk;have hlen:es.size=zs.length:=by rw[<- hp.length_eq,X7,XW]
 unfold setAddHashed setAddHashedIn;refine YL (X3 (WX ho hd hf ?_));dsimp only;rw[byScan_of (x:=.str x tk) rfl hb hel];simp only[↓reduceIte];unfold setAddByScan;refine X3 (X3 (V6 (X3 (wpAny_setScan_of hkey ho hd hf hel ?_))));have hmem:=WSet.mem hel hp x;cases hr:List.findIdx? (λe=>(strKind prog w).is x e.2) es.toList with
 |some j=>
  dsimp only;obtain⟨hj,hpj,_⟩:=List.findIdx?_eq_some_iff_getElem.mp hr;have hx:x∈zs:=hmem.mpr ⟨_,XY hj,hpj⟩;refine Xb (Xb ?_);have:=h false s.heap o (Heap.SameBut.refl a s.heap) ho (by unfold met1;rw[if_pos hx];exact hS)
  cases s;exact this
 |none=>
  dsimp only;have hx:x∉zs:=λz=>by
   obtain⟨e,he,q⟩:=hmem.mp z;have:=List.findIdx?_eq_none_iff.mp hr e he;rw[q]at this;exact Bool.noConfusion this
  have hz:met1 zs x=zs++[x]:=by unfold met1;rw[if_neg hx]
  have hl:=layNew_perm t es ((strKind prog w).hash x) (.str x tk);have hlf:=layNew_fits t es ((strKind prog w).hash x) (.str x tk);have hm:=Mrk.lay t es ((strKind prog w).hash x) (.str x tk);generalize layNew t es ((strKind prog w).hash x) (.str x tk)=L at hl hlf hm ⊢;obtain⟨es1,t1,was,gave⟩:=L;dsimp only at hl hlf hm ⊢;rw[Array.toList_push]at hl;have hel1:ElemsOf (strKind prog w) es1.toList:=(hel.push hkey rfl).perm hl;have hp1:(es1.toList.map λe=>txt e.2).Perm (met1 zs x):=by
   rw[hz];refine(hl.map _).trans ?_;rw[YD];exact hp.append (.refl _)
  have hb1:es1.size<scanBound:=by rw[<- XW,hl.length_eq,Y0,XW];simp;lia
  have gw:∀(b:Bool) (s₁:X1) (Q':Unit->X1->Prop),Q' () s₁->X4 (X9 prog w) A (match b with|true=>rule "set.scan.the-table-gave-way"|false=>pure ()) Q' E s₁:=
   λb s₁ Q' hq=>by cases b<;>first|exact Xb hq|exact V6 hq
  refine X3 (gw _ _ _ ?_);have fin:∀h' o',Vc a s.heap h'->h'.get? a=some o'->WSet prog w o' (met1 zs x)->Q true {s with heap:=h'}:=λh' o' a1 a2 a3=>h true h' o' a1 a2 a3;split
  ·rw[hashByValue_scannable 8 (x:=.str x tk) rfl];refine X3 (Xb ?_);refine HD gw ho hex hd hel1 hp1 hb1 (t2:={t1 with plain:=false}) (SetTable.fits_plain_off hlf) (hm.led.trans hled) rfl ?_;intro h' o' a1 a2 a3;exact Xb (fin h' o' a1 a2 a3)
  ·rename_i np
   refine X3 (Xb ?_);simp only[↓reduceIte];refine HD gw ho hex hd hel1 hp1 hb1 hlf (hm.led.trans hled) (by simpa using np) ?_
   intro h' o' a1 a2 a3;exact Xb (fin h' o' a1 a2 a3)
theorem Sq{R:Result->X1->Prop}{I:Addr}{fp wr:List Addr}{G:Array UI->Array UI->Prop}{n:Nat}{P:Nat->X0->Prop}{St:Nat->X1->Prop}
  (W:WalksS prog w A.in1 I fp wr G n P St) (S:Addr) (hSf:S∉fp) (f:Nat->Str) (hval:∀i v,P i v->∃t,v=.str (f i) t) (hb:n+1<scanBound):
  ∀(k i:Nat) (s:X1) (o:Obj),n - i=k->i≤n->St i s->s.heap.get? S=some o->WSet prog w o (met f i)->
   (∀s' o',Moved (S::wr) G s s'->s'.heap.get? S=some o'->WSet prog w o' (met f n)->R (.ok (.ret .none)) s')->
   Z7 (X9 prog w) A (.builtin "set.update.loop" ⟨[.ref S,.ref I],[]⟩) R s:=by
 have hSw:S∉wr:=λh=>hSf (W.sub _ h);have hsub:∀b∈wr,b∈S::wr:=λb hb=>Y5 _ hb;intro k
 induction k with
 |zero=>
  intro i s o hk hi hst ho hS hR;have hin:i=n:=by lia
  subst hin;refine Za F.entry_set_update_loop ?_;rw[Uh F.plain_set_update_loop _];show X4 _ A.in1 (pyNext (.ref I)>>= _) _ _ s;refine X3 (W.done s _ _ hst λs' hm=>?_);exact Xb (hR s' o (hm.mono hsub) (hm.heap S _ hSw ho) hS)
 |succ k ih=>
  intro i s o hk hi hst ho hS hR;have hlt:i<n:=by lia
  refine Za F.entry_set_update_loop ?_;rw[Uh F.plain_set_update_loop _];show X4 _ A.in1 (pyNext (.ref I)>>= _) _ _ s;refine X3 (W.item i s _ _ hlt hst λv s' hP hst' hm=>?_);obtain⟨t,rfl⟩:=hval i v hP;have ho':=hm.heap S _ hSw ho;show X4 _ A.in1 (holding [XI (f i) t] (setAdd S (.str (f i) t))>>= _) _ _ s';refine X3 (YL ?_);unfold setAdd;refine YL (X3 ((strKind prog w).pyHash (k:=f i) (strKind_is prog w _ _) ?_));refine So (s:={s' with toks:=s'.toks+1}) ho' hS (by have:=HB f i;lia) λb h' o' hsb ho2 hS2=>?_
  refine Xb ⟨Ub F.plain_set_update_loop _,ih (i+1) _ o' (by lia) hlt (W.frame _ s' _ _ hst' (Ve _) λb hb o e=>?_) ho2 hS2 λs'' o'' hm'' ho'' hS''=>?_⟩
  ·rw[hsb.2 b (λz:b=S=>hSf (by rw[<- z];exact hb))];exact e
  ·refine hR s'' o'' (Moved.trans W.gtrans ((hm.mono hsub).then_heap (Ve _) λb o hb e=>?_) hm'') ho'' hS'';rw[hsb.2 b (λz:b=S=>hb (by rw[z];exact Ya))];exact e
noncomputable def UB(w:Xj):Obj:={cls:=.type "set",dict:=none,data:=.set #[] 0 (.fresh 0 0 (!w.params.followText "set-order"))}
theorem Sr(a:X0){Q₁:X0->X1->Prop}(h:Q₁ (.ref s.heap.objs.size) {s with heap:=s.heap.push (UB w)}):
  Z7 (X9 prog w) A (.call (.builtin "set.__new__") ⟨[.type "set",a],[]⟩) (wants Q₁ E) s:=by
 refine codeAny_of_tree ?_;show X4 _ A.in1 (do checkBuiltinCall "set.__new__" ⟨[.type "set",a],[]⟩;again (.builtin "set.__new__" ⟨[.type "set",a],[]⟩)) _ _ s
 refine X3 (wpAny_of_eq (F.newCall_set_1 a) (Xb ⟨Ub F.plain_set_new _,Za F.entry_set_new ?_⟩));rw[Uh F.plain_set_new _];unfold Builtin.«set.__new__» Builtin.Frozenset.newClass;have hsub:=sub_set_self;obtain⟨hp,g,d,tk,os⟩:=s;dsimp only
 wp_walk
 refine WY (Xb ?_);dsimp only;simp only[newObj];refine X3 (wpAny_alloc (Xb ?_));exact Xb h
theorem HE{l:Addr}{items:Array X0}{f:Nat->Str}{Q:X0->X1->Prop}
  (hh:A.handled=none) (hl:s.heap.IsList l items) (hi:∀(i:Nat) (v:X0),items[i]?=some v->∃t,v=XI (f i) t) (hb:items.size+1<scanBound)
  (h:∀(h':Heap) (tk:Nat) (o:Obj),h'.get? s.heap.objs.size=some o->WSet prog w o (met f items.size)->
   (∀b o,b<s.heap.objs.size->s.heap.get? b=some o->h'.get? b=some o)->Q (.ref s.heap.objs.size) {s with heap:=h',toks:=tk}):
  X4 (X9 prog w) A (call (.type "set") [.ref l]) Q E s:=by
 obtain⟨c,tl,hmro⟩:=Vg.mro;have hmade:=Vg.made;have hsub:=Vg.sub;refine wpAny_call (codeAny_of_tree ?_);show X4 _ _ (callAny (.type "set") _) _ _ _;refine Xb ⟨Code.quiet_builtin _ (by decide+kernel),Za F.entry_type_call ?_⟩
 rw[Around.under_plain (weight_type_call_type "set" [.ref l] []) rfl];have h1:=Vg.notType;have h2:=Vg.canCreate;have hct:=F.typeCall_set_1 (.ref l)
 repeat (any_goals (first|assumption|wp_step))
 refine WU (Sr (.ref l) (E:=E) (Q₁:=λobj s₁=>obj=.ref s.heap.objs.size/\s₁={s with heap:=s.heap.push (UB w)}) ⟨rfl,rfl⟩) λr s₁ hr=>?_;cases r with
 |error e=>exact hr
 |ok fl=>
  cases fl with
  |ret obj=>
   obtain⟨rfl,rfl⟩:=hr;have hS:(s.heap.push (UB w)).get? s.heap.objs.size=some (UB w):=XR _ rfl;have hT:Ad {s with heap:=s.heap.push (UB w)} (.ref s.heap.objs.size) "set":=⟨_,hS,rfl⟩;have hli:=Vg.init.lookup;have hbi:=Vg.init.bind (.ref s.heap.objs.size)
   repeat (any_goals (first|assumption|wp_step))
   refine WU (WW (R:=wants (λr s₂=>r=.none/\∃h' tk o,s₂={s with heap:=h',toks:=tk}/\
     h'.get? s.heap.objs.size=some o/\WSet prog w o (met f items.size)/\
     (∀b o,b<s.heap.objs.size->s.heap.get? b=some o->h'.get? b=some o)) E) Vg.init.plain F.entry_set_init (check_set_init_1 hT ?_)) λr₂ s₂ hr₂=>?_
   ·obtain⟨ol,hol,hcl,nl,hdl⟩:=hl;obtain⟨ocls,odict,odata,oslots⟩:=ol;simp only at hcl hdl;subst hcl;subst hdl;have hol':(s.heap.push (UB w)).get? l=some {cls:=.type "list",dict:=odict,data:=.seq items nl,slots:=oslots}:=Xr _ hol;have hsls:=F.sub_list_set;have hslf:=F.sub_list_frozenset;have hne:(XJ "list"==XJ "dict")=false:=by decide
    have hl1:(s.heap.push (UB w)).IsList l items:=⟨_,hol',rfl,nl,rfl⟩;unfold Builtin.«set.__init__» noKeywords Builtin.Frozenset.updateFrom;generalize hPI:pyIter=PI
    wp_walk
    subst hPI;refine Bd hl1 ?_;refine X3 (wpAny_runValue ?_);have hlS:l<s.heap.objs.size:=Xv hol;have hneI:l≠(s.heap.push (UB w)).objs.size:=by
     rw[Ug];exact XH (Vd hlS)
    have hSf:s.heap.objs.size∉ [(s.heap.push (UB w)).objs.size,l]:=by
     rw[Ug];simp only[Xu,Yd,or_false,not_or];exact⟨XH (Bu _),VB hlS⟩
    refine Sq ((Walks.list (A:=A.in1.in1.in1) (by simp[hh]) _ l hneI items).toS) s.heap.objs.size
     hSf f hi hb (items.size - 0) 0 _ (UB w) (by lia) (YN _)
     ⟨⟨_,XR _ rfl,rfl,rfl⟩,(hl1.push _)⟩ (Xr _ hS) WSet.fresh ?_
    intro s' o' hm ho' hS';obtain⟨h',g',d',tk',os'⟩:=s';have eg:g'=s.gens:=hm.gens;have ed:d'=s.drawn:=hm.drawn;have eo:os'=s.os:=hm.os;subst eg;subst ed;subst eo;refine Xb (Xb ⟨rfl,h',tk',o',rfl,ho',hS',λb o hb e=>?_⟩);refine hm.heap b o ?_ (Xr _ (Xr _ e));simp only[Xu,Yd,or_false,not_or];exact⟨XH hb,by rw[Ug];exact XH (Vd hb)⟩
   ·cases r₂ with
    |error e=>exact hr₂
    |ok fl₂=>
     cases fl₂ with
     |ret r=>
      obtain⟨rfl,h',tk,o',rfl,ho',hS',hk'⟩:=hr₂
      repeat (any_goals (first|assumption|wp_step))
      exact h _ _ _ ho' hS' hk'
     |_=>exact hr₂.elim
  |_=>exact hr.elim
end
theorem slot_setiter_next:Slot "set_iterator" "__next__" "set_iterator.__next__":=
 .of (owner:="set_iterator") (n:="__next__") (by rw[W9,Wa];kernel_rfl) (by decide+kernel) (by decide+kernel) (by decide+kernel)
  (by first|exact .inl (by decide+kernel)|exact .inr (by decide+kernel)) (by rw[isSubtype_type];kernel_rfl)
theorem HF:Slot "set_iterator" "__iter__" "set_iterator.__iter__":=
 .of (owner:="set_iterator") (n:="__iter__") (by rw[W9,Wa];kernel_rfl) (by decide+kernel) (by decide+kernel) (by decide+kernel)
  (by first|exact .inl (by decide+kernel)|exact .inr (by decide+kernel)) (by rw[isSubtype_type];kernel_rfl)
theorem HG:entryFor table "set_iterator.__next__"=some Builtin.«set_iterator.__next__»:=entryFor_of_fast (by kernel_rfl)
theorem Ss:entryFor table "set_iterator.__iter__"=some Builtin.«dict_keyiterator.__iter__»:=
 entryFor_alias (id':="dict_keyiterator.__iter__") (by kernel_rfl) rfl (by decide+kernel) (by kernel_rfl)
theorem Su:entryFor table "set.__iter__"=some Builtin.«frozenset.__iter__»:=
 entryFor_alias (id':="frozenset.__iter__") (by kernel_rfl) rfl (by decide+kernel) (by kernel_rfl)
theorem HH(a:X0):argsOk "set_iterator.__next__" ⟨[a],[]⟩:=by unfold argsOk;kernel_rfl
theorem Sv(a:X0):argsOk "set_iterator.__iter__" ⟨[a],[]⟩:=by unfold argsOk;kernel_rfl
theorem ers{α:Type}:∀(l:List α) (i:Nat) (h:i<l.length),(l[i]::l.eraseIdx i).Perm l
 |[],_,h=>absurd h (by simp)
 |x::xs,0,_=>.refl _
 |x::xs,i+1,h=>(List.Perm.swap x _ _).trans ((ers xs i (by simpa using h)).cons x)
section
variable{prog:Xm}{w:Xj}{A:Xs}{E:X0->X1->Prop}{s:X1}
theorem Sw{M:Model}{src:Source}{n:Nat}{Q:Nat->X1->Prop}(hn:n≠0)(h:∀i d,i<n->Q i {s with drawn:=d}):X4 M A (choose src n) Q E s:=λΓ p hΓ=>by
 unfold choose;rw[Sem.wp_choose];exact⟨hn,by rw[Sem.wp_pure];exact h _ _ (Nat.mod_lt _ (Nat.pos_of_ne_zero hn))⟩
theorem Sx{M:Model}{α:Type}:∀(n:Nat) (xs:List α) (s:X1) (Q:List α->X1->Prop),xs.length=n->(∀ys d,ys.Perm xs->Q ys {s with drawn:=d})->X4 M A (drawOrder n xs) Q E s:=by
 intro n
 induction n with
 |zero=>
  intro xs s Q hl h;unfold drawOrder;have:xs=[]:=CH.mp hl;subst this;exact Xb (h [] s.drawn (.refl _))
 |succ n ih=>
  intro xs s Q hl h;cases xs with
  |nil=>simp at hl
  |cons x xs=>
   unfold drawOrder;refine X3 (Sw (by simp) λi d hi=>?_)
   rw[X8 hi];dsimp only;refine X3 (ih _ _ _ (by rw[FP hi];lia) λys d' hp=>Xb ?_)
   have:(((x::xs)[i])::ys).Perm (x::xs):=((List.Perm.cons _ hp).trans (ers _ _ hi));exact h _ d' this
theorem Sy{α:Type}(next:Nat->Nat):∀(n k:Nat) (left:List α) (out:Array α),left.length=n->(pickOrder.go next n k left out).toList.Perm (out.toList++left):=by
 intro n
 induction n with
 |zero=>
  intro k left out hl;have:left=[]:=CH.mp hl;subst this;unfold pickOrder.go;simp
 |succ n ih=>
  intro k left out hl;unfold pickOrder.go;have hi:next k%left.length<left.length:=Nat.mod_lt _ (by lia)
  rw[X8 hi];dsimp only;refine(ih _ _ _ (by rw[FP hi];lia)).trans ?_
  rw[Array.toList_push,A0];exact(List.Perm.refl _).append (by simpa using ers _ _ hi)
theorem Sz{α:Type}(next:Nat->Nat)(xs:Array α):(pickOrder next xs).toList.Perm xs.toList:=by
 unfold pickOrder
 simpa using Sy next xs.size 0 xs.toList #[] (by simp)
end
section
variable{prog:Xm}{w:Xj}{A:Xs}{E:X0->X1->Prop}{s:X1}
noncomputable def SIt(h:Heap)(it S:Addr)(first:X0)(i n ep:Nat):Prop:=
 ∃o,h.get? it=some o/\o.cls=.type "set_iterator"/\o.data=.fields #[first,.int i 0,.ref S,.int n 0,.int ep 0]
theorem SIt.typeIs{it S:Addr}{first:X0}{i n ep:Nat}(x:SIt s.heap it S first i n ep):s.TypeIs (.ref it) "set_iterator":=let⟨o,ho,hc,_⟩:=x;⟨o,ho,hc⟩
theorem BT{h:Heap}{it:Addr}{o:Obj}{vs:Array X0}(ho:h.get? it=some o)(hd:o.data=.fields vs)(j:Nat)(v:X0):
  ∃o',(h.update it (Db (·.setIfInBounds j v))).get? it=some o'/\o'.cls=o.cls/\o'.data=.fields (vs.setIfInBounds j v):=
 ⟨_,VA _ ho (D9 (BK hd _)),Da ..,BK hd _⟩
noncomputable def Nx(w:Xj)(S:Addr)(es:Array (Int×X0))(ep:Nat)(t:Yy)(slot i:Nat):Option (X0×Nat):=
 if w.params.followText "set-order"=true then(pickOrder (w.params.setOrder S ep) es)[i]?.map fun e=>(e.2,slot)
 else match es[BJ t.place slot]?,t.place[BJ t.place slot]? with
  |some (_,x),some j=>some (x,j+1)
  |_,_=>none
theorem SA{S:Addr}{i ep slot:Nat}{o:Obj}{es:Array (Int×X0)}{t:Yy}{Q:Option (X0×Nat)->X1->Prop}
  (hoS:s.heap.get? S=some o) (hdS:o.data=.set es ep t) (hf:t.fits es.size=true) (hw:w.params.followText "set-order"=true\/(es.size≤1/\t.led=true))
  (h:Q (Nx w S es ep t slot i) s):X4 (X9 prog w) A (setNext S slot i ep) Q E s:=by
 unfold setNext;refine X3 (WX hoS hdS hf ?_);refine X3 (m:=setsByText) (X3 (WY (Xb ?_)));show X4 _ _ (if w.params.followText "set-order"=true then _ else _) _ _ _;unfold Nx at h;by_cases hb:w.params.followText "set-order"=true
 ·rw[if_pos hb];rw[if_pos hb]at h;simp only[bne_self_eq_false,Yt,if_false];refine X3 ?_;unfold setWalk;refine X3 (WX hoS hdS hf ?_);refine X3 (m:=setsByText) (X3 (WY (Xb ?_)));show X4 _ _ (if w.params.followText "set-order"=true then _ else _) _ _ _;rw[if_pos hb];refine X3 (WY (Xb (Xb ?_)));exact h
 ·rw[if_neg hb];rw[if_neg hb]at h;obtain⟨h1,h2⟩:=hw.resolve_left hb;have hdr:(!t.plain&&decide (es.size>1))=false:=by
   rw[decide_eq_false (by lia),CW]
  show X4 _ _ (if(!t.plain&&decide (es.size>1))=true then _ else _) _ _ _;rw[hdr,if_neg XF];refine X3 ?_;show X4 _ _ (if(!t.led&& !es.isEmpty)=true then _ else _) _ _ _;rw[h2];simp only[A8,CV,Yt,if_false];exact Xb (Xb h)
theorem HI{it:Addr}{Q:Option X0->X1->Prop}{h₁:Heap}(hh:A.handled=none)(hk:Bp it s.heap h₁)
  (hQ:∀h',Bp it s.heap h'->Q none {s with heap:=h'}):
  X4 (X9 prog w) A.in1 (do let x<- newExc (.type "StopIteration") [];(raiseNew x:Sem Fin)) (fun fin s'=>∃v,fin=Fin.done (Flow.ret v)/\X4 (X9 prog w) A (pure (some v)) Q E s')
   (fun e s'=>X4 (X9 prog w) A (do let b<- isInstance e (.type "StopIteration");if b=true then pure none else throw e) Q E s') {s with heap:=h₁}:=by
 refine X3 ?_;simp only[newExc,newTuple];refine X3 (UK ?_ (by size_fits))
 refine X3 (m:=firstArgMember _ _) (wpAny_of_eq (a:=Xw) (by first|rfl|(simp only[firstArgMember];rfl)) ?_)
 refine UK ?_ (by size_fits)
 simp only[raiseNew];refine X3 (wpAny_handled ?_);rw[show A.in1.handled=none from hh];refine X3 (Xb (wpAny_throw ?_));refine X3 (V5 (T:="StopIteration") (b:=true) ⟨_,XR _ rfl,rfl⟩ isSubtype_stop ?_);exact Xb (hQ _ ((hk.push _).push _))
theorem HJ{it S:Addr}{i n ep slot:Nat}{o:Obj}{es:Array (Int×X0)}{t:Yy}{Q:Option X0->X1->Prop}(hh:A.handled=none)
  (hit:SIt s.heap it S (.int slot 0) i n ep) (hoS:s.heap.get? S=some o) (hdS:o.data=.set es ep t) (hf:t.fits es.size=true) (hn:es.size=n)
  (hw:w.params.followText "set-order"=true\/(es.size≤1/\t.led=true))
  (h1:∀x nx,Nx w S es ep t slot i=some (x,nx)->∀h',SIt h' it S (.int nx 0) (i+1) n ep->Vc it s.heap h'->Q (some x) {s with heap:=h'})
  (h2:Nx w S es ep t slot i=none->∀h',Bp it s.heap h'->Q none {s with heap:=h'}):
  X4 (X9 prog w) A (pyNext (.ref it)) Q E s:=by
 obtain⟨oi,hoi,hci,hdi⟩:=id hit;unfold pyNext;refine X3 (wpAny_attempt (B9 (name:=XX "__next__") hit.typeIs slot_setiter_next
  (Z9 slot_setiter_next hit.typeIs HG ?_ (HH _))))
 show X4 _ _ (fieldsOf (.ref it)>>= _) _ _ s;refine X3 (wpAny_fieldsOf hoi hdi ?_);show X4 _ _ (setEntries S >>= _) _ _ s;refine X3 (wpAny_setEntries_of hoS hdS hf ?_);simp only[hn,bne_self_eq_false,Yt,if_false];refine X3 (m:=setNext _ _ _ _) ?_;simp only[UN];refine SA hoS hdS hf hw ?_;cases hx:Nx w S es ep t slot i with
 |none=>
  dsimp only;refine X3 (Wb hoi hdi (by simp) ?_)
  exact HI hh (UO ..).extBut (h2 hx)
 |some p=>
  obtain⟨x,nx⟩:=p;dsimp only;obtain⟨o1,ho1,hc1,hd1⟩:=BT hoi hdi 0 (Y4 nx);refine X3 (Wb hoi hdi (by simp) ?_)
  refine X3 (Wb ho1 hd1 (by simp) ?_)
  obtain⟨o2,ho2,hc2,hd2⟩:=BT ho1 hd1 1 (Y4 ((i:Int)+1));refine Xb ⟨x,rfl,Xb (h1 x nx hx _ ⟨o2,ho2,hc2.trans (hc1.trans hci),?_⟩ ((UO ..).trans (UO ..)))⟩;rw[hd2];simp[Y4]
theorem HK{it S P:Addr}{i n ep:Nat}{o op:Obj}{es:Array (Int×X0)}{t:Yy}{ps:Array X0}{np:Nat}{Q:Option X0->X1->Prop}(hh:A.handled=none)
  (hit:SIt s.heap it S (.ref P) i n ep) (hoS:s.heap.get? S=some o) (hdS:o.data=.set es ep t) (hf:t.fits es.size=true) (hn:es.size=n)
  (hoP:s.heap.get? P=some op) (hdP:op.data=.seq ps np)
  (h1:∀v,ps[i]?=some v->∃(p:Nat) (e:Int×X0),v=.int p 0/\es[p]?=some e/\∀h',SIt h' it S (.ref P) (i+1) n ep->Vc it s.heap h'->Q (some e.2) {s with heap:=h'})
  (h2:ps[i]?=none->∀h',Bp it s.heap h'->Q none {s with heap:=h'}):
  X4 (X9 prog w) A (pyNext (.ref it)) Q E s:=by
 obtain⟨oi,hoi,hci,hdi⟩:=id hit;unfold pyNext;refine X3 (wpAny_attempt (B9 (name:=XX "__next__") hit.typeIs slot_setiter_next
  (Z9 slot_setiter_next hit.typeIs HG ?_ (HH _))))
 show X4 _ _ (fieldsOf (.ref it)>>= _) _ _ s;refine X3 (wpAny_fieldsOf hoi hdi ?_);show X4 _ _ (setEntries S >>= _) _ _ s;refine X3 (wpAny_setEntries_of hoS hdS hf ?_);simp only[hn,bne_self_eq_false,Yt,if_false];refine X3 (m:=seqItems? _) (wpAny_seqItems hoP hdP ?_);simp only[UN];cases hx:ps[i]? with
 |none=>
  dsimp only;obtain⟨o1,ho1,hc1,hd1⟩:=BT hoi hdi 0 (Y4 0);refine X3 (Wb hoi hdi (by simp) ?_)
  refine X3 (Wb ho1 hd1 (by simp) ?_)
  refine HI (s:=s) (it:=it) hh ?_ (h2 hx);exact Heap.SameBut.extBut (Heap.SameBut.trans (UO _ _ _) (UO _ _ _))
 |some v=>
  obtain⟨p,e,rfl,he,hq⟩:=h1 v hx;dsimp only;refine X3 ?_;unfold setNextDrawn;refine X3 (WX hoS hdS hf ?_);simp only[UN,bne_self_eq_false,Yt,if_false,he];obtain⟨k,x⟩:=e;refine Xb ?_;obtain⟨o1,ho1,hc1,hd1⟩:=BT hoi hdi 1 (Y4 ((i:Int)+1));refine X3 (Wb hoi hdi (by simp) ?_)
  refine Xb ⟨x,rfl,Xb (hq _ ⟨o1,ho1,hc1.trans hci,?_⟩ (UO ..))⟩;rw[hd1];simp[Y4]
end
section
variable{prog:Xm}{w:Xj}{A:Xs}{E:X0->X1->Prop}{s:X1}
theorem HL{it S:Addr}{first:X0}{i n ep:Nat}{Q:X0->X1->Prop}(hit:SIt s.heap it S first i n ep)(h:Q (.ref it) s):
  X4 (X9 prog w) A (pyIter (.ref it)) Q E s:=by
 refine wpAny_pyIter_slot hit.typeIs HF (Z9 HF hit.typeIs Ss ?_ (Sv _));show X4 _ _ (ret (.ref it)) _ _ s;exact Xb ⟨_,rfl,"set_iterator",_,hit.typeIs,slot_setiter_next.lookup,h⟩
theorem SIt.at{h h':Heap}{it S:Addr}{first:X0}{i n ep:Nat}(x:SIt h it S first i n ep)(e:∀o,h.get? it=some o->h'.get? it=some o):SIt h' it S first i n ep:=
 let⟨o,ho,r⟩:=x;⟨o,e _ ho,r⟩
theorem SC(hh:A.handled=none){I S:Addr}{n ep:Nat}{o:Obj}{es:Array (Int×X0)}{t:Yy}{vs:List X0}{Good:Nat->Nat->Prop}(hne:S≠I)
  (hdS:o.data=.set es ep t) (hf:t.fits es.size=true) (hn:es.size=n) (hw:w.params.followText "set-order"=true\/(es.size≤1/\t.led=true))
  (hg:∀i sl,Good i sl->(i<n->∃x nx,Nx w S es ep t sl i=some (x,nx)/\vs[i]?=some x/\Good (i+1) nx)/\(i=n->Nx w S es ep t sl i=none)):
  Walks prog w A I [I,S] [I] n (λi v=>vs[i]?=some v) (λi h=>∃sl,Good i sl/\SIt h I S (.int (sl:Nat) 0) i n ep/\h.get? S=some o)where
 sub:=λb hb=>by simp at hb;simp[hb]
 frame:=λ_ _ _ st hk=>let⟨sl,g,st1,st2⟩:=st;⟨sl,g,st1.at λo e=>hk I (by simp) o e,hk S (by simp) _ st2⟩
 item:=λi s Q E hi st hQ=>by
  obtain⟨sl,g,st1,st2⟩:=st;obtain⟨x,nx,e1,e2,g2⟩:=(hg i sl g).1 hi;refine HJ hh st1 st2 hdS hf hn hw (λx' nx' q h' a1 a2=>?_) (λq=>by rw[e1]at q;simp at q)
  rw[e1]at q;simp only[By,Prod.mk.injEq]at q;obtain⟨rfl,rfl⟩:=q;exact hQ _ h' s.toks e2 ⟨_,g2,a1,(a2.2 S hne).trans st2⟩ λb o hb e=>(a2.2 b (λz=>hb (by simp[z]))).trans e
 done:=λs Q E st hQ=>by
  obtain⟨sl,g,st1,st2⟩:=st;have e1:=(hg n sl g).2 rfl;refine HJ hh st1 st2 hdS hf hn hw (λx' nx' q h' a1 a2=>by rw[e1]at q;simp at q) (λ_ h' a=>hQ h' s.toks λb o hb e=>a b o (λz=>hb (by simp[z])) e)
 self:=λ_ _ _ _ st hQ=>let⟨_,_,st1,_⟩:=st;HL st1 hQ
theorem SD(hh:A.handled=none){I S P:Addr}{n ep np:Nat}{o op:Obj}{es:Array (Int×X0)}{t:Yy}{js:List Nat}{vs:List X0}(hne:S≠I)(hnp:P≠I)
  (hdS:o.data=.set es ep t) (hf:t.fits es.size=true) (hn:es.size=n) (hdP:op.data=.seq (js.map λi:Nat=>Y4 i).toArray np)
  (hl:js.length=n) (hj:∀(i:Nat) (j:Nat),js[i]?=some j->∃e,es[j]?=some e/\vs[i]?=some e.2):
  Walks prog w A I [I,S,P] [I] n (λi v=>vs[i]?=some v) (λi h=>SIt h I S (.ref P) i n ep/\h.get? S=some o/\h.get? P=some op)where
 sub:=λb hb=>by simp at hb;simp[hb]
 frame:=λ_ _ _ st hk=>⟨st.1.at λo e=>hk I (by simp) o e,hk S (by simp) _ st.2.1,hk P (by simp) _ st.2.2⟩
 item:=λi s Q E hi st hQ=>by
  refine HK hh st.1 st.2.1 hdS hf hn st.2.2 hdP (λv hv=>?_) (λq=>?_)
  ·simp only[List.getElem?_toArray,Xo,Dd]at hv;obtain⟨j,hj1,rfl⟩:=hv;obtain⟨e,he,hv⟩:=hj i j hj1;exact⟨j,e,rfl,he,λh' a1 a2=>hQ _ h' s.toks hv ⟨a1,(a2.2 S hne).trans st.2.1,(a2.2 P hnp).trans st.2.2⟩ λb o hb e=>(a2.2 b (λz=>hb (by simp[z]))).trans e⟩
  ·simp at q;lia
 done:=λs Q E st hQ=>by
  refine HK hh st.1 st.2.1 hdS hf hn st.2.2 hdP (λv hv=>?_) (λ_ h' a=>hQ h' s.toks λb o hb e=>a b o (λz=>hb (by simp[z])) e)
  simp only[List.getElem?_toArray,Xo,Dd]at hv;obtain⟨j,hj1,rfl⟩:=hv;rw[Ud (by lia)]at hj1
  simp at hj1
 self:=λ_ _ _ _ st hQ=>HL st.1 hQ
theorem SE{α:Type}(es:Array α){js:List Nat}(hp:js.Perm (XM es.size)):
  ∃ys:List α,ys.Perm es.toList/\ys.length=js.length/\∀(i:Nat) (j:Nat),js[i]?=some j->∃e,es[j]?=some e/\ys[i]?=some e:=by
 have hin:∀j∈js,j<es.size:=λj hj=>V9.mp (hp.mem_iff.mp hj);refine⟨js.filterMap λj=>es[j]?,(hp.filterMap _).trans (by rw[filterMap_getElem?_range]),?_⟩
 clear hp
 induction js with
 |nil=>exact⟨rfl,λi j h=>by simp at h⟩
 |cons j js ih=>
  have hj:=hin j Ya;obtain⟨h1,h2⟩:=ih λk hk=>hin k (Y5 _ hk);rw[WZ (b:=es[j]) (by simp[hj])]
  refine⟨by simp[h1],λi k h=>?_⟩
  cases i with
  |zero=>
   simp at h;subst h;exact⟨es[j],by simp[hj],rfl⟩
  |succ i=>
   simp at h;obtain⟨e,he,hy⟩:=h2 i k h;exact⟨e,he,by simpa using hy⟩
noncomputable def SF(prog:Xm)(w:Xj)(zs:List Str)(s₀:Heap)(S I:Addr)(h':Heap):Prop:=
 ∃(fp:List Addr) (n:Nat) (vs:List X0) (St:Nat->Heap->Prop),
  (∀A':Xs,A'.handled=none->Walks prog w A' I fp [I] n (λi v=>vs[i]?=some v) St)/\St 0 h'/\vs.length=n/\(vs.map txt).Perm zs/\(∀v∈vs,∃t,v=XI (txt v) t)/\
  (∀b∈fp,b=S\/s₀.objs.size≤b)/\s₀.objs.size≤I
theorem HM{p:Array Nat}(h:p.size=1)(j:Nat):BJ p j=if p[0]'(by lia)<j then 1 else 0:=by
 obtain⟨l⟩:=p
 match l,h with
 |[a],_=>
  show(if 0<1 then(if(#[a]:Array Nat).getD ((0+1)/2) j<j then Gu #[a] j 0 ((0+1)/2+1) 1 else Gu #[a] j 0 0 ((0+1)/2))else 0)=if a<j then 1 else 0;rw[if_pos (by lia)]
  rfl
theorem SG{S:Addr}{o:Obj}{zs:List Str}{Q:X0->X1->Prop}(ho:s.heap.get? S=some o)(hS:WSet prog w o zs)
  (hQ:∀(I:Addr) (h':Heap) d,SF prog w zs s.heap S I h'->(∀b o,s.heap.get? b=some o->h'.get? b=some o)->Q (.ref I) {s with heap:=h',drawn:=d}):
  X4 (X9 prog w) A (pyIter (.ref S)) Q E s:=by
 obtain⟨hex,es,ep,t,hd,hel,hp,hb,hf,hled,hpl⟩:=id hS;have hT:s.TypeIs (.ref S) "set":=⟨o,ho,hex.1⟩;have hSl:S<s.heap.objs.size:=Xv ho;have hsz:es.size=zs.length:=by rw[<- hp.length_eq,X7,XW]
 have hst:∀e∈es.toList,∃t,e.2=XI (txt e.2) t:=λe he=>by
  obtain⟨⟨k,hk,_⟩,_⟩:=hel e he;obtain⟨t,ht⟩:=isT.mp hk;exact⟨t,by rw[ht];rfl⟩
 have hsl:sizeLine=16777216:=by decide
 have hsb:scanBound=4096:=rfl;refine wpAny_pyIter_slot hT F.slot_set_iter (Z9 F.slot_set_iter hT Su ?_ (F.args_set_iter_1 _));show X4 _ _ (Go S >>= _) _ _ s;refine X3 (m:=Go S) (X3 (wpAny_setEntries_of ho hd hf (Xb ?_)));refine X3 (m:=setDrawn S) ?_;unfold setDrawn;refine X3 (WX ho hd hf ?_);refine X3 (m:=setsByText) (X3 (WY (Xb (Xb ?_))));show X4 _ _ (if(!w.params.followText "set-order"&&(!t.plain&&decide (es.size>1)))=true then _ else _) _ _ _;have rest:∀(first:X0) (s₁:X1) (R:Fin->X1->Prop),s₁.heap.get? S=some o->
   R (.done (.ret (.ref s₁.heap.objs.size))) {s₁ with heap:=s₁.heap.push {cls:=.type "set_iterator",data:=.fields #[first,.int 0 0,.ref S,.int (es.size:Nat) 0,.int ep 0]} }->
   X4 (X9 prog w) A.in1 (do let e<- setEpoch S;let v<- newFields "set_iterator" [first,Y4 0,.ref S,Y4 (es.size:Nat),Y4 e];ret v) R E s₁:=by
  intro first s₁ R ho₁ h
  refine X3 (wpAny_setEpoch_of ho₁ hd hf ?_);exact X3 (UK (Xb h))
 have small:∀(Good:Nat->Nat->Prop) (vs:List X0),Good 0 0->vs.length=es.size->(vs.map txt).Perm zs->(∀v∈vs,∃t,v=XI (txt v) t)->
   (w.params.followText "set-order"=true\/(es.size≤1/\t.led=true))->
   (∀i sl,Good i sl->(i<es.size->∃x nx,Nx w S es ep t sl i=some (x,nx)/\vs[i]?=some x/\Good (i+1) nx)/\(i=es.size->Nx w S es ep t sl i=none))->
   ∀(s₁:X1),s₁=s->X4 (X9 prog w) A.in1 (do let e<- setEpoch S;let v<- newFields "set_iterator" [Y4 0,Y4 0,.ref S,Y4 (es.size:Nat),Y4 e];ret v)
    (fun fin s'=>∃v,fin=Fin.done (Flow.ret v)/\∃T' r,s'.TypeIs v T'/\W7 (.type T') "__next__"=pure (some r)/\Q v s') E s₁:=by
  intro Good vs g0 hlv hpv hsv hw hg s₁ e₁;subst e₁;refine rest _ _ _ ho ⟨_,rfl,"set_iterator",_,⟨_,XR _ rfl,rfl⟩,slot_setiter_next.lookup,?_⟩;refine hQ _ _ s₁.drawn ⟨[s₁.heap.objs.size,S],es.size,vs,_,λA' hh=>SC hh (XH hSl) hd hf rfl hw hg,⟨0,g0,⟨_,XR _ rfl,rfl,rfl⟩,Xr _ ho⟩,hlv,hpv,hsv,λb hb=>?_,Xl _⟩ λb o e=>Xr _ e;simp only[Xu,Yd,or_false]at hb;rcases hb with rfl|rfl
  ·exact .inr (Xl _)
  ·exact .inl rfl
 by_cases hbt:w.params.followText "set-order"=true
 ·rw[hbt];simp only[A8,CV,Yt,if_false];refine X3 (Xb ?_);have hpk:=Sz (w.params.setOrder S ep) es;refine small (λ_ _=>True) ((pickOrder (w.params.setOrder S ep) es).toList.map (·.2)) trivial ?_ ?_ ?_ (.inl hbt) ?_ s rfl
  ·rw[X7,hpk.length_eq,XW]
  ·rw[Y9];exact(hpk.map _).trans hp
  ·intro v hv;obtain⟨e,he,rfl⟩:=XU.mp hv;exact hst e (hpk.mem_iff.mp he)
  ·intro i sl _;have hps:(pickOrder (w.params.setOrder S ep) es).size=es.size:=by rw[<- XW,hpk.length_eq,XW]
   unfold Nx;rw[if_pos hbt];refine⟨λhi=>?_,λhi=>?_⟩
   ·rw[VD (by lia)]
    exact⟨_,_,rfl,by simp[hps,hi],trivial⟩
   ·rw[D4 (by lia)]
    rfl
 ·have hbf:w.params.followText "set-order"=false:=by simpa using hbt
  have hlt:t.led=true:=by rw[hled,hbf];rfl
  rw[hbf];simp only[Br,Bool.true_and];by_cases h1:es.size>1
  ·have hz:zs≠ []:=λz=>by rw[z,List.length_nil]at hsz;lia
   rw[hpl hz,decide_eq_true h1];simp only[Br,Bool.and_self,if_true];refine X3 (Sx _ _ _ _ (by simp) λjs d hj=>?_)
   obtain⟨ys,hy1,hy2,hy3⟩:=SE es hj;have hjl:js.length=es.size:=by rw[hj.length_eq,YW]
   refine X3 (wpAny_newTuple ?_ (by rw[X7];lia))
   refine rest _ _ _ (Xr _ ho) ⟨_,rfl,"set_iterator",_,⟨_,XR _ rfl,rfl⟩,slot_setiter_next.lookup,?_⟩;have hPne:s.heap.objs.size≠(s.heap.push {cls:=.type "tuple",data:=.seq (js.map fun i:Nat=>Y4 i).toArray}).objs.size:=by rw[Ug];lia
   have hSne:S≠(s.heap.push {cls:=.type "tuple",data:=.seq (js.map fun i:Nat=>Y4 i).toArray}).objs.size:=by rw[Ug];exact XH (Vd hSl)
   have hIle:s.heap.objs.size≤(s.heap.push {cls:=.type "tuple",data:=.seq (js.map fun i:Nat=>Y4 i).toArray}).objs.size:=by rw[Ug];lia
   refine hQ _ _ d ⟨[_,S,s.heap.objs.size],es.size,ys.map (·.2),_,λA' hh=>SD hh (S:=S) (P:=s.heap.objs.size) (o:=o) (js:=js)
    (op:={cls:=.type "tuple",data:=.seq (js.map fun i:Nat=>Y4 i).toArray}) hSne hPne hd hf rfl rfl hjl ?_,
    ⟨⟨_,XR _ rfl,rfl,rfl⟩,Xr _ (Xr _ ho),Xr _ (XR _ rfl)⟩,?_,?_,?_,λb hb=>?_,?_⟩
    λb o e=>Xr _ (Xr _ e)
   ·intro i j hij;obtain⟨e,he,hy⟩:=hy3 i j hij;exact⟨e,he,by rw[Xo,hy];rfl⟩
   ·rw[X7,hy2,hjl]
   ·rw[Y9];exact(hy1.map _).trans hp
   ·intro v hv;obtain⟨e,he,rfl⟩:=XU.mp hv;exact hst e (hy1.mem_iff.mp he)
   ·simp only[Xu,Yd,or_false]at hb;rcases hb with rfl|rfl|rfl
    ·exact .inr hIle
    ·exact .inl rfl
    ·exact .inr (Xl _)
   ·exact hIle
  ·rw[decide_eq_false h1];simp only[CW,Yt,if_false];refine X3 (Xb ?_);have hfp:t.place.size=es.size:=by
    simp only[SetTable.fits,YA,beq_iff_eq,decide_eq_true_eq]at hf;exact hf.1
   refine small (λi sl=>(i=0->sl=0)/\(i=1->∃h:0<t.place.size,sl=t.place[0]+1)) (es.toList.map (·.2)) ⟨λ_=>rfl,λz=>absurd z (by lia)⟩ (by simp) ?_ ?_ (.inr ⟨by lia,hlt⟩) ?_ s rfl
   ·rw[Y9];exact hp
   ·intro v hv;obtain⟨e,he,rfl⟩:=XU.mp hv;exact hst e he
   ·intro i sl ⟨g0,g1⟩;unfold Nx;rw[if_neg hbt];refine⟨λhi=>?_,λhi=>?_⟩
    ·have hs1:es.size=1:=by lia
     have hi0:i=0:=by lia
     subst hi0;have hpz:t.place.size=1:=by lia
     rw[g0 rfl,HM hpz,if_neg (by lia),VD (by lia),VD (by lia)]
     refine⟨_,_,rfl,?_,λz=>absurd z (by lia),λ_=>⟨by lia,rfl⟩⟩
     simp[hs1]
    ·have hnone:es[BJ t.place sl]?=none:=by
      by_cases h0:es.size=0
      ·exact D4 (by lia)
      ·have hs1:es.size=1:=by lia
       obtain⟨hq,e⟩:=g1 (by lia)
       rw[e,HM (by lia),if_pos (by lia)]
       exact D4 (by lia)
     rw[hnone]
end
section
variable{prog:Xm}{w:Xj}{A:Xs}{E:X0->X1->Prop}{s:X1}
theorem SH{S:Addr}{o:Obj}{zs:List Str}{Q:List X0->X1->Prop}(hh:A.handled=none)(ho:s.heap.get? S=some o)(hS:WSet prog w o zs)
  (hQ:∀(vs:List X0) (h':Heap) (d:Drawn) (g:Array UI) tk,(vs.map txt).Perm zs->(∀v∈vs,∃t,v=XI (txt v) t)->(∀b o,s.heap.get? b=some o->h'.get? b=some o)->g=s.gens->s.heap.objs.size≤h'.objs.size->
   Q vs {s with heap:=h',drawn:=d,gens:=g,toks:=tk}):X4 (X9 prog w) A (collect (.ref S)) Q E s:=by
 obtain⟨hex,es,ep,t,hd,hel,hp,hb,hf,hled,hpl⟩:=id hS;have hSl:S<s.heap.objs.size:=Xv ho;have hsl:sizeLine=16777216:=by decide
 have hsb:scanBound=4096:=rfl;have hsz:es.size=zs.length:=by rw[<- hp.length_eq,X7,XW]
 unfold collect;refine X3 (wpAny_runValue (Za F.entry_proto_collect ?_));rw[Uh F.plain_proto_collect _];show X4 _ A.in1 (newList [] >>= fun l=>again (.builtin "list.__iadd__" ⟨[l,.ref S],[]⟩)) _ _ s;refine X3 (UK ?_);refine Xb ⟨Ub F.plain_list_iadd _,Za F.entry_list_iadd ?_⟩;rw[Uh F.plain_list_iadd _];show X4 _ A.in1 (Gj (.ref s.heap.objs.size) (.ref S) (.ref s.heap.objs.size)) _ _ _;have hne:s.heap.objs.size≠S:=(XH hSl).symm;generalize hL:s.heap.objs.size=L at*;have hgL:(s.heap.push {cls:=.type "list",data:=.seq ([]:List X0).toArray}).get? L=some {cls:=.type "list",data:=.seq ([]:List X0).toArray}:=by
  rw[<- hL];exact XR _ rfl
 have hgS:(s.heap.push {cls:=.type "list",data:=.seq ([]:List X0).toArray}).get? S=some o:=Xr _ ho;have hbig:(s.heap.push {cls:=.type "list",data:=.seq ([]:List X0).toArray}).objs.size=L+1:=by rw[Ug,hL]
 have hold:∀b u,s.heap.get? b=some u->b≠L/\(s.heap.push {cls:=.type "list",data:=.seq ([]:List X0).toArray}).get? b=some u:=fun b u e=>
  ⟨by rw[<- hL];exact XH (Xv e),Xr _ e⟩
 generalize s.heap.push {cls:=.type "list",data:=.seq ([]:List X0).toArray}=h₁ at*;have hT:Ad {s with heap:=h₁} (.ref S) "set":=⟨o,hgS,hex.1⟩;unfold Gj;refine X3 (Uq hT ?_);have e1:Gk (.ref L) (.ref S)=false:=by simp[Gk,hne]
 have e2:(XJ "set"==XJ "list")=false:=by decide
 have e3:(XJ "set"==XJ "tuple")=false:=by decide
 simp only[e1,e2,e3,Bool.or_false,Yt,if_false];refine X3 (SG (s:={s with heap:=h₁}) hgS hS λI h₂ d hW hk=>?_);obtain⟨fp,n,vs,St,hWk,hst,hvn,hvp,hvs,hfp,hI⟩:=hW;have hk':∀b u,h₁.get? b=some u->h₂.get? b=some u:=hk;have hT2:Ad {s with heap:=h₂,drawn:=d} (.ref S) "set":=⟨o,hk' _ _ hgS,hex.1⟩;refine X3 (YL ?_);unfold Builtin.List.listLengthHint;refine X3 (wpAny_specialOf hT2 F.slot_set_len.lookup ?_);have hsp:splitId "set.__len__"=some ("set","__len__"):=by decide+kernel
 extract_lets j1 j2
 dsimp -zeta only;rw[hsp];dsimp -zeta only;refine X3 (V5 hT2 sub_set_self ?_);simp only[A8,Yt,if_false];show X4 _ _ (ite (_=true) _ _) _ _ _;split
 case isFalse hs=>exact absurd (by rfl) hs
 refine X3 (Uq hT2 ?_);refine Xb ?_;split
 case isFalse hs=>exact absurd (by rfl) hs
 refine X3 (V6 ?_);refine X3 ?_;have hS₁:h₂.get? L=some {cls:=.type "list",data:=.seq ([]:List X0).toArray}:=hk' _ _ hgL;show X4 _ A.in1 (updateSeq L (·.push .none)>>= λ_=>updateSeq L (·.pop)) _ _ _;refine X3 (wpAny_updateSeq hS₁ rfl ?_);have hS₂:=VA (UP (·.push Xw)) hS₁ rfl;refine wpAny_updateSeq hS₂ rfl ?_;have hS₃:=VA (UP (·.pop)) hS₂ rfl;have oth:∀b o,b≠L->h₂.get? b=some o->((h₂.update L (UP (·.push Xw))).update L (UP (·.pop))).get? b=some o:=
  λb o hb e=>(Wg _ _ (Ui hb)).trans ((Wg _ _ (Ui hb)).trans e)
 have hLf:L∉fp:=λz=>by
  rcases hfp L z with e|e
  ·exact hne e
  ·have:L+1≤L:=hbig▸e;lia
 have hin:A.in1.handled=none:=by simp[hh]
 have W:=(hWk A.in1 hin).toS;have hn:n≤sizeLine:=by
  have:n=zs.length:=by rw[<- hvn,<- hvp.length_eq,X7]
  lia
 refine Xb ⟨Ub F.plain_extend_loop _,codeAny_extend_loopS W hn L hLf _ n 0 _ _ _ rfl (YN _)
  (W.frame 0 ({s with heap:=h₂,drawn:=d}:X1) _ s.toks hst (Xl _) λb hb o e=>oth b o (λz=>hLf (z▸hb)) e) hS₃ (ItemsOf.nil _) λs' acc' c' hm hS' hacc=>?_⟩
 show X4 _ A (load L >>= _) _ _ s';refine X3 (W6 hS' ?_);have hav:acc'.toList=vs:=by
  refine A1 λi=>?_;by_cases hi:i<acc'.size
  ·have e:=hacc.2 i acc'[i] (by simp[hi])
   rw[e];simp[hi]
  ·rw[Ud (by simp;lia),Ud (by have:=hacc.1;lia)]
 obtain⟨h',g',d',tk',os'⟩:=s';have eg:g'=s.gens:=hm.gens;have ed:d'=d:=hm.drawn;have eo:os'=s.os:=hm.os;subst ed;subst eo;refine Xb ?_;show Q acc'.toList _;rw[hav];refine hQ vs h' _ g' tk' hvp hvs (λb u e=>?_) eg (Bv (Xv hS'));have hbL:=hold b u e;refine hm.heap b u ?_ (oth b u hbL.1 (hk' b u hbL.2));simp only[Xu,Yd,or_false,not_or];refine⟨hbL.1,λz=>?_⟩;have h1:L+1≤I:=Y3 (Wj hbig.symm) hI;have h2:b<L:=by rw[<- hL];exact Xv e
 rw[z]at h2;exact absurd h1 (Nat.not_le_of_lt (Vd h2))
theorem SI{S:Addr}{o:Obj}{zs:List Str}{Q:X0->X1->Prop}(hh:A.handled=none)(ho:s.heap.get? S=some o)(hS:WSet prog w o zs)(h64:zs.length<64)
  (h:∀(p:Addr) (h':Heap) (d:Drawn) tk (out:List X0) (ss:List Str) (e:Nat),s.heap.objs.size≤p->(∀b o,s.heap.get? b=some o->h'.get? b=some o)->h'.get? p=some (seqObj "list" out.toArray e)->
   StrsAre out ss->ss.Perm zs->sortedS ss=true->Q (.ref p) {s with heap:=h',drawn:=d,toks:=tk}):
  X4 (X9 prog w) A (call (.builtin "sorted") [.ref S]) Q E s:=by
 refine Calls.call_function_entry kind_sorted plain_sorted entry_sorted (args_sorted1 _) ?_;unfold Builtin.«sorted»;refine X3 (m:=checkCount "sorted" 1 1 _) (Xb ?_);have hsl:sizeLine=16777216:=by decide
 refine X3 (SH (by simp[hh]) ho hS λvs h₁ d g tk hp hv hk hg hle=>?_)
 subst hg;have hl:vs.length=zs.length:=by rw[<- hp.length_eq,X7]
 refine X3 (wpAny_newList ?_ (by lia))
 have hoL:(h₁.push (seqObj "list" vs.toArray 0)).get? h₁.objs.size=some (seqObj "list" vs.toArray 0):=XR _ rfl;have hS':StrsAre vs (vs.map strOf):=strsAre_map vs λv hm=>by obtain⟨t,e⟩:=hv v hm;exact⟨_,t,e⟩
 have hto:vs.map strOf=vs.map txt:=List.map_congr_left λv hm=>by obtain⟨t,e⟩:=hv v hm;rw[e];rfl
 show X4 _ _ _ _ _ {s with heap:=h₁.push (seqObj "list" vs.toArray 0),drawn:=d,toks:=tk};refine X3 (YL (Z9 slot_list_sort ⟨_,hoL,rfl⟩ entry_list_sort (list_sort_treeK strKind_oneLt hoL hS'.keysOf (λv₁ v₂ rest e=>keyKind_strs (by rw[<- e];exact hS')) (by lia) λst' a1 a2=>⟨_,rfl,?_⟩) (args_list_sort _)))
 obtain⟨ss',z1,z2,z3⟩:=sorted_out_str hS' a1 a2;refine Xb ⟨_,rfl,?_⟩;obtain⟨e,he⟩:=sortedHeap_at (out:=(arrOf st').map (·.2)) hoL;refine h h₁.objs.size _ d tk ((arrOf st').map (·.2)).toList ss' e hle (λb o hb=>?_) (by rw[Array.toArray_toList];exact he) z1 (by rw[hto]at z2;exact z2.trans hp) z3
 have hb1:=hk b o hb;have hlt:b<h₁.objs.size:=Xv hb1;rw[sortedHeap_old (XH hlt) (by rw[size_push'];exact Vd hlt)]
 exact Xr _ hb1
end
theorem Inv.drew{X:Cx}{pins:List (Addr×Obj)}{σ:St}{H:Hp}{s:X1}(I:Inv X pins σ H s)(d:Drawn):Inv X pins σ H {s with drawn:=d}:=
 ⟨I.ok,I.os,I.bare,I.base,I.loc,I.cell,I.free,I.freeC,I.pin,I.hok,I.len⟩
theorem few{zs:List Str}(nd:zs.Nodup):∀(N:List Str),(∀z∈zs,z∈N)->zs.length≤N.length:=by
 induction zs with
 |nil=>intro N _;exact YN _
 |cons z zs ih=>
  intro N h;rw[YH]at nd;have hz:=h z Ya;have hp:=List.perm_cons_erase hz;have:=ih nd.2 (N.erase z) λy hy=>by
   have:=hp.mem_iff.mp (h y (Y5 _ hy));rcases Xu.mp this with e|e
   ·exact absurd (e▸hy) nd.1
   ·exact e
  have hl:=hp.length_eq;simp only[YG]at hl ⊢;lia
theorem HN:∀{vs:List X0} {ss:List Str},StrsAre vs ss->Vals (ss.map V.str) vs
 |_,_,.nil=>.nil
 |_,_,.cons x t h=>.cons ⟨t,rfl⟩ (HN h)
noncomputable def Wv(X:Cx)(f g:X0)(r:V->Hp->VK->Prop):Prop:=
 ∀(pins:List (Addr×Obj)) (s:X1) (σ:St) (H:Hp) (x:V) (u:X0) (Q:VK),Inv X pins σ H s->RelV x u->r x H Q->
  X4 (X9 X.prog X.w) X.A (call g [u]) (λv s1=>X4 (X9 X.prog X.w) X.A (call f [v]) (EP X pins σ Q) X.xe s1) X.xe s
section
variable{X:Cx}
theorem Dx{x y:Str}{id T:String}{r:V->Hp->VK->Prop}{e:Expr}{t:TE}{p p' pos pos':Pos}(hc:Wv X (.builtin id) (.type T) r)
  (hg:Gl X x) (hm:X.mg x=none) (hv:YF x=some (.builtin id)) (hg':Gl X y) (hm':X.mg y=none) (hv':YF y=some (.type T)) (ha:PE X e t)
  (hn:x≠"__name__") (hdb:(x==("__debug__":Str))=false) (hn':y≠"__name__") (hdb':(y==("__debug__":Str))=false)
  (he:XL [e] X.env=(false,eval e X.env)::XL [] X.env):
  PE X (.Call (.Name x p) [.Call (.Name y p') [e] [] pos'] [] pos) (λσ H Q=>t σ H λv H1=>r v H1 Q):=by
 intro pins s σ H Q I h;refine Vu (Uz I hg hm hv ?_ hn hdb);refine FX ?_ rfl rfl;show X4 _ _ (spliced ((false,eval (.Call (.Name y p') [e] [] pos') X.env)::Ys pos (XL [] X.env))) _ _ s;refine Ab ?_;refine Vu (Uz I hg' hm' hv' ?_ hn' hdb');refine VF ?_ he rfl;rw[he];show X4 _ _ (spliced ((false,eval e X.env)::Ys pos' (XL [] X.env))) _ _ s;refine Ab (thn (ha pins s σ H _ I h) λu s1 ⟨v,H1,I1,r1,q1⟩=>?_);refine Ac ?_;exact thn (hc pins s1 σ H1 v u Q I1 r1 q1) λu2 s2 q2=>Ac q2
theorem SJ(hcalm:X.calm=true):Wv X (.builtin "sorted") (.type "set") (fun x H Q=>∃(a:Addr) (xs N:List Str),x=.ref a/\SqL X.K H a (xs.map V.str)/\xs.length+1<scanBound/\(∀z∈xs,z∈N)/\N.length<64/\
  ∀p (ys:List Str),H p=none->ys.Nodup->(∀y,y∈ys↔y∈xs)->sortedS ys=true->Q (.ref p) (upd H p (.lst (ys.map V.str)))):=by
 intro pins s σ H x u Q I rx h;obtain⟨a,xs,N,rfl,ha,hlen,hN,hN64,q⟩:=h;cases rx;obtain⟨its,rv,p,hz⟩:=I.list ha;have hh:=I.ok.hd hcalm;have hil:its.length=xs.length:=by rw[<- rv.length,X7]
 have hsz:its.toArray.size=xs.length:=by simp[hil]
 have hi:∀(i:Nat) (v:X0),its.toArray[i]?=some v->∃t,v=XI (xs.getD i ⟨#[]⟩) t:=λi v hv=>by
  have hv':its[i]?=some v:=by simpa using hv
  have hlt:i<xs.length:=by rw[<- hil];exact(XE.mp hv').1
  obtain⟨u,hu,ru⟩:=rv.get (i:=i) (x:=V.str xs[i]) (by simp[hlt])
  rw[hv']at hu;cases hu;obtain⟨t,rfl⟩:=ru;exact⟨t,by simp[Va,hlt]⟩
 have hmem:∀y,y∈met (λi=>xs.getD i ⟨#[]⟩) xs.length↔y∈xs:=λy=>by
  rw[Dw,List.mem_iff_getElem];constructor
  ·rintro⟨j,hj,rfl⟩;exact⟨j,hj,by simp[Va,hj]⟩
  ·rintro⟨j,hj,rfl⟩;exact⟨j,hj,by simp[Va,hj]⟩
 refine HE (f:=λi=>xs.getD i ⟨#[]⟩) hh p.isList hi (by rw[hsz];exact hlen) λh1 tk1 o ho hS hk=>?_
 rw[hsz]at hS;have I1:Inv X pins σ H {s with heap:=h1,toks:=tk1}:=I.kept λb u e=>hk b u (Xv e) e;have nd:=Dv (λi=>xs.getD i ⟨#[]⟩) xs.length;refine SI (s:={s with heap:=h1,toks:=tk1}) hh ho hS (Nat.lt_of_le_of_lt (few nd N λz hz=>hN z ((hmem z).mp hz)) hN64) λp2 h2 d tk2 out ss e hp hk2 hp2 ho2 hperm hsort=>?_;have hlen2:ss.length≤sizeLine:=by
  have hsl:sizeLine=16777216:=by decide
  have:=few nd N λz hz=>hN z ((hmem z).mp hz);rw[hperm.length_eq];lia
 have I2:=(I1.laid (a:=p2) (t':=tk2) (h':=h2) (o:=.lst (ss.map V.str)) (λb u e=>hk2 b u e) hp
  ⟨by rw[X7];exact hlen2,out,e,HN ho2,hp2⟩).drew d
 exact⟨.ref p2,_,I2,rfl,q p2 ss (I1.hok.fresh hp) (hperm.nodup_iff.mpr nd) (λy=>(hperm.mem_iff).trans (hmem y)) hsort⟩
end
theorem SK:W7 (.type "list") "keys"=pure none:=by rw[W9,Wa];kernel_rfl
theorem SL:W7 (.type "list") "__getattr__"=pure none:=by rw[W9,Wa];kernel_rfl
theorem Ww:isSubtype (.type "AttributeError") (.type "AttributeError")=pure true:=by rw[isSubtype_type];kernel_rfl
section
variable{prog:Xm}{w:Xj}{A:Xs}{E:X0->X1->Prop}{h:Heap}{g:Array UI}{d:Drawn}{t:Nat}{os:OsState}{a:Addr}{its:Array X0}{n:Nat}
theorem SM{tk:Tok}{Q:Fin->X1->Prop}(hx:h.get? a=some (seqObj "list" its n))(hh:A.handled=none)
  (hE:∀e h' t',(∀b o,h.get? b=some o->h'.get? b=some o)->(∃o,h'.get? e=some o/\o.cls=.type "AttributeError")->E (.ref e) ⟨h',g,d,t',os⟩):
  X4 (X9 prog w) A (Builtin.«object.__getattribute__» ⟨[.ref a,.str "keys" tk],[]⟩) Q E ⟨h,g,d,t,os⟩:=by
 have hT:(⟨h,g,d,t,os⟩:X1).TypeIs (.ref a) "list":=⟨_,hx,rfl⟩;have f4:=SK;unfold Builtin.«object.__getattribute__»
 repeat (any_goals (first|assumption|wp_step))
 have hmsg:¬(XX (toString "'"++toString ((Wo "list").elim "list" fun x=>x.tpName)++toString "' object has no attribute '")++XX "keys"++XX "'").length>sizeLine:=by decide+kernel
 generalize(XX (toString "'"++toString ((Wo "list").elim "list" fun x=>x.tpName)++toString "' object has no attribute '")++XX "keys"++XX "'")=msg at hmsg ⊢;unfold raiseAttrError;refine X3 ?_;unfold mkStr;rw[if_neg hmsg]
 repeat (any_goals (first|assumption|wp_step))
 show X4 _ _ (isSubtype (.type "AttributeError") (.type "AttributeError")) _ _ _;rw[Ww];generalize(if((Wo "AttributeError").elim false fun t=>t.mro.contains "StopIteration"||t.mro.contains "SystemExit")=true then [XI msg t].headD Xw else Xw)=fm;refine Xb ?_;simp only[A8,Yt,if_false];have hoE:((h.push {cls:=XJ "tuple",data:=Z5 #[XI msg t]}).push {cls:=XJ "AttributeError",data:=Ux (#[XC h.objs.size,Xw,Xw,Xw,Yj false,fm]++YV (XJ "AttributeError") [XI msg t])}).get? (h.push {cls:=XJ "tuple",data:=Z5 #[XI msg t]}).objs.size=some {cls:=XJ "AttributeError",data:=Ux (#[XC h.objs.size,Xw,Xw,Xw,Yj false,fm]++YV (XJ "AttributeError") [XI msg t])}:=XR _ rfl;have e6:(#[XC h.objs.size,Xw,Xw,Xw,Yj false,fm]++YV (XJ "AttributeError") [XI msg t])[6]?=some (.int 0 0):=rfl;have e7:(#[XC h.objs.size,Xw,Xw,Xw,Yj false,fm]++YV (XJ "AttributeError") [XI msg t])[7]?=some (.int 0 0):=rfl;have old:∀b o,h.get? b=some o->((h.push {cls:=XJ "tuple",data:=Z5 #[XI msg t]}).push {cls:=XJ "AttributeError",data:=Ux (#[XC h.objs.size,Xw,Xw,Xw,Yj false,fm]++YV (XJ "AttributeError") [XI msg t])}).get? b=some o/\b<(h.push {cls:=XJ "tuple",data:=Z5 #[XI msg t]}).objs.size:=fun b o e=>
  ⟨Xr _ (Xr _ e),by rw[Ug];exact Vd (Xv e)⟩
 generalize(h.push {cls:=XJ "tuple",data:=Z5 #[XI msg t]}).objs.size=ea at*;generalize((h.push {cls:=XJ "tuple",data:=Z5 #[XI msg t]}).push {cls:=XJ "AttributeError",data:=Ux (#[XC h.objs.size,Xw,Xw,Xw,Yj false,fm]++YV (XJ "AttributeError") [XI msg t])})=h2 at*;generalize hvs:#[XC h.objs.size,Xw,Xw,Xw,Yj false,fm]++YV (XJ "AttributeError") [XI msg t]=vs at*;refine X3 (W6 hoE ?_);dsimp only;rw[e6,e7];simp only[Wh,Yt,if_false];rw[if_neg (by decide)]
 refine Xb ?_;simp only[if_true];have hT2:(⟨h2,g,d,t+1+1,os⟩:X1).TypeIs (.ref ea) "AttributeError":=⟨_,hoE,rfl⟩;refine X3 (V6 ?_);refine X3 (Uq hT2 ?_);dsimp only;unfold layMembers;refine X3 (W6 hoE ?_);dsimp only;refine wpAny_update hoE ?_;unfold raiseNew;refine X3 (wpAny_handled ?_);rw[hh];show X4 _ _ (throw (XC ea)) _ _ _;have hup:=VA (Db fun vs=>vs.extract 0 6++#[XI (XX "keys") (t+1),XC a]) hoE (D9 (BK rfl _));refine wpAny_throw (hE ea _ _ (λb o e=>?_) ⟨_,hup,Da ..⟩);have:=old b o e;exact(Wg _ _ (VB this.2)).trans this.1
theorem SN{tk:Tok}{Q:X0->X1->Prop}(hx:h.get? a=some (seqObj "list" its n))(hh:A.handled=none)
  (hE:∀e h' t',(∀b o,h.get? b=some o->h'.get? b=some o)->(∃o,h'.get? e=some o/\o.cls=.type "AttributeError")->E (.ref e) ⟨h',g,d,t',os⟩):
  X4 (X9 prog w) A (getAttrBy (.ref a) (.str "keys" tk) false) Q E ⟨h,g,d,t,os⟩:=by
 have hT:(⟨h,g,d,t,os⟩:X1).TypeIs (.ref a) "list":=⟨_,hx,rfl⟩;have f2:=BH.lookup;have f3:=BH.bind (.ref a)
 repeat (any_goals (first|assumption|wp_step))
 refine WW BH.plain F.entry_list_ga (BH.check _ _ _ _ _ _ _ _ hT (F.args_list_getattribute_2 _ _) (SM hx (by simp[hh]) λe h' t' k ho=>?_))
 have hTe:(⟨h',g,d,t',os⟩:X1).TypeIs (.ref e) "AttributeError":=ho;show X4 _ _ (Be _ _ _ _ _ _ _) _ _ _;unfold Be;refine X3 (V5 hTe Ww ?_);simp only[if_true];unfold hookBehind onTheHeap;simp only[Yt,if_false];rw[SL];refine X3 (Xb ?_);unfold hookOrError attributeErrorLeaves;simp only[Br,if_true];exact X3 (wpAny_throw (hE e h' t' k ho))
theorem SO{Q:Option X0->X1->Prop}{s:X1}(hx:s.heap.get? a=some (seqObj "list" its n))(hh:A.handled=none)
  (hQ:∀h' t',(∀b o,s.heap.get? b=some o->h'.get? b=some o)->Q none {s with heap:=h',toks:=t'}):X4 (X9 prog w) A (getAttr? (.ref a) "keys") Q E s:=by
 obtain⟨h,g,d,t,os⟩:=s;unfold getAttr? getAttrBy? mkText;refine X3 (X3 (wpAny_fresh (Xb ?_)));refine X3 (wpAny_attempt (SN hx hh λe h' t' k ho=>?_));have hTe:(⟨h',g,d,t',os⟩:X1).TypeIs (.ref e) "AttributeError":=ho;refine X3 (V5 hTe Ww ?_);simp only[if_true];exact Xb (hQ h' t' k)
end
theorem HP:entryFor table "dict.update.loop"=some Builtin.«dict.update.loop»:=entryFor_of_tree (by kernel_rfl)
theorem Ap:plainId "dict.update.loop"=true:=by decide+kernel
section
variable{prog:Xm}{w:Xj}{A:Xs}{E:X0->X1->Prop}{s:X1}{K:Type} [DecidableEq K] {knd:KeyKind prog w K}
noncomputable def stTo(ks:Nat->K)(vs:Nat->X0):Nat->List (K×X0)
 |0=>[]
 |i+1=>stored (stTo ks vs i) (ks i) (vs i)
theorem SQ(kvs:List (K×X0))(k:K)(v:X0):(stored kvs k v).length≤kvs.length+1:=by
 unfold stored;split<;>simp
theorem BU(ks:Nat->K)(vs:Nat->X0):∀i,(stTo ks vs i).length≤i
 |0=>Xl _
 |i+1=>Y3 (SQ _ _ _) (Nat.succ_le_succ (BU ks vs i))
theorem HQ{R:Result->X1->Prop}{I:Addr}{fp wr:List Addr}{G:Array UI->Array UI->Prop}{n:Nat}{P:Nat->X0->Prop}{St:Nat->X1->Prop}
  (W:WalksS prog w A.in1 I fp wr G n P St) (D:Addr) (hDf:D∉fp) (ks:Nat->K) (vs:Nat->X0) (hb:n≤sizeLine):
  ∀(k i:Nat) (s:X1),n - i=k->i≤n->St i s->s.heap.DictOf knd D (stTo ks vs i)->
   (∀j v,P j v->∃q uk np oq,v=.ref q/\q≠D/\q∉wr/\s.heap.get? q=some oq/\oq.cls=.type "tuple"/\oq.data=.seq #[uk,vs j] np/\knd.is (ks j) uk=true)->
   (∀s',Moved (D::wr) G s s'->s'.heap.DictOf knd D (stTo ks vs n)->R (.ok (.ret .none)) s')->
   Z7 (X9 prog w) A (.builtin "dict.update.loop" ⟨[.ref D,.ref I,Y4 (i:Nat),.none],[]⟩) R s:=by
 have hDw:D∉wr:=λh=>hDf (W.sub _ h);have hsub:∀b∈wr,b∈D::wr:=λb hb=>Y5 _ hb;intro k
 induction k with
 |zero=>
  intro i s hk hi hst hd ht hR;have hin:i=n:=by lia
  subst hin;refine Za HP ?_;rw[Uh Ap _];show X4 _ A.in1 (pyNext (.ref I)>>= _) _ _ s;refine X3 (W.done s _ _ hst λs' hm=>?_);refine X3 (m:=Builtin.Dict.addKeywords D []) (Xb ?_);refine Xb (hR s' (hm.mono hsub) ?_);obtain⟨o,es,ep,ho,r⟩:=hd;exact⟨o,es,ep,hm.heap D _ hDw ho,r⟩
 |succ k ih=>
  intro i s hk hi hst hd ht hR;have hlt:i<n:=by lia
  refine Za HP ?_;rw[Uh Ap _];show X4 _ A.in1 (pyNext (.ref I)>>= _) _ _ s;refine X3 (W.item i s _ _ hlt hst λv s' hP hst' hm=>?_);obtain⟨q,uk,np,oq,rfl,hqD,hqw,hq,hqc,hqd,hkey⟩:=ht i v hP;have hq':=hm.heap q _ hqw hq;have hd':s'.heap.DictOf knd D (stTo ks vs i):=by
   obtain⟨o,es,ep,ho,r⟩:=hd;exact⟨o,es,ep,hm.heap D _ hDw ho,r⟩
  have hT:s'.TypeIs (.ref q) "tuple":=⟨_,hq',hqc⟩;show X4 _ A.in1 (holding [XC q] _ >>= _) _ _ s';refine X3 (YL ?_);refine X3 (wpAny_tryCatch ?_);unfold Builtin.Dict.pairItems;refine X3 (Uq hT ?_);have e2:(XJ "tuple"==XJ "tuple")=true:=rfl;rw[e2,Bt,if_pos rfl];refine X3 (wpAny_seqItems hq' hqd (Xb ?_));show X4 _ A.in1 (holding [uk,vs i] (dictSet D uk (vs i))) _ _ s';refine YL ?_;have hl:=BU ks vs i;refine wpAny_dictSet_pairs (knd:=knd) hkey hd' (λh' hd2 hsb=>?_) (by lia)
  refine Xb ⟨Ub Ap _,?_⟩;have:=ih (i+1) {s' with heap:=h',toks:=s'.toks+1} (by lia) hlt (W.frame _ s' _ _ hst' (Ve _) λb hb o e=>?_) hd2 (λj v hPj=>?_) λs'' hm'' hd''=>?_
  ·exact this
  ·rw[hsb.2 b (λz:b=D=>hDf (by rw[<- z];exact hb))];exact e
  ·obtain⟨q,uk,np,oq,rfl,a1,a2,a3,a4⟩:=ht j v hPj;exact⟨q,uk,np,oq,rfl,a1,a2,(hsb.2 q a1).trans (hm.heap q _ a2 a3),a4⟩
  ·refine hR s'' (Moved.trans W.gtrans ((hm.mono hsub).then_heap (Ve _) λb o hb e=>?_) hm'') hd'';rw[hsb.2 b (λz:b=D=>hb (by rw[z];exact Ya))];exact e
theorem SR{l:Addr}{items:Array X0}{nl:Nat}{ks:Nat->K}{vs:Nat->X0}{Q:X0->X1->Prop}(hh:A.handled=none)(hl:s.heap.get? l=some (seqObj "list" items nl))(hn:items.size≤sizeLine)
  (ht:∀(j:Nat) v,items[j]?=some v->∃q uk np oq,v=.ref q/\s.heap.get? q=some oq/\oq.cls=.type "tuple"/\oq.data=.seq #[uk,vs j] np/\knd.is (ks j) uk=true)
  (h:∀h' tk,h'.DictOf knd s.heap.objs.size (stTo ks vs items.size)->(∀b o,b<s.heap.objs.size->s.heap.get? b=some o->h'.get? b=some o)->Q (.ref s.heap.objs.size) {s with heap:=h',toks:=tk}):
  X4 (X9 prog w) A (call (.type "dict") [.ref l]) Q E s:=by
 refine callType_codes (Q₁:=fun obj s₁=>obj=.ref s.heap.objs.size/\s₁={s with heap:=s.heap.push {cls:=.type "dict",data:=.dict #[]} }) F.kt_called_dict (F.kt_typeCall_dict_1 _) F.entry_dict_init (kt_code_dict_new _ ⟨rfl,rfl⟩) ?_;rintro obj s₁ ⟨rfl,rfl⟩;have hnew:(s.heap.push {cls:=.type "dict",data:=.dict #[]}).DictOf knd s.heap.objs.size []:=Gw s.heap;have hl':(s.heap.push {cls:=.type "dict",data:=.dict #[]}).get? l=some (seqObj "list" items nl):=Xr _ hl;have hT:Ad {s with heap:=s.heap.push {cls:=.type "dict",data:=.dict #[]} } (.ref l) "list":=⟨_,hl',rfl⟩;refine⟨hnew.typeIs,F.args_dict_init_2 _ _,?_⟩;unfold Builtin.«dict.__init__»;refine X3 ?_;unfold G3;refine X3 (Bc hnew.typeIs ?_);show X4 _ _ (pure (s.heap.objs.size,[XC l])) _ _ _;refine Xb ?_;show X4 _ _ (BF "dict.__init__" s.heap.objs.size (.ref l) [] .none) _ _ _;unfold BF;refine X3 (Uq hT ?_);rw[if_pos (by decide)]
 refine X3 (SO (s:={s with heap:=s.heap.push {cls:=.type "dict",data:=.dict #[]} }) hl' (by simp[hh]) fun h1 t1 hk1=>?_)
 simp only[Option.isNone_none,if_true];refine X3 (V6 ?_);have hl1:h1.get? l=some (seqObj "list" items nl):=hk1 _ _ hl';have hL1:h1.IsList l items:=⟨_,hl1,rfl,nl,rfl⟩;have hlS:l<s.heap.objs.size:=Xv hl;have hbig:s.heap.objs.size<h1.objs.size:=by
  obtain⟨o,es,ep,ho,_⟩:=hnew;exact Xv (hk1 _ _ ho)
 refine X3 (Bd (s:={s with heap:=h1,toks:=t1}) hL1 ?_);have hneI:l≠h1.objs.size:=XH (VC hlS hbig);refine Xb ⟨Ub Ap _,?_⟩;refine HQ (knd:=knd) (n:=items.size) ((Walks.list (A:=A.in1.in1) (by simp[hh]) h1.objs.size l hneI items).toS) s.heap.objs.size ?_ ks vs hn items.size 0 _ rfl (YN _)
  ⟨⟨_,XR _ rfl,rfl,rfl⟩,hL1.push _⟩ ?_ ?_ ?_
 ·simp only[Xu,Yd,or_false,not_or];exact⟨XH hbig,VB hlS⟩
 ·obtain⟨o,es,ep,ho,r⟩:=hnew;exact⟨o,es,ep,Xr _ (hk1 _ _ ho),r⟩
 ·intro j v hv;obtain⟨q,uk,np,oq,rfl,a1,a2⟩:=ht j v hv;have hqS:q<s.heap.objs.size:=Xv a1;refine⟨q,uk,np,oq,rfl,XH hqS,?_,Xr _ (hk1 _ _ (Xr _ a1)),a2⟩;simp only[Y6];exact XH (VC hqS hbig)
 ·intro s' hm hd;obtain⟨h',g',d',tk',os'⟩:=s';have eg:g'=s.gens:=hm.gens;have ed:d'=s.drawn:=hm.drawn;have eo:os'=s.os:=hm.os;subst eg;subst ed;subst eo;refine⟨rfl,h h' tk' hd λb o hb e=>?_⟩;refine hm.heap b o ?_ (Xr _ (hk1 _ _ (Xr _ e)));simp only[Xu,Yd,or_false,not_or];exact⟨XH hb,XH (VC hb hbig)⟩
end
noncomputable def Dy(H:Hp):List (Key×V)->List V->Prop:=Paired fun(p:Key×V) (v:V)=>∃q,v=.ref q/\H q=some (.tup [kV p.1,p.2])
noncomputable def UC(ps:List (Key×V)):List (Key×V):=ps.foldl (λc z=>putK c z.1 z.2) []
theorem Paired.at{α β:Type}{R:α->β->Prop}:∀{xs:List α} {ys:List β},Paired R xs ys->∀(i:Nat) (y:β),ys[i]?=some y->∃x,xs[i]?=some x/\R x y
 |_,_,.nil,i,y,h=>by simp at h
 |_,_,.cons r _,0,y,h=>by simp at h;subst h;exact⟨_,rfl,r⟩
 |_,_,.cons _ t,i+1,y,h=>by simp at h;obtain⟨x,hx,r⟩:=Paired.at t i y h;exact⟨x,by simpa using hx,r⟩
section
variable{X:Cx}
theorem SS(hcalm:X.calm=true):CallR X (.type "dict") (fun xs H Q=>∃(a:Addr) (ps:List (Key×V)) (qs:List V),xs=[.ref a]/\H a=some (.lst qs)/\Dy H ps qs/\∀p,H p=none->Q (.ref p) (upd H p (.dK (UC ps)))):=by
 intro pins s σ H xs us Q I r h;obtain⟨a,ps,qs,rfl,ha,hp,q⟩:=h;obtain⟨u,rfl,ru⟩:=YQ r;cases ru;obtain⟨hz,its,nl,rv,hl⟩:=(show ObjOk X.prog X.w H s.heap a (.lst qs)from I.hok a _ ha);have hh:=I.ok.hd hcalm;have hlen:its.length=ps.length:=by rw[<- rv.length,hp.length]
 have hpair:∀(j:Nat) v,its.toArray[j]?=some v->∃q uk uv np oq,v=.ref q/\s.heap.get? q=some oq/\oq.cls=.type "tuple"/\oq.data=.seq #[uk,uv] np/\∃p,ps[j]?=some p/\RelV (kV p.1) uk/\RelV p.2 uv:=fun j v hv=>by
  have hv':its[j]?=some v:=by simpa using hv
  obtain⟨y,hy,ry⟩:=Paired.at rv j v hv';obtain⟨p,hpj,q,rfl,hq⟩:=Paired.at hp j y hy;cases ry;obtain⟨_,ts,rt,ht⟩:=(show ObjOk X.prog X.w H s.heap q (.tup [kV p.1,p.2])from I.hok q _ hq);obtain⟨uk,uv,rfl,r1,r2⟩:=Ws rt;obtain⟨oq,ho,hc,n,hd⟩:=ht.1;exact⟨q,uk,uv,n,oq,rfl,ho,hc,hd,p,hpj,r1,r2⟩
 obtain⟨vs,hvs⟩:∃vs:Nat->X0,∀(j:Nat) v,its.toArray[j]?=some v->∃q uk np oq,v=.ref q/\s.heap.get? q=some oq/\oq.cls=.type "tuple"/\oq.data=.seq #[uk,vs j] np/\∃p,ps[j]?=some p/\RelV (kV p.1) uk/\RelV p.2 (vs j):=by
  refine⟨λj=>if h:j<its.length then(hpair j its[j] (by simp[h])).choose_spec.choose_spec.choose else .none,λj v hv=>?_⟩
  have hv':its[j]?=some v:=by simpa using hv
  obtain⟨hj,rfl⟩:=XE.mp hv';dsimp only;rw[dif_pos hj];have z:=(hpair j its[j] (by simp[hj]))
  exact⟨z.choose,z.choose_spec.choose,z.choose_spec.choose_spec.choose_spec⟩
 refine SR (knd:=YC X.prog X.w) (ks:=λj=>(ps.getD j (.inl 0,.non)).1) (vs:=vs) hh hl (by simpa [<- rv.length]using hz) (λj v hv=>?_) λh' tk hd hk=>?_
 ·obtain⟨q,uk,np,oq,e1,e2,e3,e4,p,hpj,r1,r2⟩:=hvs j v hv;refine⟨q,uk,np,oq,e1,e2,e3,e4,VL ?_⟩;rw[Ym,hpj];exact r1
 have kv:∀i,i≤ps.length->KV ((ps.take i).foldl (λc z=>putK c z.1 z.2) []) (stTo (λj=>(ps.getD j (.inl 0,.non)).1) vs i):=by
  intro i
  induction i with
  |zero=>intro _;exact .nil
  |succ i ih=>
   intro hi;have hlt:i<its.length:=by lia
   obtain⟨q,uk,np,oq,e1,e2,e3,e4,p,hpj,r1,r2⟩:=hvs i its[i] (by simp[hlt])
   rw[UM,hpj,De,CO];show KV (putK _ p.1 p.2) (stored _ (ps.getD i (.inl 0,.non)).1 _);have ek:(ps.getD i (.inl 0,.non)).1=p.1:=by rw[Ym,hpj];rfl
   rw[ek];exact(ih (by lia)).put p.1 r2
 have kvn:=kv ps.length (Xl _);rw[Bi]at kvn;have hsz:its.toArray.size=ps.length:=by simp[hlen]
 rw[hsz]at hd;have hpl:ps.length≤sizeLine:=by rw[hp.length];exact hz
 have zl:(UC ps).length≤sizeLine:=by
  have:=kvn.length;have l2:=BU (λj=>(ps.getD j (.inl 0,.non)).1) vs ps.length;unfold UC;lia
 exact⟨.ref s.heap.objs.size,_,I.laid (a:=s.heap.objs.size) (o:=.dK (UC ps)) (t':=tk) (λb u e=>hk b u (Xv e) e) (Xl _) (BR zl (beq_eq_false_iff_ne.mpr (Ui (XH I.big))) kvn hd),rfl,q _ (I.hok.fresh (Xl _))⟩
end
section
variable{X:Cx}
theorem ST:∀(bs:List Bool),((XM bs.length).all λi=>bs.getD i true)=bs.all id:=by
 intro bs;have e:(XM bs.length).map (λi=>bs.getD i true)=bs:=by
  refine List.ext_getElem (by simp) λi h1 h2=>?_
  simp[Va,h2]
 conv=>rhs;rw[<- e]
 rw[List.all_map]
 rfl
theorem SU(hcalm:X.calm=true):CallR X (.builtin "all") (fun xs H Q=>∃(a:Addr) (bs:List Bool),xs=[.ref a]/\SqL X.K H a (bs.map V.bl)/\Q (.bl (bs.all id)) H):=by
 intro pins s σ H xs us Q I r h;obtain⟨a,bs,rfl,ha,q⟩:=h;obtain⟨u,rfl,ru⟩:=YQ r;cases ru;obtain⟨its,rv,p,hz⟩:=I.list ha;have hh:=I.ok.hd hcalm;have hil:its.length=bs.length:=by rw[<- rv.length,X7]
 have hit:∀(i:Nat) (v:X0),its.toArray[i]?=some v->v=.bool (bs.getD i true):=λi v hv=>by
  have hv':its[i]?=some v:=by simpa using hv
  have hlt:i<bs.length:=by rw[<- hil];exact(XE.mp hv').1
  obtain⟨u,hu,ru⟩:=rv.get (i:=i) (x:=V.bl bs[i]) (by simp[hlt])
  rw[hv']at hu;cases hu;rw[show v=.bool bs[i]from ru];simp[Va,hlt]
 have hlS:a<s.heap.objs.size:=by obtain⟨o,n,e,_⟩:=p;exact Xv e
 refine PySem.call_all_walk (Bd p.isList ⟨_,_,_,_,_,_,λi=>bs.getD i true,rfl,Walks.list (by simp[hh]) _ a (XH hlS) its.toArray,⟨⟨_,XR _ rfl,rfl,rfl⟩,p.isList.push _⟩,?_,λh' tk hk=>?_⟩)
 ·intro i v s Q E hP hQ;rw[hit i v hP];exact Um hQ
 ·have hsz:its.toArray.size=bs.length:=by simp[hil]
  rw[hsz,ST];refine⟨.bl _,H,I.kept (t':=tk) λb o e=>?_,rfl,q⟩;exact hk b o (by simp only[Y6];exact XH (Xv e)) (Xr _ e)
end
noncomputable def Its(x:Str):It:=⟨λi _=>i<x.cps.size,λi H v H'=>H'=H/\∃c,x.cps[i]?=some c/\v=.str ⟨#[c]⟩,λi _=>x.cps.size≤i⟩
theorem SV{P:Xm}{w:Xj}{K:X6}{tg:Expr}(it:Addr)(x:Str)(t:Tok):Turn P w K tg (Its x) [it] it (fun i h=>h.IsStrIter it "str_ascii_iterator" x t i)where
 mem:=by simp
 obj:=λi h st b hb=>by
  have e:b=it:=by simpa using hb
  subst e;obtain⟨o,e,c,d⟩:=st;exact⟨o,e,λv z=>by rw[d]at z;cases z⟩
 keep:=λi h h' st k=>by
  obtain⟨o,e,c,d⟩:=st;exact⟨o,k it (by simp) o e,c,d⟩
 item:=by
  intro X hP hw hK hc i pins s σ H E I hf st hg;subst hP hw hK;have hg:i<x.cps.size:=hg;obtain⟨f0,f1,f2,f3,f4,f5⟩:=hf it (by simp)
  refine wpAny_pyNext_ascii_item st (c:=x.cps[i]) (by simp[hg]) λh' st' sb=>?_
  have I1:Inv X pins σ H {s with heap:=h',toks:=s.toks+1}:=I.turned (λb o hb e=>(sb.2 b hb).trans e) f0 f1 f3 f4 f5;obtain⟨o,e,c,d⟩:=id st';exact⟨_,rfl,VJ (s:={s with heap:=h',toks:=s.toks+1}) e c d (by decide) ⟨.str ⟨#[x.cps[i]]⟩,H,I1,⟨_,rfl⟩,⟨rfl,_,by simp[hg],rfl⟩,st',λb hb=>(hf b hb).1⟩⟩
 done:=by
  intro X hP hw hK hc i pins s σ H E I hf st hg;subst hP hw hK;have hg:x.cps.size≤i:=hg;obtain⟨f0,f1,f2,f3,f4,f5⟩:=hf it (by simp)
  exact wpAny_pyNext_ascii_end (I.ok.hd hc) st (by simp[hg]) λh' eb=>⟨rfl,I.turned (t':=s.toks) (λb o hb e=>eb b o hb e) f0 f1 f3 f4 f5⟩
 self:=λ_ _ _ _ _ st h=>wpAny_pyIter_striter_ascii st h
theorem SW{P:Xm}{w:Xj}{K:X6}{tg:Expr}(it:Addr)(x:Str)(t:Tok):Turn P w K tg (Its x) [it] it (fun i h=>h.IsStrIter it "str_iterator" x t i)where
 mem:=by simp
 obj:=λi h st b hb=>by
  have e:b=it:=by simpa using hb
  subst e;obtain⟨o,e,c,d⟩:=st;exact⟨o,e,λv z=>by rw[d]at z;cases z⟩
 keep:=λi h h' st k=>by
  obtain⟨o,e,c,d⟩:=st;exact⟨o,k it (by simp) o e,c,d⟩
 item:=by
  intro X hP hw hK hc i pins s σ H E I hf st hg;subst hP hw hK;have hg:i<x.cps.size:=hg;obtain⟨f0,f1,f2,f3,f4,f5⟩:=hf it (by simp)
  refine wpAny_pyNext_wide_item st (c:=x.cps[i]) (by simp[hg]) λh' st' sb=>?_
  have I1:Inv X pins σ H {s with heap:=h',toks:=s.toks+1}:=I.turned (λb o hb e=>(sb.2 b hb).trans e) f0 f1 f3 f4 f5;obtain⟨o,e,c,d⟩:=id st';exact⟨_,rfl,VJ (s:={s with heap:=h',toks:=s.toks+1}) e c d (by decide) ⟨.str ⟨#[x.cps[i]]⟩,H,I1,⟨_,rfl⟩,⟨rfl,_,by simp[hg],rfl⟩,st',λb hb=>(hf b hb).1⟩⟩
 done:=by
  intro X hP hw hK hc i pins s σ H E I hf st hg;subst hP hw hK;have hg:x.cps.size≤i:=hg;obtain⟨f0,f1,f2,f3,f4,f5⟩:=hf it (by simp)
  exact wpAny_pyNext_wide_end (I.ok.hd hc) st (by simp[hg]) λh' eb=>⟨rfl,I.turned (t':=s.toks) (λb o hb e=>eb b o hb e) f0 f1 f3 f4 f5⟩
 self:=λ_ _ _ _ _ st h=>wpAny_pyIter_striter_wide st h
section
variable{X:Cx}{pins:List (Addr×Obj)}{σ:St}{H:Hp}{s:X1}
theorem SX{tg:Expr}{R:It->Hp->Prop}{E:X0->X1->Prop}{x:Str}{t:Tok}(I:Inv X pins σ H s)(q:R (Its x) H):X4 (X9 X.prog X.w) X.A (pyIter (.str x t)) (PIE X pins σ tg R) E s:=by
 have fp:∀b∈ [s.heap.objs.size],FpOk X pins H b:=λb hb=>by
  have e:b=s.heap.objs.size:=by simpa using hb
  subst e;exact I.fpOk (Xl _) (I.hok.fresh (Xl _))
 cases ha:x.cps.all (·<128)
 ·exact wpAny_pyIter_wide ha ⟨s.heap.objs.size,[s.heap.objs.size],_,_,H,rfl,I.kept (t':=s.toks) λb o e=>Xr _ e,SW _ x t,⟨_,XR _ rfl,rfl,rfl⟩,fp,q⟩
 ·exact wpAny_pyIter_ascii ha ⟨s.heap.objs.size,[s.heap.objs.size],_,_,H,rfl,I.kept (t':=s.toks) λb o e=>Xr _ e,SV _ x t,⟨_,XR _ rfl,rfl,rfl⟩,fp,q⟩
noncomputable def SY(X:Cx)(tl:TE):TI:=λσ H R=>tl σ H λx H1=>(∃a,x=.ref a/\((∃xs,SqL X.K H1 a xs/\R (Itl X.K a) H1)\/(∃xs,SqT X.K H1 a xs/\R (Itt X.K a) H1)\/∃kvs,H1 a=some (.dK kvs)/\∀o,(∀o' u',X.H₀ a≠some (.frz o' u'))->R (Itd a o) (upd H1 a (.frz o (.dK kvs)))))\/
 ∃z,x=.str z/\R (Its z) H1
theorem SZ{tg l:Expr}{tl:TE}(hl:PE X l tl):PI X tg l (SY X tl):=by
 intro pins s σ H R I h;refine thn (hl pins s σ H _ I h) λv s1 ⟨x,H1,I1,r1,q1⟩=>?_;rcases q1 with⟨a,e,q⟩|⟨z,e,q⟩
 ·subst e;cases r1;rcases q with⟨xs,hq,q⟩|⟨xs,hq,q⟩|⟨kvs,hq,q⟩
  ·obtain⟨its,rv,p,hz⟩:=I1.list hq;refine Bd p.isList ?_;refine⟨s1.heap.objs.size,[s1.heap.objs.size],_,_,H1,rfl,I1.kept (t':=s1.toks) λb o e=>Xr _ e,Qn a _,⟨_,XR _ rfl,rfl,rfl⟩,λb hb=>?_,q⟩;have e:b=s1.heap.objs.size:=by simpa using hb
   subst e;exact I1.fpOk (Xl _) (I1.hok.fresh (Xl _))
  ·obtain⟨its,rv,p,hz⟩:=I1.tuple hq;refine wpAny_pyIter_tuple (show s1.heap.IsTuple a its.toArray from p) ?_;refine⟨s1.heap.objs.size,[s1.heap.objs.size],_,_,H1,rfl,I1.kept (t':=s1.toks) λb o e=>Xr _ e,Qo a _,⟨_,XR _ rfl,rfl,rfl⟩,λb hb=>?_,q⟩;have e:b=s1.heap.objs.size:=by simpa using hb
   subst e;exact I1.fpOk (Xl _) (I1.hok.fresh (Xl _))
  ·exact Sk I1 hq q
 ·subst e;obtain⟨t,rfl⟩:=r1;exact SX I1 q
theorem T0{M:Model}{A:Xs}{E:X0->X1->Prop}{s:X1}{Q:X0->X1->Prop}{v:X0}{b:Bool}(hv:∀i,v≠.builtin i)(h:Q (.bool (v==.bool b)) s):X4 M A (Y2 .Is v (.bool b)) Q E s:=by
 cases v<;>first|exact Xb h|exact absurd rfl (hv _)
theorem T1{M:Model}{A:Xs}{E:X0->X1->Prop}{s:X1}{Q:X0->X1->Prop}{v:X0}{b:Bool}(hv:∀i,v≠.builtin i)(h:Q (.bool (!(v==.bool b))) s):X4 M A (Y2 .IsNot v (.bool b)) Q E s:=by
 cases v<;>first|exact Xb h|exact absurd rfl (hv _)
theorem HR{x:V}{v:X0}(r:RelV x v):∀i,v≠.builtin i:=λi e=>by
 subst e;cases x<;>first|(cases r;done)|(obtain⟨t,e⟩:=r;cases e)
theorem HS{x:V}{v:X0}{b:Bool}(r:RelV x v):decide (x=.bl b)=(v==Yj b):=by
 cases x<;>first
  |(cases r;rename_i c;cases b<;>cases c<;>rfl)
  |(cases r;rfl)
  |(obtain⟨t,rfl⟩:=r;rfl)
theorem T2:OpR X (Y2 .Is) (λx y H Q=>∃b,y=.bl b/\Q (.bl (decide (x=.bl b))) H):=by
 intro pins s σ H x y v u Q I rx ry h;obtain⟨b,rfl,q⟩:=h;cases ry;exact T0 (HR rx) (XO I q (HS rx))
theorem T3:OpR X (Y2 .IsNot) (λx y H Q=>∃b,y=.bl b/\Q (.bl (!decide (x=.bl b))) H):=by
 intro pins s σ H x y v u Q I rx ry h;obtain⟨b,rfl,q⟩:=h;cases ry;exact T1 (HR rx) (XO I q (by rw[HS rx]))
theorem T4{A:Xs}{E:X0->X1->Prop}{Q:X0->X1->Prop}{x:V}{u t c d:X0}{b b':Bool}{tp:Addr}{dd:Option Addr}{n:Nat}{sl:Array (Option X0)}(I:Inv X pins σ H s)(rx:RelV x u)(ty:TyOf X.K H x t)(e:Vz X.K t c=some b)(e':Vz X.K t d=some b')
  (htp:s.heap.get? tp=some ⟨.type "tuple",dd,.seq [c,d].toArray n,sl⟩) (h:∀tk,Q (.bool (b||b')) {s with toks:=tk}):X4 (X9 X.prog X.w) A (call (.builtin "isinstance") [u,.ref tp]) Q E s:=by
 have ea:Bo X.K t [c,d]=some (b||b'):=by
  unfold Bo;rw[e];cases b with
  |true=>rfl
  |false=>
   show Bo X.K t [d]=some b';unfold Bo;rw[e'];cases b'<;>rfl
 cases ty with
 |non=>cases(show u=Xw from rx);exact Uf PySem.W.kitx_none I.kIn YO htp ea (λz=>nomatch z) h
 |bl y=>cases(show u=Yj y from rx);exact Uf PySem.W.kitx_bool I.kIn YO htp ea (λz=>nomatch z) h
 |int i=>obtain⟨t,q⟩:=(show∃t,u=A9 i t from rx);cases q;exact Uf PySem.W.kitx_int I.kIn YO htp ea (λz=>nomatch z) h
 |str y=>obtain⟨t,q⟩:=(show∃t,u=XI y t from rx);cases q;exact Uf PySem.W.kitx_str I.kIn YO htp ea (λz=>nomatch z) h
 |flt y=>obtain⟨t,q⟩:=(show∃t,u=Value.float y t from rx);cases q;exact Uf PySem.W.kitx_float I.kIn YO htp ea (λz=>nomatch z) h
 | @lst a xs ea'=>
  cases(show u=XC a from rx);obtain⟨_,_,n,_,h1⟩:=(show ObjOk X.prog X.w H s.heap a (.lst xs)from I.hok a _ ea');exact Uf Bm I.kIn ⟨_,h1,rfl⟩ htp ea (λz=>nomatch z) h
 | @frz a ob xs ea'=>
  cases(show u=XC a from rx);obtain⟨_,_,_,n,_,h1⟩:=(show ObjOk X.prog X.w H s.heap a (.frz ob (.lst xs))from I.hok a _ ea');exact Uf Bm I.kIn ⟨_,h1,rfl⟩ htp ea (λz=>nomatch z) h
 | @tup a xs ea'=>
  cases(show u=XC a from rx);obtain⟨_,_,_,p⟩:=(show ObjOk X.prog X.w H s.heap a (.tup xs)from I.hok a _ ea');obtain⟨o,h1,h2,_⟩:=p.1;exact Uf PySem.W.kitx_tuple I.kIn ⟨o,h1,h2⟩ htp ea (λz=>nomatch z) h
 | @dK a kvs ea'=>
  cases(show u=XC a from rx);obtain⟨_,_,vs,_,p⟩:=(show ObjOk X.prog X.w H s.heap a (.dK kvs)from I.hok a _ ea');obtain⟨o,es,ep,h1,h2,_⟩:=p;exact Uf Bn I.kIn ⟨o,h1,h2.1⟩ htp ea (λz=>nomatch z) h
 | @dT a kvs ea'=>
  cases(show u=XC a from rx);obtain⟨_,_,xs,_,o,es,ep,h1,h2,_⟩:=(show ObjOk X.prog X.w H s.heap a (.dT kvs)from I.hok a _ ea');exact Uf Bn I.kIn ⟨o,h1,h2.1⟩ htp ea (λz=>nomatch z) h
 | @ins a C dx fs ea' cl ha hn htk hm=>
  cases(show u=XC a from rx);obtain⟨mA,O,_⟩:=GS I.hok ea';obtain⟨od,J,_⟩:=O.look;exact Uf (PySem.W.kitx_own (cl.get _) cl.hd ha hn htk hm) I.kIn J htp ea (λz=>nomatch z) h
theorem T5:CallR X (.builtin "isinstance") (fun xs H Q=>∃x a c d t b b',xs=[x,.ref a]/\H a=some (.tup [.ty c,.ty d])/\TyOf X.K H x t/\Vz X.K t (.type c)=some b/\Vz X.K t (.type d)=some b'/\Q (.bl (b||b')) H):=by
 intro pins s σ H xs us Q I r h;obtain⟨x,a,c,d,t,b,b',rfl,ha,ty,e,e',q⟩:=h;obtain⟨u,w',rfl,ru,rw'⟩:=Ws r;cases rw';obtain⟨its,rv,p,_⟩:=I.tuple (SqT.of (K:=X.K) ha);obtain⟨⟨cls,dd,data,sl⟩,ho,hc,n,hd⟩:=id p;simp only at hc hd;subst hc hd;cases rv with
 |cons r1 r2=>
  cases r2 with
  |cons r3 r4=>
   cases r4;cases r1;cases r3;exact T4 I ru ty e e' ho λtk=>⟨.bl (b||b'),H,I.tok tk,rfl,q⟩
end
section
variable{X:Cx}
end
theorem T6:W7 (.type "tuple") "keys"=pure none:=by rw[W9,Wa];kernel_rfl
theorem T7:W7 (.type "tuple") "__getattr__"=pure none:=by rw[W9,Wa];kernel_rfl
section
variable{prog:Xm}{w:Xj}{A:Xs}{E:X0->X1->Prop}{h:Heap}{g:Array UI}{d:Drawn}{t:Nat}{os:OsState}{a:Addr}{its:Array X0}{n:Nat}{sl:Array (Option X0)}
theorem T8{tk:Tok}{Q:Fin->X1->Prop}(hx:h.get? a=some (⟨.type "tuple",none,.seq its n,sl⟩))(hh:A.handled=none)
  (hE:∀e h' t',(∀b o,h.get? b=some o->h'.get? b=some o)->(∃o,h'.get? e=some o/\o.cls=.type "AttributeError")->E (.ref e) ⟨h',g,d,t',os⟩):
  X4 (X9 prog w) A (Builtin.«object.__getattribute__» ⟨[.ref a,.str "keys" tk],[]⟩) Q E ⟨h,g,d,t,os⟩:=by
 have hT:(⟨h,g,d,t,os⟩:X1).TypeIs (.ref a) "tuple":=⟨_,hx,rfl⟩;have f4:=T6;unfold Builtin.«object.__getattribute__»
 repeat (any_goals (first|assumption|wp_step))
 have hmsg:¬(XX (toString "'"++toString ((Wo "tuple").elim "tuple" fun x=>x.tpName)++toString "' object has no attribute '")++XX "keys"++XX "'").length>sizeLine:=by decide+kernel
 generalize(XX (toString "'"++toString ((Wo "tuple").elim "tuple" fun x=>x.tpName)++toString "' object has no attribute '")++XX "keys"++XX "'")=msg at hmsg ⊢;unfold raiseAttrError;refine X3 ?_;unfold mkStr;rw[if_neg hmsg]
 repeat (any_goals (first|assumption|wp_step))
 show X4 _ _ (isSubtype (.type "AttributeError") (.type "AttributeError")) _ _ _;rw[Ww];generalize(if((Wo "AttributeError").elim false fun t=>t.mro.contains "StopIteration"||t.mro.contains "SystemExit")=true then [XI msg t].headD Xw else Xw)=fm;refine Xb ?_;simp only[A8,Yt,if_false];have hoE:((h.push {cls:=XJ "tuple",data:=Z5 #[XI msg t]}).push {cls:=XJ "AttributeError",data:=Ux (#[XC h.objs.size,Xw,Xw,Xw,Yj false,fm]++YV (XJ "AttributeError") [XI msg t])}).get? (h.push {cls:=XJ "tuple",data:=Z5 #[XI msg t]}).objs.size=some {cls:=XJ "AttributeError",data:=Ux (#[XC h.objs.size,Xw,Xw,Xw,Yj false,fm]++YV (XJ "AttributeError") [XI msg t])}:=XR _ rfl;have e6:(#[XC h.objs.size,Xw,Xw,Xw,Yj false,fm]++YV (XJ "AttributeError") [XI msg t])[6]?=some (.int 0 0):=rfl;have e7:(#[XC h.objs.size,Xw,Xw,Xw,Yj false,fm]++YV (XJ "AttributeError") [XI msg t])[7]?=some (.int 0 0):=rfl;have old:∀b o,h.get? b=some o->((h.push {cls:=XJ "tuple",data:=Z5 #[XI msg t]}).push {cls:=XJ "AttributeError",data:=Ux (#[XC h.objs.size,Xw,Xw,Xw,Yj false,fm]++YV (XJ "AttributeError") [XI msg t])}).get? b=some o/\b<(h.push {cls:=XJ "tuple",data:=Z5 #[XI msg t]}).objs.size:=fun b o e=>
  ⟨Xr _ (Xr _ e),by rw[Ug];exact Vd (Xv e)⟩
 generalize(h.push {cls:=XJ "tuple",data:=Z5 #[XI msg t]}).objs.size=ea at*;generalize((h.push {cls:=XJ "tuple",data:=Z5 #[XI msg t]}).push {cls:=XJ "AttributeError",data:=Ux (#[XC h.objs.size,Xw,Xw,Xw,Yj false,fm]++YV (XJ "AttributeError") [XI msg t])})=h2 at*;generalize hvs:#[XC h.objs.size,Xw,Xw,Xw,Yj false,fm]++YV (XJ "AttributeError") [XI msg t]=vs at*;refine X3 (W6 hoE ?_);dsimp only;rw[e6,e7];simp only[Wh,Yt,if_false];rw[if_neg (by decide)]
 refine Xb ?_;simp only[if_true];have hT2:(⟨h2,g,d,t+1+1,os⟩:X1).TypeIs (.ref ea) "AttributeError":=⟨_,hoE,rfl⟩;refine X3 (V6 ?_);refine X3 (Uq hT2 ?_);dsimp only;unfold layMembers;refine X3 (W6 hoE ?_);dsimp only;refine wpAny_update hoE ?_;unfold raiseNew;refine X3 (wpAny_handled ?_);rw[hh];show X4 _ _ (throw (XC ea)) _ _ _;have hup:=VA (Db fun vs=>vs.extract 0 6++#[XI (XX "keys") (t+1),XC a]) hoE (D9 (BK rfl _));refine wpAny_throw (hE ea _ _ (λb o e=>?_) ⟨_,hup,Da ..⟩);have:=old b o e;exact(Wg _ _ (VB this.2)).trans this.1
theorem T9{tk:Tok}{Q:X0->X1->Prop}(hx:h.get? a=some (⟨.type "tuple",none,.seq its n,sl⟩))(hh:A.handled=none)
  (hE:∀e h' t',(∀b o,h.get? b=some o->h'.get? b=some o)->(∃o,h'.get? e=some o/\o.cls=.type "AttributeError")->E (.ref e) ⟨h',g,d,t',os⟩):
  X4 (X9 prog w) A (getAttrBy (.ref a) (.str "keys" tk) false) Q E ⟨h,g,d,t,os⟩:=by
 have hT:(⟨h,g,d,t,os⟩:X1).TypeIs (.ref a) "tuple":=⟨_,hx,rfl⟩;have f2:=BG.lookup;have f3:=BG.bind (.ref a)
 repeat (any_goals (first|assumption|wp_step))
 refine WW BG.plain F.entry_tuple_ga (BG.check _ _ _ _ _ _ _ _ hT (F.args_tuple_getattribute_2 _ _) (T8 hx (by simp[hh]) λe h' t' k ho=>?_))
 have hTe:(⟨h',g,d,t',os⟩:X1).TypeIs (.ref e) "AttributeError":=ho;show X4 _ _ (Be _ _ _ _ _ _ _) _ _ _;unfold Be;refine X3 (V5 hTe Ww ?_);simp only[if_true];unfold hookBehind onTheHeap;simp only[Yt,if_false];rw[T7];refine X3 (Xb ?_);unfold hookOrError attributeErrorLeaves;simp only[Br,if_true];exact X3 (wpAny_throw (hE e h' t' k ho))
theorem Ta{Q:Option X0->X1->Prop}{s:X1}(hx:s.heap.get? a=some (⟨.type "tuple",none,.seq its n,sl⟩))(hh:A.handled=none)
  (hQ:∀h' t',(∀b o,s.heap.get? b=some o->h'.get? b=some o)->Q none {s with heap:=h',toks:=t'}):X4 (X9 prog w) A (getAttr? (.ref a) "keys") Q E s:=by
 obtain⟨h,g,d,t,os⟩:=s;unfold getAttr? getAttrBy? mkText;refine X3 (X3 (wpAny_fresh (Xb ?_)));refine X3 (wpAny_attempt (T9 hx hh λe h' t' k ho=>?_));have hTe:(⟨h',g,d,t',os⟩:X1).TypeIs (.ref e) "AttributeError":=ho;refine X3 (V5 hTe Ww ?_);simp only[if_true];exact Xb (hQ h' t' k)
end
section
variable{prog:Xm}{w:Xj}{A:Xs}{E:X0->X1->Prop}{s:X1}{K:Type} [DecidableEq K] {knd:KeyKind prog w K}
theorem Tb{l:Addr}{items:Array X0}{nl:Nat}{sl:Array (Option X0)}{ks:Nat->K}{vs:Nat->X0}{Q:X0->X1->Prop}(hh:A.handled=none)(hl:s.heap.get? l=some (⟨.type "tuple",none,.seq items nl,sl⟩))(hn:items.size≤sizeLine)
  (ht:∀(j:Nat) v,items[j]?=some v->∃q uk np oq,v=.ref q/\s.heap.get? q=some oq/\oq.cls=.type "tuple"/\oq.data=.seq #[uk,vs j] np/\knd.is (ks j) uk=true)
  (h:∀h' tk,h'.DictOf knd s.heap.objs.size (stTo ks vs items.size)->(∀b o,b<s.heap.objs.size->s.heap.get? b=some o->h'.get? b=some o)->Q (.ref s.heap.objs.size) {s with heap:=h',toks:=tk}):
  X4 (X9 prog w) A (call (.type "dict") [.ref l]) Q E s:=by
 refine callType_codes (Q₁:=fun obj s₁=>obj=.ref s.heap.objs.size/\s₁={s with heap:=s.heap.push {cls:=.type "dict",data:=.dict #[]} }) F.kt_called_dict (F.kt_typeCall_dict_1 _) F.entry_dict_init (kt_code_dict_new _ ⟨rfl,rfl⟩) ?_;rintro obj s₁ ⟨rfl,rfl⟩;have hnew:(s.heap.push {cls:=.type "dict",data:=.dict #[]}).DictOf knd s.heap.objs.size []:=Gw s.heap;have hl':(s.heap.push {cls:=.type "dict",data:=.dict #[]}).get? l=some (⟨.type "tuple",none,.seq items nl,sl⟩):=Xr _ hl;have hT:Ad {s with heap:=s.heap.push {cls:=.type "dict",data:=.dict #[]} } (.ref l) "tuple":=⟨_,hl',rfl⟩;refine⟨hnew.typeIs,F.args_dict_init_2 _ _,?_⟩;unfold Builtin.«dict.__init__»;refine X3 ?_;unfold G3;refine X3 (Bc hnew.typeIs ?_);show X4 _ _ (pure (s.heap.objs.size,[XC l])) _ _ _;refine Xb ?_;show X4 _ _ (BF "dict.__init__" s.heap.objs.size (.ref l) [] .none) _ _ _;unfold BF;refine X3 (Uq hT ?_);rw[if_pos (by decide)]
 refine X3 (Ta (s:={s with heap:=s.heap.push {cls:=.type "dict",data:=.dict #[]} }) hl' (by simp[hh]) fun h1 t1 hk1=>?_)
 simp only[Option.isNone_none,if_true];refine X3 (V6 ?_);have hl1:h1.get? l=some (⟨.type "tuple",none,.seq items nl,sl⟩):=hk1 _ _ hl';have hL1:h1.IsTuple l items:=⟨_,hl1,rfl,nl,rfl⟩;have hlS:l<s.heap.objs.size:=Xv hl;have hbig:s.heap.objs.size<h1.objs.size:=by
  obtain⟨o,es,ep,ho,_⟩:=hnew;exact Xv (hk1 _ _ ho)
 refine X3 (wpAny_pyIter_tuple (s:={s with heap:=h1,toks:=t1}) hL1 ?_);have hneI:l≠h1.objs.size:=XH (VC hlS hbig);refine Xb ⟨Ub Ap _,?_⟩;refine HQ (knd:=knd) (n:=items.size) ((Walks.tuple (A:=A.in1.in1) (by simp[hh]) h1.objs.size l hneI items).toS) s.heap.objs.size ?_ ks vs hn items.size 0 _ rfl (YN _)
  ⟨⟨_,XR _ rfl,rfl,rfl⟩,hL1.push _⟩ ?_ ?_ ?_
 ·simp only[Xu,Yd,or_false,not_or];exact⟨XH hbig,VB hlS⟩
 ·obtain⟨o,es,ep,ho,r⟩:=hnew;exact⟨o,es,ep,Xr _ (hk1 _ _ ho),r⟩
 ·intro j v hv;obtain⟨q,uk,np,oq,rfl,a1,a2⟩:=ht j v hv;have hqS:q<s.heap.objs.size:=Xv a1;refine⟨q,uk,np,oq,rfl,XH hqS,?_,Xr _ (hk1 _ _ (Xr _ a1)),a2⟩;simp only[Y6];exact XH (VC hqS hbig)
 ·intro s' hm hd;obtain⟨h',g',d',tk',os'⟩:=s';have eg:g'=s.gens:=hm.gens;have ed:d'=s.drawn:=hm.drawn;have eo:os'=s.os:=hm.os;subst eg;subst ed;subst eo;refine⟨rfl,h h' tk' hd λb o hb e=>?_⟩;refine hm.heap b o ?_ (Xr _ (hk1 _ _ (Xr _ e)));simp only[Xu,Yd,or_false,not_or];exact⟨XH hb,XH (VC hb hbig)⟩
end
section
variable{X:Cx}
theorem Tc(hcalm:X.calm=true):CallR X (.type "dict") (fun xs H Q=>∃(a:Addr) (ps:List (Key×V)) (qs:List V),xs=[.ref a]/\H a=some (.tup qs)/\Dy H ps qs/\∀p,H p=none->Q (.ref p) (upd H p (.dK (UC ps)))):=by
 intro pins s σ H xs us Q I r h;obtain⟨a,ps,qs,rfl,ha,hp,q⟩:=h;obtain⟨u,rfl,ru⟩:=YQ r;cases ru;obtain⟨hz,its,rv,⟨ol,hl,hlc,nl,hld⟩,ol2,hl2,hdn⟩:=(show ObjOk X.prog X.w H s.heap a (.tup qs)from I.hok a _ ha);have hh:=I.ok.hd hcalm;rw[hl]at hl2;cases hl2;obtain⟨lc,ldc,ld,lsl⟩:=ol;cases hlc;cases hld;cases hdn;have hlen:its.length=ps.length:=by rw[<- rv.length,hp.length]
 have hpair:∀(j:Nat) v,its.toArray[j]?=some v->∃q uk uv np oq,v=.ref q/\s.heap.get? q=some oq/\oq.cls=.type "tuple"/\oq.data=.seq #[uk,uv] np/\∃p,ps[j]?=some p/\RelV (kV p.1) uk/\RelV p.2 uv:=fun j v hv=>by
  have hv':its[j]?=some v:=by simpa using hv
  obtain⟨y,hy,ry⟩:=Paired.at rv j v hv';obtain⟨p,hpj,q,rfl,hq⟩:=Paired.at hp j y hy;cases ry;obtain⟨_,ts,rt,ht⟩:=(show ObjOk X.prog X.w H s.heap q (.tup [kV p.1,p.2])from I.hok q _ hq);obtain⟨uk,uv,rfl,r1,r2⟩:=Ws rt;obtain⟨oq,ho,hc,n,hd⟩:=ht.1;exact⟨q,uk,uv,n,oq,rfl,ho,hc,hd,p,hpj,r1,r2⟩
 obtain⟨vs,hvs⟩:∃vs:Nat->X0,∀(j:Nat) v,its.toArray[j]?=some v->∃q uk np oq,v=.ref q/\s.heap.get? q=some oq/\oq.cls=.type "tuple"/\oq.data=.seq #[uk,vs j] np/\∃p,ps[j]?=some p/\RelV (kV p.1) uk/\RelV p.2 (vs j):=by
  refine⟨λj=>if h:j<its.length then(hpair j its[j] (by simp[h])).choose_spec.choose_spec.choose else .none,λj v hv=>?_⟩
  have hv':its[j]?=some v:=by simpa using hv
  obtain⟨hj,rfl⟩:=XE.mp hv';dsimp only;rw[dif_pos hj];have z:=(hpair j its[j] (by simp[hj]))
  exact⟨z.choose,z.choose_spec.choose,z.choose_spec.choose_spec.choose_spec⟩
 refine Tb (knd:=YC X.prog X.w) (ks:=λj=>(ps.getD j (.inl 0,.non)).1) (vs:=vs) hh hl (by simpa [<- rv.length]using hz) (λj v hv=>?_) λh' tk hd hk=>?_
 ·obtain⟨q,uk,np,oq,e1,e2,e3,e4,p,hpj,r1,r2⟩:=hvs j v hv;refine⟨q,uk,np,oq,e1,e2,e3,e4,VL ?_⟩;rw[Ym,hpj];exact r1
 have kv:∀i,i≤ps.length->KV ((ps.take i).foldl (λc z=>putK c z.1 z.2) []) (stTo (λj=>(ps.getD j (.inl 0,.non)).1) vs i):=by
  intro i
  induction i with
  |zero=>intro _;exact .nil
  |succ i ih=>
   intro hi;have hlt:i<its.length:=by lia
   obtain⟨q,uk,np,oq,e1,e2,e3,e4,p,hpj,r1,r2⟩:=hvs i its[i] (by simp[hlt])
   rw[UM,hpj,De,CO];show KV (putK _ p.1 p.2) (stored _ (ps.getD i (.inl 0,.non)).1 _);have ek:(ps.getD i (.inl 0,.non)).1=p.1:=by rw[Ym,hpj];rfl
   rw[ek];exact(ih (by lia)).put p.1 r2
 have kvn:=kv ps.length (Xl _);rw[Bi]at kvn;have hsz:its.toArray.size=ps.length:=by simp[hlen]
 rw[hsz]at hd;have hpl:ps.length≤sizeLine:=by rw[hp.length];exact hz
 have zl:(UC ps).length≤sizeLine:=by
  have:=kvn.length;have l2:=BU (λj=>(ps.getD j (.inl 0,.non)).1) vs ps.length;unfold UC;lia
 exact⟨.ref s.heap.objs.size,_,I.laid (a:=s.heap.objs.size) (o:=.dK (UC ps)) (t':=tk) (λb u e=>hk b u (Xv e) e) (Xl _) (BR zl (beq_eq_false_iff_ne.mpr (Ui (XH I.big))) kvn hd),rfl,q _ (I.hok.fresh (Xl _))⟩
end
noncomputable def cutS(x:Str)(lo hi:Option Int):Str:=⟨((x.cps.toList.drop (HT.sIx x.cps.toList.length 0 lo)).take (HT.sIx x.cps.toList.length x.cps.toList.length hi - HT.sIx x.cps.toList.length 0 lo)).toArray⟩
theorem Td(x:Str)(lo hi:Option Int):(cutS x lo hi).length≤x.length:=by
 unfold cutS Bz;simp only[XT,Yz,V8,XW];lia
theorem Te(x:Str)(lo hi:Option Int):((BA lo hi 1 x.length).filterMap (x.cps[·]?)).toArray=(cutS x lo hi).cps:=by
 obtain⟨h1,h2,h3⟩:=Dl lo hi x.length;have e:BA lo hi 1 x.length=sliceRange (Z2 lo hi none x.length).1 (Z2 lo hi none x.length).2.1 (Z2 lo hi none x.length).2.2:=rfl;have el:x.cps.toList.length=x.length:=by simp[Bz]
 rw[e,h1,h2,h3,sliceRange_one,pick_run];unfold cutS;rw[el]
theorem Tf{x:Str}{lo hi:Option Int}(h:(BA lo hi 1 x.length).length=x.length):cutS x lo hi=x:=by
 obtain⟨h1,h2,h3⟩:=Dl lo hi x.length;have e:BA lo hi 1 x.length=sliceRange (Z2 lo hi none x.length).1 (Z2 lo hi none x.length).2.1 (Z2 lo hi none x.length).2.2:=rfl;have el:x.cps.toList.length=x.length:=by simp[Bz]
 rw[e,h1,h2,h3,sliceRange_one,X7,YW]at h;unfold cutS;rw[el];have hb:HT.sIx x.length x.length hi≤x.length:=by
  unfold HT.sIx;cases hi with
  |none=>exact Xl _
  |some i=>dsimp only;split<;>lia
 obtain⟨cps⟩:=x;congr 1;have e0:∀(n a b:Nat),b≤n->b - a=n->n=0\/a=0:=by lia
 rcases e0 _ _ _ hb h with z|z
 ·have:cps.toList=[]:=by
   rw[<- CH];rw[XW];exact z
  simp[this];have:cps=#[]:=by apply Array.toList_inj.mp;simpa using this
  rw[this]
 ·rw[h,z,Bj,V7 (by rw[XW];exact Xl _)]
section
variable{X:Cx}
noncomputable def rSlS:V->Option Int->Option Int->Hp->VK->Prop:=λx lo hi H Q=>∃z:Str,x=.str z/\z.length≤sizeLine/\Q (.str (cutS z lo hi)) H
theorem HU{v:X0}{o:Option Int}(h:IsPart v o):∃l:Option (Int×Tok),v=partValue l/\l.map (·.1)=o:=by
 cases h with
 |none=>exact⟨none,rfl,rfl⟩
 |int i t=>exact⟨some (i,t),rfl,rfl⟩
theorem Tg:SlR X rSlS:=by
 intro pins s σ H x v vl vu lo hi sl Q I rx hs pl pu h;obtain⟨z,rfl,hz,q⟩:=h;obtain⟨t,rfl⟩:=rx;obtain⟨l,rfl,rfl⟩:=HU pl;obtain⟨u,rfl,rfl⟩:=HU pu;refine⟨"str",_,slot_str_getitem.lookup,typeIs_str s z t,?_⟩;refine wpAny_getItem_str_slice (l:=l) (u:=u) (st:=none) hs rfl ?_;unfold sliceMade;by_cases hc:(((none:Option (Int×Tok)).map (·.1)).getD 1==1&&(slicePicked z l u none).length==z.length)=true
 ·rw[if_pos hc];have e:cutS z (l.map (·.1)) (u.map (·.1))=z:=by
   refine Tf ?_;rw[YA]at hc;exact eq_of_beq hc.2
  rw[e]at q;exact⟨.str z,H,I,⟨_,rfl⟩,q⟩
 ·rw[if_neg hc];have e:(⟨((slicePicked z l u none).filterMap (z.cps[·]?)).toArray⟩:Str)=cutS z (l.map (·.1)) (u.map (·.1)):=by
   have:=Te z (l.map (·.1)) (u.map (·.1));unfold slicePicked;rw[show((none:Option (Int×Tok)).map (·.1)).getD 1=(1:Int)from rfl,this]
  rw[e];exact⟨Y3 (Td _ _ _) hz,.str _,H,I.tok _,⟨_,rfl⟩,q⟩
end
theorem HV:∀{xs:List V} {vs:List X0},xs.length=vs.length->(∀(j:Nat) x v,xs[j]?=some x->vs[j]?=some v->RelV x v)->Vals xs vs
 |[],[],_,_=>.nil
 |[],_::_,h,_=>by cases h
 |_::_,[],h,_=>by cases h
 |x::xs,v::vs,h,r=>.cons (r 0 x v rfl rfl) (HV (by simpa using h) λj a b ha hb=>r (j+1) a b (by simpa using ha) (by simpa using hb))
theorem Th{acc:Array X0}{n:Nat}(h:ItemsOf (λi v=>∃t,v=.int (0+i*1) t) acc n):Vals ((XM n).map λi=>V.int (i:Nat)) acc.toList:=by
 refine HV (by rw[X7,YW,XW];exact h.1.symm) λj x v hx hv=>?_
 obtain⟨t,rfl⟩:=h.2 j v (by simpa using hv)
 rw[Xo]at hx;cases e:(XM n)[j]? with
 |none=>rw[e]at hx;cases hx
 |some k=>
  rw[e]at hx;have hk:k=j:=by
   have:=XE.mp e;obtain⟨_,z⟩:=this
   simpa using z.symm
  subst hk;cases hx;exact⟨t,by rw[Int.zero_add,Int.mul_one]⟩
section
variable{X:Cx}{tg:Expr}
theorem Ti(hcalm:X.calm=true):Wv X (.type "list") (.type "range") (fun x H Q=>∃n:Nat,x=.int n/\n≤1000000/\∀p,H p=none->Q (.ref p) (upd H p (.lst ((XM n).map fun i=>V.int (i:Nat))))):=by
 intro pins s σ H x u Q I rx h;obtain⟨n,rfl,hn,q⟩:=h;obtain⟨t,rfl⟩:=rx;refine call_range_1 ?_;have hl:((XM n).map λi=>V.int (i:Nat)).length≤sizeLine:=by rw[X7,YW];exact Y3 hn (by decide)
 have hh:=I.ok.hd hcalm;refine call_list_range (n:=n) hh (Dg ..) ?_ ?_ (by lia) λh' tk acc' c' kp e it=>?_
 ·exact small_one (by decide) (by decide) (by lia) (by lia)
 ·rw[rangeSize_one];split<;>lia
 have I1:=I.kept (h':=s.heap.push {cls:=.type "range",data:=.fields #[.int 0 s.toks,.int (n:Int) t,.int 1 (s.toks+1)]}) (t':=s.toks+1+1) fun b o e=>Xr _ e;exact⟨.ref _,_,I1.laid (t':=tk) kp (Xl _) (show ObjOk X.prog X.w _ h' _ (.lst ((XM n).map λi=>V.int (i:Nat)))from⟨hl,acc'.toList,c',Th it,by simpa using e⟩),rfl,q _ (I1.hok.fresh (Xl _))⟩
theorem Tj{x y:Str}{id T:String}{r:V->Hp->VK->Prop}{e:Expr}{t:TE}{p p' pos pos':Pos}(hc:Wv X (.type id) (.type T) r)
  (hg:Gl X x) (hm:X.mg x=none) (hv:YF x=some (.type id)) (hg':Gl X y) (hm':X.mg y=none) (hv':YF y=some (.type T)) (ha:PE X e t)
  (hn:x≠"__name__") (hdb:(x==("__debug__":Str))=false) (hn':y≠"__name__") (hdb':(y==("__debug__":Str))=false)
  (he:XL [e] X.env=(false,eval e X.env)::XL [] X.env):
  PE X (.Call (.Name x p) [.Call (.Name y p') [e] [] pos'] [] pos) (λσ H Q=>t σ H λv H1=>r v H1 Q):=by
 intro pins s σ H Q I h;refine Vu (Uz I hg hm hv ?_ hn hdb);refine VF ?_ rfl rfl;show X4 _ _ (spliced ((false,eval (.Call (.Name y p') [e] [] pos') X.env)::Ys pos (XL [] X.env))) _ _ s;refine Ab ?_;refine Vu (Uz I hg' hm' hv' ?_ hn' hdb');refine VF ?_ he rfl;rw[he];show X4 _ _ (spliced ((false,eval e X.env)::Ys pos' (XL [] X.env))) _ _ s;refine Ab (thn (ha pins s σ H _ I h) λu s1 ⟨v,H1,I1,r1,q1⟩=>?_);refine Ac ?_;exact thn (hc pins s1 σ H1 v u Q I1 r1 q1) λu2 s2 q2=>Ac q2
noncomputable def Itrs(lo st:Int)(n:Nat):It:=⟨λi _=>i<n,λi H x H'=>H'=H/\x=.int (lo+i*st),λi _=>n≤i⟩
theorem Tk{P:Xm}{w:Xj}{K:X6}{tg:Expr}(it:Addr)(lo sp:Int)(n:Nat):Turn P w K tg (Itrs lo sp n) [it] it (λi h=>IsRangeIter h it (lo+(i:Nat)*sp) ((n:Int) - (i:Nat)) sp)where
 mem:=by simp
 obj:=λi h st b hb=>by
  have e:b=it:=by simpa using hb
  subst e;exact⟨_,st,λv z=>by
   have z':Ux _=Data.cell v:=z;cases z'⟩
 keep:=λi h h' st k=>k it (by simp) _ st
 item:=by
  intro X hP hw hK hc i pins s σ H E I hf st hg;subst hP hw hK;obtain⟨f0,f1,f2,f3,f4,f5⟩:=hf it (by simp)
  have W:=Walks.range (prog:=X.prog) (w:=X.w) (I.ok.hd hc) it lo sp n;refine W.item i s _ _ hg st λv h' tk hv st' kk=>?_;obtain⟨t,rfl⟩:=hv;have I1:Inv X pins σ H {s with heap:=h',toks:=tk}:=I.turned (λb o hb e=>kk b o (by simpa using hb) e) f0 f1 f3 f4 f5
  exact⟨_,rfl,VJ (s:={s with heap:=h',toks:=tk}) (n:="range_iterator") st' rfl rfl (by decide) ⟨.int (lo+i*sp),H,I1,⟨t,rfl⟩,⟨rfl,rfl⟩,st',fun b hb=>(hf b hb).1⟩⟩
 done:=by
  intro X hP hw hK hc i pins s σ H E I hf st hg;subst hP hw hK;obtain⟨f0,f1,f2,f3,f4,f5⟩:=hf it (by simp)
  exact wpAny_pyNext_range_end (I.ok.hd hc) st (by have:n≤i:=hg;lia) λh' eb=>⟨rfl,I.turned (t':=s.toks) (λb o hb e=>eb b o hb e) f0 f1 f3 f4 f5⟩
 self:=λ_ _ _ _ _ st h=>wpAny_pyIter_rangeiter st h
noncomputable def len2(lo hi:Int):Nat:=(Wm lo hi 2).toNat
theorem Tl(lo hi:Int):((len2 lo hi:Nat):Int)=Wm lo hi 2:=by
 unfold len2 Wm;simp only[show(2:Int)>0 by decide,if_true]
 split<;>lia
theorem Tn{a b:Int}(ha:0≤a)(ha':a<2^60)(hb:0≤b)(hb':b<2^60):FZ a b 2=true:=by
 unfold FZ Wm;simp only[Builtin.Range.rangeFitsLong,YA,Bool.or_eq_true,decide_eq_true_eq,beq_iff_eq,show(2:Int)>0 by decide,if_true]
 split<;>lia
theorem To{pins:List (Addr×Obj)}{σ:St}{H:Hp}{s:X1}{R:It->Hp->Prop}{E:X0->X1->Prop}{lo hi:Int}{t u v:Tok}{tk:Nat}(I:Inv X pins σ H s)(h1:0≤lo)(h2:lo<2^60)(h3:0≤hi)(h4:hi<2^60)
  (q:R (Itrs lo 2 (len2 lo hi)) H):X4 (X9 X.prog X.w) X.A (pyIter (.ref s.heap.objs.size)) (PIE X pins σ tg R) E {s with heap:=s.heap.push {cls:=.type "range",data:=.fields #[.int lo t,.int hi u,.int 2 v]},toks:=tk}:=by
 refine wpAny_pyIter_range (Dg ..) (Tn h1 h2 h3 h4) ?_;have I1:Inv X pins σ H {s with heap:=s.heap.push {cls:=.type "range",data:=.fields #[.int lo t,.int hi u,.int 2 v]},toks:=tk}:=I.kept fun b o e=>Xr _ e;refine⟨(s.heap.push {cls:=.type "range",data:=.fields #[.int lo t,.int hi u,.int 2 v]}).objs.size,[(s.heap.push {cls:=.type "range",data:=.fields #[.int lo t,.int hi u,.int 2 v]}).objs.size],_,_,H,rfl,
  I1.kept (t':=tk) λb o e=>Xr _ e,Tk _ lo 2 (len2 lo hi),?_,λb hb=>?_,q⟩
 ·have e1:lo+((0:Nat):Int)*2=lo:=by simp
  have e2:((len2 lo hi:Nat):Int) - ((0:Nat):Int)=Wm lo hi 2:=by rw[Tl];simp
  show IsRangeIter _ _ (lo+((0:Nat):Int)*2) (((len2 lo hi:Nat):Int) - ((0:Nat):Int)) 2;rw[e1,e2];exact XR _ rfl
 ·have e:b=(s.heap.push {cls:=.type "range",data:=.fields #[.int lo t,.int hi u,.int 2 v]}).objs.size:=by simpa using hb
  subst e;exact I1.fpOk (Xl _) (I1.hok.fresh (Xl _))
noncomputable def Tp(ta:TA):TI:=λσ H R=>ta σ H λvs H1=>∃i j:Int,vs=[.int i,.int j,.int 2]/\(0≤i/\i<2^60/\0≤j/\j<2^60)/\R (Itrs i 2 (len2 i j)) H1
theorem Tq{a b c:Expr}{ta:TA}{p pos:Pos}(hg:Gl X "range")(hm:X.mg "range"=none)(ha:PA X [a,b,c] ta)(hs:XL [a,b,c] X.env=[(false,eval a X.env),(false,eval b X.env),(false,eval c X.env)]:=by rfl)(hs2:XL [b,c] X.env=[(false,eval b X.env),(false,eval c X.env)]:=by rfl):
  PI X tg (.Call (.Name "range" p) [a,b,c] [] pos) (Tp ta):=by
 intro pins s σ H R I h;refine Call_ (Uz I hg hm boot_range (VF (thn (ha pos pins s σ H _ I h) λus s1 ⟨vs,H1,I1,r1,q1⟩=>?_) (by rw[hs,hs2]) (by rw[hs2];rfl)))
 obtain⟨i,j,e,⟨q1,q2,q3,q4⟩,q⟩:=q1;subst e;cases r1 with
 |cons r rr=>
  cases rr with
  |cons r' rr=>
   cases rr with
   |cons r'' rr=>
    cases rr;obtain⟨t,rfl⟩:=r;obtain⟨t',rfl⟩:=r';obtain⟨t'',rfl⟩:=r'';exact call_range_3 (by decide) (To (tk:=s1.toks) I1 q1 q2 q3 q4 q) (.inl (PyProof.noPylong_small (by decide)))
end
section
variable{prog:Xm}{w:Xj}{A:Xs}{R:Result->X1->Prop}{I:Addr}{fp wr:List Addr}{n:Nat}{P:Nat->X0->Prop}{St:Nat->Heap->Prop}
end
section
variable{prog:Xm}{w:Xj}{A:Xs}{E:X0->X1->Prop}{s:X1}
end
section
variable{X:Cx}{x k:Str}{p pos kp:Pos}{e e0:Expr}{te:TE}
end
end L2
namespace HT
open PySem PySem.Spec PyProof.Rows
section
variable{prog:Xm}{w:Xj}{A:Xs}{E:X0->X1->Prop}{s:X1}
theorem tup_whole{t sl:Addr}{items:Array X0}{vl vu:X0}{lo hi:Option Int}{Q:X0->X1->Prop}(ht:IsTup s.heap t items)(hs:s.heap.IsSliceOf sl vl vu .none)(pl:IsPart vl lo)(pu:IsPart vu hi)
  (h0:sIx items.size 0 lo=0) (h1:sIx items.size items.size hi=items.size) (h:Q (.ref t) s):X4 (X9 prog w) A (getItem (.ref t) (.ref sl)) Q E s:=by
 obtain⟨os,hos,hcs,hds⟩:=id hs;have hTs:s.TypeIs (.ref sl) "slice":=⟨os,hos,hcs⟩;have hT:=ht.typeIs;unfold getItem
 try with_reducible refine YL ?_
 first|refine X3 (Xb ?_)|skip
 refine X3 (wpAny_sequenceKey hT (by decide) ?_)
 refine X3 (B9 (name:=XX "__getitem__") hT Wl (Z9 Wl hT entry_tuple_getitem ?_ (args_tuple_getitem _ _)));show X4 _ _ (G0 (.ref t)>>= _) _ _ s;refine X3 (tupleItemsOf_ ht ?_);refine X3 (Uq hTs ?_);rw[if_pos (by decide)]
 refine X3 (Ha hs pl pu ?_);rw[h0,h1];show X4 _ _ (if(((0:Nat):Int)==0&&(1:Int)==1&&(items.size - 0)==items.size)=true then _ else _) _ _ s;rw[if_pos (by simp)]
 refine X3 ?_;show X4 _ _ (G1 (.ref t)) _ _ s;unfold G1;refine X3 (Uq hT (Xb ?_));rw[if_pos (by decide)]
 exact X3 (V6 (Xb ⟨_,rfl,Xb h⟩))
end
end HT
namespace L2
open PySem PySem.Spec PyProof.Rows
section
variable{X:Cx}
noncomputable def rSlW(K:X6):V->Option Int->Option Int->Hp->VK->Prop:=λx lo hi H Q=>∃a xs,x=.ref a/\SqT K H a xs/\HT.sIx xs.length 0 lo=0/\HT.sIx xs.length xs.length hi=xs.length/\Q (.ref a) H
theorem Tr:SlR X (rSlW X.K):=by
 intro pins s σ H x v vl vu lo hi sl Q I rx hs pl pu h;obtain⟨a,xs,rfl,hx,h0,h1,q⟩:=h;cases rx;obtain⟨its,r,ht,hz⟩:=I.tuple hx;have hlen:its.toArray.size=xs.length:=by rw[XT];exact r.length.symm
 refine⟨"tuple",_,Wl.lookup,ht.typeIs,?_⟩;exact HT.tup_whole ht hs pl pu (by rw[hlen];exact h0) (by rw[hlen];exact h1) ⟨.ref a,H,I,rfl,q⟩
end
noncomputable def st3{α:Type}(xs:List α):List α:=(XM ((xs.length+2)/3)).filterMap λk=>xs[3*k]?
theorem Ts(items:Array X0):slicePick items none none (some 3)=(st3 items.toList).toArray:=by
 have e:sliceRange 0 (items.size:Int) 3=(XM ((items.size+2)/3)).map λk=>3*k:=by
  unfold sliceRange;have c:(if(3:Int)>0 then(if(0:Int)<items.size then((items.size:Int) - 0+3 - 1)/3 else 0)else(if(0:Int)>items.size then(0 - (items.size:Int) - 3 - 1)/(-3)else 0)).toNat=(items.size+2)/3:=by
   rw[if_pos (by decide)]
   by_cases h:(0:Int)<items.size
   ·rw[if_pos h];lia
   ·rw[if_neg h];lia
  show(XM _).map _=_;rw[c];exact List.map_congr_left λk _=>by lia
 show((sliceRange 0 (items.size:Int) 3).filterMap _).toArray=_;rw[e,List.filterMap_map];unfold st3;rw[XW];congr 1;refine congrArg (λf=>List.filterMap f _) ?_
 funext k
 simp
theorem HW{α:Type}{xs:List α}{k:Nat}(h:k∈XM ((xs.length+2)/3)):3*k<xs.length:=by
 have:=V9.mp h;lia
theorem Tt{vs:List V}{us:List X0}(h:Vals vs us):Vals (st3 vs) (st3 us):=by
 have go:∀ks:List Nat,(∀k∈ks,3*k<vs.length)->Vals (ks.filterMap λk=>vs[3*k]?) (ks.filterMap λk=>us[3*k]?):=by
  intro ks
  induction ks with
  |nil=>intro _;exact .nil
  |cons k ks ih=>
   intro hk;have hl:=hk k (Ya ..);have hu:=X8 (show 3*k<us.length by rw[<- h.length];exact hl)
   obtain⟨x,hx,ru⟩:=Paired.at h (3*k) _ hu;rw[WZ (f:=λk=>vs[3*k]?) (a:=k) hx,WZ (f:=λk=>us[3*k]?) (a:=k) hu];exact .cons ru (ih λk hk'=>hk k (Y5 _ hk'))
 unfold st3;rw[<- h.length];exact go _ λk hk=>HW hk
theorem Tu{α:Type}(xs:List α):(st3 xs).length≤xs.length:=by
 unfold st3;exact Y3 (List.length_filterMap_le ..) (by rw[YW];lia)
section
variable{X:Cx}{e e3:Expr}{te:TE}{p2 pos:Pos}
noncomputable def rSt3(K:X6)(v:V)(H:Hp)(Q:VK):Prop:=∃a xs,v=.ref a/\SqL K H a xs/\∀p,H p=none->Q (.ref p) (upd H p (.lst (st3 xs)))
noncomputable def tSt3(K:X6)(te:TE):TE:=λσ H Q=>te σ H λv H1=>rSt3 K v H1 Q
theorem Tv(he:PE X e te)(h3:PE X e3 (tC (.int 3))):PE X (.Subscript e (.Slice none none (some e3) p2) pos) (tSt3 X.K te):=by
 intro pins s σ H Q I h;refine Subscript_ (thn (he pins s σ H _ I h) λv s1 ⟨x,H1,I1,r1,q1⟩=>?_);refine wpAny_Slice ?_;rw[evalPart_none,evalPart_some];refine Xb (Xb (thn (h3 pins s1 σ H1 (λv H2=>v=.int 3/\H2=H1) I1 ⟨rfl,rfl⟩) λv3 s3 ⟨x3,H3,I3,r3,e1,e2⟩=>?_));subst e1 e2;obtain⟨t3,rfl⟩:=r3;obtain⟨a,xs,rfl,hx,q⟩:=q1;cases r1;have I4:Inv X pins σ H3 {s3 with heap:=s3.heap.push {cls:=.type "slice",data:=.fields #[.none,.none,.int 3 t3]} }:=I3.kept (t':=s3.toks) fun b ob q=>Xr _ q;obtain⟨its,r,ht,hz⟩:=I4.list hx;have hlen:=r.length;refine tail_any (ops:=[.ref a,.ref s3.heap.objs.size]) ht.isList.typeIs slot_list_getitem.lookup ?_ (by with_unfolding_all rfl)
 refine wpAny_getItem_list_slice ht.isList (Gr ..) .none .none (.int 3 t3) (by simp) ?_ (by rw[XT];lia)
 rw[Ts];refine⟨.ref _,_,I4.laid (t':=s3.toks) (o:=.lst (st3 xs)) (λb ob q=>Xr _ q) (Xl _) ?_,rfl,q _ (I4.hok.fresh (Xl _))⟩;exact⟨Y3 (Tu xs) hz,_,0,Tt r,XR _ rfl⟩
end
section
variable{X:Cx}
theorem Tw(hcalm:X.calm=true):Wv X (.builtin "len") (.type "set") (fun x H Q=>∃(a:Addr) (xs:List Str),x=.ref a/\SqL X.K H a (xs.map V.str)/\xs.length+1<scanBound/\
  ∀ys:List Str,ys.Nodup->(∀y,y∈ys↔y∈xs)->Q (.int ys.length) H):=by
 intro pins s σ H x u Q I rx h;obtain⟨a,xs,rfl,ha,hlen,q⟩:=h;cases rx;obtain⟨its,rv,p,hz⟩:=I.list ha;have hh:=I.ok.hd hcalm;have hil:its.length=xs.length:=by rw[<- rv.length,X7]
 have hsz:its.toArray.size=xs.length:=by simp[hil]
 have hi:∀(i:Nat) (v:X0),its.toArray[i]?=some v->∃t,v=XI (xs.getD i ⟨#[]⟩) t:=λi v hv=>by
  have hv':its[i]?=some v:=by simpa using hv
  have hlt:i<xs.length:=by rw[<- hil];exact(XE.mp hv').1
  obtain⟨u,hu,ru⟩:=rv.get (i:=i) (x:=V.str xs[i]) (by simp[hlt])
  rw[hv']at hu;cases hu;obtain⟨t,rfl⟩:=ru;exact⟨t,by simp[Va,hlt]⟩
 have hmem:∀y,y∈met (λi=>xs.getD i ⟨#[]⟩) xs.length↔y∈xs:=λy=>by
  rw[Dw,List.mem_iff_getElem];constructor
  ·rintro⟨j,hj,rfl⟩;exact⟨j,hj,by simp[Va,hj]⟩
  ·rintro⟨j,hj,rfl⟩;exact⟨j,hj,by simp[Va,hj]⟩
 refine HE (f:=λi=>xs.getD i ⟨#[]⟩) hh p.isList hi (by rw[hsz];exact hlen) λh1 tk1 o ho hS hk=>?_
 rw[hsz]at hS;have I1:Inv X pins σ H {s with heap:=h1,toks:=tk1}:=I.kept λb u e=>hk b u (Xv e) e;obtain⟨hex,es,ep,t,hd,_,hp,hb,hf,_⟩:=hS;have hsb:scanBound=4096:=rfl;refine call_len_set (s:={s with heap:=h1,toks:=tk1}) ho hex hd hf (by lia) ?_
 refine⟨.int es.size,H,I1.tok _,⟨_,rfl⟩,?_⟩;have e:es.size=(met (λi=>xs.getD i ⟨#[]⟩) xs.length).length:=by
  rw[<- hp.length_eq,X7,XW]
 rw[e];exact q _ (Dv _ _) hmem
end
inductive Ty7 where|int|bool|str|list|tuple|dict|none
  deriving DecidableEq
noncomputable def Ty7.name:Ty7->String
 |.int=>"int"|.bool=>"bool"|.str=>"str"|.list=>"list"|.tuple=>"tuple"|.dict=>"dict"|.none=>"NoneType"
inductive MV where
 |non|bl (b:Bool)|int (i:Int)|str (x:Str)|tup (xs:List MV)|frl (xs:List MV)|ref (a:Addr)|ty (n:Ty7)
noncomputable def HX:HO->Bool
 |.tup _=>true
 |.frz _ (.lst _)=>true
 |_=>false
noncomputable def Kp(H H':Hp):Prop:=∀a o,H a=some o->HX o=true->H' a=some o
theorem Kp.refl(H:Hp):Kp H H:=λ_ _ h _=>h
theorem Kp.trans{H H1 H2:Hp}(a:Kp H H1)(b:Kp H1 H2):Kp H H2:=λc o h f=>b c o (a c o h f) f
theorem Kp.new{H:Hp}{p:Addr}(h:H p=none)(o:HO):Kp H (upd H p o):=λa u e _=>by rw[XN (VI e h)];exact e
theorem Kp.upd{H:Hp}{p:Addr}{o:HO}(h:H p=some o)(f:HX o=false)(o':HO):Kp H (upd H p o'):=λa u e g=>by
 rw[XN (Gx e h (by intro z;rw[z,f]at g;cases g))];exact e
noncomputable def FrL(K:X6)(H:Hp)(a:Addr)(vs:List V):Prop:=(∃o,H a=some (.frz o (.lst vs)))\/
 ∃(o:Obj) (its:Array X0) (n:Nat),K.lookup a=some o/\o.cls=.type "list"/\o.dict=none/\o.data=.seq its n/\its.size≤sizeLine/\Vals vs its.toList
theorem FrL.sq{K:X6}{H:Hp}{a:Addr}{vs:List V}(h:FrL K H a vs):SqL K H a vs:=by
 rcases h with⟨o,h⟩|h
 ·exact .inl (.inr ⟨o,h⟩)
 ·exact .inr h
mutual
inductive RM (K:X6) (H:Hp):MV->V->Prop
 |non:RM K H .non .non
 |bl (b:Bool):RM K H (.bl b) (.bl b)
 |int (i:Int):RM K H (.int i) (.int i)
 |str (x:Str):RM K H (.str x) (.str x)
 |ref (a:Addr):RM K H (.ref a) (.ref a)
 |ty (n:Ty7):RM K H (.ty n) (.ty n.name)
 |tup {a:Addr} {xs:List MV} {vs:List V}:H a=some (.tup vs)->RMs K H xs vs->RM K H (.tup xs) (.ref a)
 |frl {a:Addr} {xs:List MV} {vs:List V}:FrL K H a vs->RMs K H xs vs->RM K H (.frl xs) (.ref a)
inductive RMs (K:X6) (H:Hp):List MV->List V->Prop
 |nil:RMs K H [] []
 |cons {x:MV} {v:V} {xs:List MV} {vs:List V}:RM K H x v->RMs K H xs vs->RMs K H (x::xs) (v::vs)
end
mutual
theorem RM.mono{K:X6}{H H':Hp}(k:Kp H H'):∀{m:MV} {v:V},RM K H m v->RM K H' m v
 |_,_,.non=>.non
 |_,_,.bl b=>.bl b
 |_,_,.int i=>.int i
 |_,_,.str x=>.str x
 |_,_,.ref a=>.ref a
 |_,_,.ty n=>.ty n
 |_,_,.tup h r=>.tup (k _ _ h rfl) (RMs.mono k r)
 |_,_,.frl h r=>.frl (by
   rcases h with⟨o,h⟩|h
   ·exact .inl ⟨o,k _ _ h rfl⟩
   ·exact .inr h) (RMs.mono k r)
theorem RMs.mono{K:X6}{H H':Hp}(k:Kp H H'):∀{m:List MV} {v:List V},RMs K H m v->RMs K H' m v
 |_,_,.nil=>.nil
 |_,_,.cons a b=>.cons (RM.mono k a) (RMs.mono k b)
end
theorem RMs.length{K:X6}{H:Hp}:∀{m:List MV} {v:List V},RMs K H m v->m.length=v.length
 |_,_,.nil=>rfl
 |_,_,.cons _ b=>by rw[YG,YG,b.length]
theorem RMs.get{K:X6}{H:Hp}:∀{m:List MV} {v:List V} {i:Nat} {x:MV},RMs K H m v->m[i]?=some x->∃u,v[i]?=some u/\RM K H x u
 |_,_,_,_,.nil,e=>by simp at e
 |_,_,0,_,.cons r _,e=>by simp at e;subst e;exact⟨_,rfl,r⟩
 |_,_,i+1,x,.cons _ t,e=>by
  obtain⟨u,h1,h2⟩:=RMs.get (i:=i) (x:=x) t (by simpa using e)
  exact⟨u,by simpa using h1,h2⟩
theorem RMs.get'{K:X6}{H:Hp}:∀{m:List MV} {v:List V} {i:Nat} {u:V},RMs K H m v->v[i]?=some u->∃x,m[i]?=some x/\RM K H x u
 |_,_,_,_,.nil,e=>by simp at e
 |_,_,0,_,.cons r _,e=>by simp at e;subst e;exact⟨_,rfl,r⟩
 |_,_,i+1,x,.cons _ t,e=>by
  obtain⟨u,h1,h2⟩:=RMs.get' (i:=i) (u:=x) t (by simpa using e)
  exact⟨u,by simpa using h1,h2⟩
theorem RMs.append{K:X6}{H:Hp}:∀{m m':List MV} {v v':List V},RMs K H m v->RMs K H m' v'->RMs K H (m++m') (v++v')
 |_,_,_,_,.nil,s=>s
 |_,_,_,_,.cons r t,s=>.cons r (t.append s)
theorem RMs.take{K:X6}{H:Hp}:∀{m:List MV} {v:List V} (n:Nat),RMs K H m v->RMs K H (m.take n) (v.take n)
 |_,_,0,_=>.nil
 |_,_,_+1,.nil=>.nil
 |_,_,n+1,.cons r t=>.cons r (t.take n)
theorem RMs.drop{K:X6}{H:Hp}:∀{m:List MV} {v:List V} (n:Nat),RMs K H m v->RMs K H (m.drop n) (v.drop n)
 |_,_,0,r=>r
 |_,_,_+1,.nil=>.nil
 |_,_,n+1,.cons _ t=>t.drop n
theorem RMs.set{K:X6}{H:Hp}{x:MV}{u:V}(r:RM K H x u):∀{m:List MV} {v:List V} (i:Nat),RMs K H m v->RMs K H (m.set i x) (v.set i u)
 |_,_,_,.nil=>.nil
 |_,_,0,.cons _ t=>.cons r t
 |_,_,i+1,.cons q t=>.cons q (t.set r i)
theorem RMs.ints{K:X6}{H:Hp}:∀ns:List Int,RMs K H (ns.map MV.int) (ns.map V.int)
 |[]=>.nil
 |n::r=>.cons (.int n) (RMs.ints r)
theorem RMs.ints_of{K:X6}{H:Hp}:∀{ns:List Int} {vs:List V},RMs K H (ns.map MV.int) vs->vs=ns.map V.int
 |[],_,.nil=>rfl
 |n::r,_,.cons (.int _) t=>by rw[t.ints_of];rfl
inductive MO where
 |lst (xs:List MV)|dic (kvs:List (Key×MV))|ins (c:Str) (fs:List (Str×MV))
 |fdic (o:Obj) (kvs:List (Key×MV))
noncomputable abbrev MH:=Addr->Option MO
noncomputable def updM(M:MH)(a:Addr)(o:MO):MH:=λb=>if b=a then some o else M b
theorem Xh{M:MH}{a:Addr}{o:MO}:updM M a o a=some o:=by unfold updM;rw[if_pos rfl]
theorem XD{M:MH}{a b:Addr}{o:MO}(h:b≠a):updM M a o b=M b:=by unfold updM;rw[if_neg h]
theorem BV{M:MH}{a:Addr}{o u:MO}:updM (updM M a o) a u=updM M a u:=by funext b;unfold updM;split<;>rfl
inductive RKs {κ:Type} (K:X6) (H:Hp):List (κ×MV)->List (κ×V)->Prop
 |nil:RKs K H [] []
 |cons {k:κ} {x:MV} {v:V} {xs:List (κ×MV)} {vs:List (κ×V)}:RM K H x v->RKs K H xs vs->RKs K H ((k,x)::xs) ((k,v)::vs)
theorem RKs.mono{κ:Type}{K:X6}{H H':Hp}(k:Kp H H'):∀{m:List (κ×MV)} {v:List (κ×V)},RKs K H m v->RKs K H' m v
 |_,_,.nil=>.nil
 |_,_,.cons a b=>.cons (a.mono k) (b.mono k)
theorem RKs.length{κ:Type}{K:X6}{H:Hp}:∀{m:List (κ×MV)} {v:List (κ×V)},RKs K H m v->m.length=v.length
 |_,_,.nil=>rfl
 |_,_,.cons _ b=>by rw[YG,YG,b.length]
section
variable{κ:Type} [DecidableEq κ]
noncomputable def valM(kvs:List (κ×MV))(k:κ):Option MV:=match kvs with
 |[]=>none
 |(j,v)::r=>if j=k then some v else valM r k
noncomputable def putM(kvs:List (κ×MV))(k:κ)(v:MV):List (κ×MV):=match kvs with
 |[]=>[(k,v)]
 |(j,u)::r=>if j=k then(j,v)::r else(j,u)::putM r k v
end
noncomputable def RO(K:X6)(H:Hp):MO->HO->Prop
 |.lst xs,.lst vs=>RMs K H xs vs
 |.dic kvs,.dK vs=>RKs K H kvs vs/\(kvs.map (·.1)).Nodup
 |.ins c fs,.ins C _ vs=>Xi K Xf c=some (some (.ref C))/\RKs K H fs vs
 |.fdic o kvs,.frz o' (.dK vs)=>o=o'/\RKs K H kvs vs/\(kvs.map (·.1)).Nodup
 |_,_=>False
theorem RO.mono{K:X6}{H H':Hp}(k:Kp H H'){o:MO}{u:HO}(h:RO K H o u):RO K H' o u:=by
 cases o with
 |lst xs=>cases u<;>first|exact RMs.mono k h|exact h.elim
 |dic kvs=>cases u<;>first|exact⟨h.1.mono k,h.2⟩|exact h.elim
 |ins c fs=>cases u<;>first|exact⟨h.1,h.2.mono k⟩|exact h.elim
 |fdic ob kvs=>
  cases u with
  |frz o' u=>cases u<;>first|exact⟨h.1,h.2.1.mono k,h.2.2⟩|exact h.elim
  |_=>exact h.elim
noncomputable def RH(K:X6)(M:MH)(H:Hp):Prop:=∀a o,M a=some o->∃u,H a=some u/\RO K H o u
theorem RH.free{K:X6}{M:MH}{H:Hp}(r:RH K M H){p:Addr}(h:H p=none):M p=none:=by
 cases e:M p with
 |none=>rfl
 |some o=>obtain⟨u,hu,_⟩:=r p o e;rw[hu]at h;cases h
theorem RH.lst{K:X6}{M:MH}{H:Hp}(r:RH K M H){p:Addr}{xs:List MV}(h:M p=some (.lst xs)):∃vs,H p=some (.lst vs)/\RMs K H xs vs:=by
 obtain⟨u,hu,ro⟩:=r p _ h;cases u<;>try exact ro.elim
 exact⟨_,hu,ro⟩
theorem RH.dic{K:X6}{M:MH}{H:Hp}(r:RH K M H){p:Addr}{xs:List (Key×MV)}(h:M p=some (.dic xs)):∃vs,H p=some (.dK vs)/\RKs K H xs vs/\(xs.map (·.1)).Nodup:=by
 obtain⟨u,hu,ro⟩:=r p _ h;cases u<;>try exact ro.elim
 exact⟨_,hu,ro.1,ro.2⟩
theorem RH.fdic{K:X6}{M:MH}{H:Hp}(r:RH K M H){p:Addr}{o:Obj}{xs:List (Key×MV)}(h:M p=some (.fdic o xs)):∃vs,H p=some (.frz o (.dK vs))/\RKs K H xs vs/\(xs.map (·.1)).Nodup:=by
 obtain⟨u,hu,ro⟩:=r p _ h;cases u with
 |frz o' u=>
  cases u<;>try exact ro.elim
  obtain⟨rfl,r1,r2⟩:=ro;exact⟨_,hu,r1,r2⟩
 |_=>exact ro.elim
theorem RH.ins{K:X6}{M:MH}{H:Hp}(r:RH K M H){p:Addr}{c:Str}{fs:List (Str×MV)}(h:M p=some (.ins c fs)):∃C dx vs,H p=some (.ins C dx vs)/\Xi K Xf c=some (some (.ref C))/\RKs K H fs vs:=by
 obtain⟨u,hu,ro⟩:=r p _ h;cases u<;>try exact ro.elim
 exact⟨_,_,_,hu,ro.1,ro.2⟩
theorem RH.put{K:X6}{M:MH}{H:Hp}(r:RH K M H){p:Addr}{u:HO}{o:MO}(k:Kp H (upd H p u))(ro:RO K (upd H p u) o u):RH K (updM M p o) (upd H p u):=by
 intro a o' e;by_cases h:a=p
 ·subst h;rw[Xh]at e;cases e;exact⟨u,Uj,ro⟩
 ·rw[XD h]at e;obtain⟨v,hv,rv⟩:=r a o' e;exact⟨v,by rw[XN h];exact hv,rv.mono k⟩
theorem RH.kept{K:X6}{M:MH}{H:Hp}(r:RH K M H){p:Addr}(hp:H p=none)(u:HO):RH K M (upd H p u):=by
 intro a o' e;obtain⟨v,hv,rv⟩:=r a o' e;exact⟨v,by rw[XN (VI hv hp)];exact hv,rv.mono (Kp.new hp u)⟩
noncomputable abbrev Sm:=List (Option MV)
noncomputable abbrev QM:=MV->MH->Prop
noncomputable abbrev TEm:=Sm->MH->QM->Prop
noncomputable abbrev TAm:=Sm->MH->(List MV->MH->Prop)->Prop
noncomputable def RS(K:X6)(H:Hp)(σm:Sm)(σ:St):Prop:=σm.length=σ.length/\∀(i:Nat) (m:MV),σm[i]?=some (some m)->∃v,σ[i]?=some (some v)/\RM K H m v
theorem RS.mono{K:X6}{H H':Hp}(k:Kp H H'){σm:Sm}{σ:St}(h:RS K H σm σ):RS K H' σm σ:=⟨h.1,λi m e=>by
 obtain⟨v,hv,r⟩:=h.2 i m e;exact⟨v,hv,r.mono k⟩⟩
theorem RS.set{K:X6}{H:Hp}{σm:Sm}{σ:St}(h:RS K H σm σ){m:MV}{v:V}(r:RM K H m v)(i:Nat):RS K H (σm.set i (some m)) (σ.set i (some v)):=by
 refine⟨by simp[h.1],λj x e=>?_⟩
 rw[A3]at e;by_cases hij:i=j
 ·subst hij;rw[if_pos rfl]at e;split at e
  ·cases e;exact⟨v,by rw[A3,if_pos rfl,if_pos (by rw[<- h.1];assumption)],r⟩
  ·cases e
 ·rw[if_neg hij]at e;obtain⟨u,hu,ru⟩:=h.2 j x e;exact⟨u,by rw[A3,if_neg hij];exact hu,ru⟩
noncomputable def Dn(K:X6)(H:Hp)(Q:VK):QM:=λm M=>∀v H',Kp H H'->RM K H' m v->RH K M H'->Q v H'
theorem Dn.on{K:X6}{H H1:Hp}{Q:VK}(k:Kp H H1){m:MV}{M:MH}(h:Dn K H Q m M):Dn K H1 Q m M:=λv H' k' r rh=>h v H' (k.trans k') r rh
noncomputable def liE(K:X6)(t:TEm):TE:=λσ H Q=>∃σm M,RS K H σm σ/\RH K M H/\t σm M (Dn K H Q)
noncomputable def liA(K:X6)(t:TAm):TA:=λσ H Q=>∃σm M,RS K H σm σ/\RH K M H/\t σm M (λms M'=>∀vs H',Kp H H'->RMs K H' ms vs->RH K M' H'->Q vs H')
noncomputable def MonE(t:TEm):Prop:=∀{σ M} {Q Q':QM},(∀m M',Q m M'->Q' m M')->t σ M Q->t σ M Q'
noncomputable def MonA(t:TAm):Prop:=∀{σ M} {Q Q':List MV->MH->Prop},(∀m M',Q m M'->Q' m M')->t σ M Q->t σ M Q'
noncomputable abbrev W1:=MV->MH->QM->Prop
noncomputable abbrev W2:=MV->MV->MH->QM->Prop
noncomputable abbrev WA:=List MV->MH->QM->Prop
noncomputable def Mon1(w:W1):Prop:=∀{x M} {Q Q':QM},(∀m M',Q m M'->Q' m M')->w x M Q->w x M Q'
noncomputable def Mon2(w:W2):Prop:=∀{x y M} {Q Q':QM},(∀m M',Q m M'->Q' m M')->w x y M Q->w x y M Q'
noncomputable def MonW(w:WA):Prop:=∀{xs M} {Q Q':QM},(∀m M',Q m M'->Q' m M')->w xs M Q->w xs M Q'
noncomputable def li1(K:X6)(w:W1):V->Hp->VK->Prop:=λx H Q=>∃mx M,RM K H mx x/\RH K M H/\w mx M (Dn K H Q)
noncomputable def li2(K:X6)(w:W2):R2:=λx y H Q=>∃mx my M,RM K H mx x/\RM K H my y/\RH K M H/\w mx my M (Dn K H Q)
noncomputable def liW(K:X6)(w:WA):List V->Hp->VK->Prop:=λxs H Q=>∃ms M,RMs K H ms xs/\RH K M H/\w ms M (Dn K H Q)
section
variable{K:X6}
theorem Dz{ta tb:TEm}{w:W2}(ma:MonE ta)(mb:MonE tb)(mw:Mon2 w){σ:St}{H:Hp}{Q:VK}
  (h:liE K (λσ M Q=>ta σ M λx M1=>tb σ M1 λy M2=>w x y M2 Q) σ H Q):tOp (li2 K w) (liE K ta) (liE K tb) σ H Q:=by
 obtain⟨σm,M,rs,rh,h⟩:=h;refine⟨σm,M,rs,rh,ma (λx M1 h1=>?_) h⟩;intro v H1 k1 r1 rh1;refine⟨σm,M1,rs.mono k1,rh1,mb (λy M2 h2=>?_) h1⟩;intro u H2 k2 r2 rh2;exact⟨x,y,M2,r1.mono k2,r2,rh2,mw (λm M' hq=>hq.on (k1.trans k2)) h2⟩
end
theorem PE.weak{X:Cx}{e:Expr}{t t':TE}(h:PE X e t)(i:∀σ H Q,t' σ H Q->t σ H Q):PE X e t':=λpins s σ H Q I q=>h pins s σ H Q I (i _ _ _ q)
theorem PT.weak{X:Cx}{e:Expr}{t t':TT}(h:PT X e t)(i:∀σ H Q,t' σ H Q->t σ H Q):PT X e t':=λpins s σ H Q I q=>h pins s σ H Q I (i _ _ _ q)
theorem PW.weak{X:Cx}{e:Expr}{t t':TT}(h:PW X e t)(i:∀σ H Q,t' σ H Q->t σ H Q):PW X e t':=λwh pins s σ H Q I q=>h wh pins s σ H Q I (i _ _ _ q)
theorem PA.weak{X:Cx}{e:List Expr}{t t':TA}(h:PA X e t)(i:∀σ H Q,t' σ H Q->t σ H Q):PA X e t':=λpos pins s σ H Q I q=>h pos pins s σ H Q I (i _ _ _ q)
theorem PS.weak{X:Cx}{e:Stmt}{t t':TS}(h:PS X e t)(i:∀D σ H,t' D σ H->t D σ H):PS X e t':=λpins s σ H D I q=>h pins s σ H D I (i _ _ _ q)
theorem PSs.weak{X:Cx}{e:List Stmt}{t t':TS}(h:PSs X e t)(i:∀D σ H,t' D σ H->t D σ H):PSs X e t':=λpins s σ H D I q=>h pins s σ H D I (i _ _ _ q)
noncomputable def wBin(op:UJ)(x y:MV)(M:MH)(Q:QM):Prop:=match op,x,y with
 |.Add,.int i,.int j=>Q (.int (i+j)) M
 |.Sub,.int i,.int j=>Q (.int (i - j)) M
 |.Mult,.int i,.int j=>CMul i j/\Q (.int (i*j)) M
 |.FloorDiv,.int i,.int j=>Ak i j/\Q (.int (i/j)) M
 |.Mod,.int i,.int j=>0<j/\Q (.int (i%j)) M
 |.LShift,.int i,.int j=>CPow i j/\Q (.int (i*2^j.toNat)) M
 |.Add,.str i,.str j=>i.length+j.length≤sizeLine/\Q (.str (i++j)) M
 |.Mult,.str z,.int i=>z.length≤16/\ -1000≤i/\i≤1000/\Q (.str (Txt.mul z i)) M
 |.Add,.tup xs,.tup ys=>xs≠ []/\xs.length+ys.length≤sizeLine/\Q (.tup (xs++ys)) M
 |_,_,_=>False
theorem HY(op:UJ):Mon2 (wBin op):=by
 intro x y M Q Q' hq h;unfold wBin at h ⊢;split at h
 all_goals first
  |exact hq _ _ h
  |exact h.elim
  |exact⟨h.1,hq _ _ h.2⟩
  |exact⟨h.1,h.2.1,hq _ _ h.2.2⟩
  |exact⟨h.1,h.2.1,h.2.2.1,hq _ _ h.2.2.2⟩
  |(obtain⟨xs,ys,h1,h2,h3,h4⟩:=h
    exact⟨xs,ys,h1,h2,h3,λp hp=>hq _ _ (h4 p hp)⟩)
  |(obtain⟨ys,h2,h3,h4⟩:=h
    exact⟨ys,h2,h3,λp hp=>hq _ _ (h4 p hp)⟩)
  |(obtain⟨ys,h2,h3,h4,h5,h6⟩:=h
    exact⟨ys,h2,h3,h4,h5,λp hp=>hq _ _ (h6 p hp)⟩)
section
variable{X:Cx}
theorem Tx(op:UJ):OpR X (Z6 op) (li2 X.K (wBin op)):=by
 intro pins s σ H x y v u Q I rx ry h;obtain⟨mx,my,M,r1,r2,rh,h⟩:=h;unfold wBin at h;split at h
 ·cases r1;cases r2;exact Qy pins s σ H _ _ v u Q I rx ry ⟨_,_,rfl,rfl,h _ _ (Kp.refl _) (.int _) rh⟩
 ·cases r1;cases r2;exact Qz pins s σ H _ _ v u Q I rx ry ⟨_,_,rfl,rfl,h _ _ (Kp.refl _) (.int _) rh⟩
 ·cases r1;cases r2;exact QA pins s σ H _ _ v u Q I rx ry ⟨_,_,rfl,rfl,h.1,h.2 _ _ (Kp.refl _) (.int _) rh⟩
 ·cases r1;cases r2;exact RV pins s σ H _ _ v u Q I rx ry ⟨_,_,rfl,rfl,h.1,h.2 _ _ (Kp.refl _) (.int _) rh⟩
 ·cases r1;cases r2;exact QB pins s σ H _ _ v u Q I rx ry ⟨_,_,rfl,rfl,h.1,h.2 _ _ (Kp.refl _) (.int _) rh⟩
 ·cases r1;cases r2;exact QC pins s σ H _ _ v u Q I rx ry ⟨_,_,rfl,rfl,h.1,h.2 _ _ (Kp.refl _) (.int _) rh⟩
 ·cases r1;cases r2;exact QR pins s σ H _ _ v u Q I rx ry ⟨_,_,rfl,rfl,h.1,h.2 _ _ (Kp.refl _) (.str _) rh⟩
 ·cases r1;cases r2;exact S3 pins s σ H _ _ v u Q I rx ry ⟨_,_,rfl,rfl,h.1,h.2.1,h.2.2.1,h.2.2.2 _ _ (Kp.refl _) (.str _) rh⟩
 ·rename_i xs ys
  cases r1 with
  |tup h1 q1=>
   rename_i a vs
   cases r2 with
   |tup h2 q2=>
    rename_i b us
    obtain⟨h3,h4,h5⟩:=h;refine Rk pins s σ H _ _ v u Q I rx ry ⟨_,_,vs,us,rfl,rfl,SqT.of h1,SqT.of h2,λz=>h3 ?_,by rw[<- q1.length,<- q2.length];exact h4,λz=>?_,λz p hp=>?_⟩
    ·subst z;cases q1;rfl
    ·subst z;cases q2;rw[Wc]at h5;exact h5 _ _ (Kp.refl _) (.tup h1 q1) rh
    ·have k:=Kp.new hp (.tup (vs++us));exact h5 _ _ k (.tup Uj ((q1.append q2).mono k)) (rh.kept hp _)
 ·exact h.elim
end
mutual
inductive DM (M:MH):MV->Yx->Prop
 |non:DM M .non .none
 |bl (b:Bool):DM M (.bl b) (.bool b)
 |int (i:Int):DM M (.int i) (.int i)
 |str (x:Str):DM M (.str x) (.str x)
 |lst {a:Addr} {xs:List MV} {ds:List Yx}:M a=some (.lst xs)->DMs M xs ds->DM M (.ref a) (.list ds)
 |frl {xs:List MV} {ds:List Yx}:DMs M xs ds->DM M (.frl xs) (.list ds)
 |tup {xs:List MV} {ds:List Yx}:DMs M xs ds->DM M (.tup xs) (.tuple ds)
inductive DMs (M:MH):List MV->List Yx->Prop
 |nil:DMs M [] []
 |cons {x:MV} {xs:List MV} {d:Yx} {ds:List Yx}:DM M x d->DMs M xs ds->DMs M (x::xs) (d::ds)
end
mutual
theorem DM.dp{K:X6}{M:MH}{H:Hp}(rh:RH K M H):∀{m:MV} {d:Yx} {v:V},DM M m d->RM K H m v->Dp K H v d
 |_,_,_,.non,.non=>.non
 |_,_,_,.bl b,.bl _=>.bl b
 |_,_,_,.int i,.int _=>.int i
 |_,_,_,.str x,.str _=>.str x
 |_,_,_,.lst h q,r=>by
  cases r;obtain⟨vs,e,r⟩:=rh.lst h;exact .lst (SqL.of e) (DMs.dp rh q r)
 |_,_,_,.frl q,.frl h r=>.lst h.sq (DMs.dp rh q r)
 |_,_,_,.tup q,.tup h r=>.tup (SqT.of h) (DMs.dp rh q r)
theorem DMs.dp{K:X6}{M:MH}{H:Hp}(rh:RH K M H):∀{m:List MV} {d:List Yx} {v:List V},DMs M m d->RMs K H m v->DpAll K H v d
 |_,_,_,.nil,.nil=>.nil
 |_,_,_,.cons a b,.cons c d=>.cons (DM.dp rh a c) (DMs.dp rh b d)
end
noncomputable def eqS:MV->MV->Option Bool
 |.int i,.int j=>some (decide (i=j))
 |.str i,.str j=>some (decide (i=j))
 |.bl i,.bl j=>some (decide (i=j))
 |.non,.non=>some true
 |.non,.int _=>some false|.int _,.non=>some false|.non,.bl _=>some false|.bl _,.non=>some false|.non,.str _=>some false|.str _,.non=>some false
 |.int _,.str _=>some false|.str _,.int _=>some false|.bl _,.str _=>some false|.str _,.bl _=>some false
 |_,_=>none
theorem HZ{K:X6}{H:Hp}{x y:MV}{u v:V}{b:Bool}(h:eqS x y=some b)(r:RM K H x u)(q:RM K H y v):scal u v=true/\decide (u=v)=b:=by
 unfold eqS at h;split at h<;>cases h<;>cases r<;>cases q<;>refine⟨rfl,?_⟩
 ·rw[decide_eq_decide];exact⟨V.int.inj,λe=>by rw[e]⟩
 ·rw[decide_eq_decide];exact⟨V.str.inj,λe=>by rw[e]⟩
 ·rw[decide_eq_decide];exact⟨V.bl.inj,λe=>by rw[e]⟩
 all_goals rfl
inductive DHits (M:MH) (kb:List (Key×MV)):List (Key×MV)->Bool->Prop
 |nil:DHits M kb [] true
 |miss {k:Key} {v:MV} {r:List (Key×MV)}:valM kb k=none->DHits M kb ((k,v)::r) false
 |hit {k:Key} {v y:MV} {d e:Yx} {r:List (Key×MV)} {b:Bool}:valM kb k=some y->DM M v d->DM M y e->SeqAt.shaped d=true->SeqAt.shaped e=true->DHits M kb r b->DHits M kb ((k,v)::r) (PyData.eqv d e&&b)
noncomputable def LstM(M:MH)(x:MV)(xs:List MV):Prop:=x=.frl xs\/∃a,x=.ref a/\M a=some (.lst xs)
noncomputable def Yv:MV->Bool
 |.non=>true|.bl _=>true|.int _=>true|.str _=>true|_=>false
noncomputable def Alike(M:MH):Nat->MV->MV->Prop
 |0,x,y=>Yv x=true/\x=y
 |n+1,x,y=>(Yv x=true/\x=y)\/(∃xs ys,x=.tup xs/\y=.tup ys/\xs.length=ys.length/\∀(i:Nat) u v,xs[i]?=some u->ys[i]?=some v->Alike M n u v)\/
  (∃xs ys,LstM M x xs/\LstM M y ys/\xs.length=ys.length/\∀(i:Nat) u v,xs[i]?=some u->ys[i]?=some v->Alike M n u v)\/
  ∃a b ka kb,x=.ref a/\y=.ref b/\M a=some (.dic ka)/\M b=some (.dic kb)/\ka.length=kb.length/\∀k u,(k,u)∈ka->∃v,valM kb k=some v/\Alike M n u v
noncomputable def wEq(x y:MV)(M:MH)(k:Bool->Prop):Prop:=match eqS x y with
 |some b=>k b
 |none=>(∃n≤60,Alike M n x y/\k true)\/(∃a b xs,x=.ref a/\y=.ref b/\M a=some (.lst xs)/\M b=some (.lst [])/\k xs.isEmpty)\/False\/False
noncomputable def toV:MV->V
 |.non=>.non|.bl b=>.bl b|.int i=>.int i|.str x=>.str x|_=>.non
theorem UR{K:X6}{H:Hp}{m:MV}{v:V}(f:Yv m=true)(r:RM K H m v):v=toV m/\UA v=true:=by
 cases r<;>first|exact⟨rfl,rfl⟩|cases f
theorem VN{K:X6}{H:Hp}:∀{m:List MV} {v:List V},m.all Yv=true->RMs K H m v->v=m.map toV/\v.all UA=true
 |_,_,_,.nil=>⟨rfl,rfl⟩
 |_,_,f,.cons r t=>by
  rw[Vx,YA]at f;obtain⟨e,g⟩:=UR f.1 r;obtain⟨e2,g2⟩:=VN f.2 t;subst e e2;exact⟨rfl,by rw[Vx,g,g2];rfl⟩
noncomputable def keyM:MV->Option Key
 |.int i=>some (.inl i)
 |.str x=>some (.inr x)
 |_=>none
theorem Aq{K:X6}{H:Hp}{m:MV}{v:V}{k:Key}(e:keyM m=some k)(r:RM K H m v):v=kV k:=by
 cases r<;>cases e<;>rfl
theorem Wx{K:X6}{H:Hp}{k:Key}:∀{m:List (Key×MV)} {v:List (Key×V)},RKs K H m v->(valM m k=none/\valV v k=none)\/∃x u,valM m k=some x/\valV v k=some u/\RM K H x u
 |_,_,.nil=>.inl ⟨rfl,rfl⟩
 |_,_,.cons (k:=j) (x:=x) (v:=u) r t=>by
  by_cases e:j=k
  ·refine .inr ⟨x,u,?_,BP (p:=(j,u)) e,r⟩;unfold valM;rw[if_pos e]
  ·have:=Wx (k:=k) t;unfold valM;rw[if_neg e,BQ (p:=(j,u)) e];exact this
theorem I0{K:X6}{H:Hp}{k:Key}:∀{m:List (Key×MV)} {v:List (Key×V)},RKs K H m v->(v.any λkv=>decide (kv.1=k))=(m.any λkv=>decide (kv.1=k))
 |_,_,.nil=>rfl
 |_,_,.cons r t=>by rw[Uv,Uv,I0 t]
theorem DA{K:X6}{H:Hp}{k:Key}{x:MV}{u:V}(r:RM K H x u):∀{m:List (Key×MV)} {v:List (Key×V)},RKs K H m v->
  RKs K H (m.map λkv=>if kv.1=k then(kv.1,x)else kv) (v.map λkv=>if kv.1=k then(kv.1,u)else kv)
 |_,_,.nil=>.nil
 |_,_,.cons (k:=j) q t=>by
  rw[XA,XA];by_cases e:j=k
  ·rw[if_pos e,if_pos e];exact .cons r (DA r t)
  ·rw[if_neg e,if_neg e];exact .cons q (DA r t)
theorem Ia{κ:Type}{K:X6}{H:Hp}:∀{m m':List (κ×MV)} {v v':List (κ×V)},RKs K H m v->RKs K H m' v'->RKs K H (m++m') (v++v')
 |_,_,_,_,.nil,s=>s
 |_,_,_,_,.cons r t,s=>.cons r (Ia t s)
theorem Ib{κ:Type} [DecidableEq κ] {k:κ}{x:MV}:∀{m:List (κ×MV)},¬k∈m.map (·.1)->(m.map λkv=>if kv.1=k then(kv.1,x)else kv)=m
 |[],_=>rfl
 |(j,y)::r,h=>by
  rw[XA,if_neg (λe=>h (by simp[show j=k from e])),Ib (λe=>h (by simp[e]))]
theorem Ic{κ:Type} [DecidableEq κ] {k:κ}{x:MV}:∀{m:List (κ×MV)},(m.map (·.1)).Nodup->putM m k x=if(m.any λkv=>decide (kv.1=k))=true then m.map (λkv=>if kv.1=k then(kv.1,x)else kv)else m++[(k,x)]
 |[],_=>rfl
 |(j,y)::r,h=>by
  rw[XA,YH]at h;unfold putM;rw[Uv];by_cases e:j=k
  ·subst e;rw[if_pos rfl,if_pos (by simp),XA,if_pos rfl,Ib h.1]
  ·rw[if_neg e,Ic h.2,show decide ((j,y).1=k)=false from decide_eq_false e,Bool.false_or,XA,if_neg (show¬(j,y).1=k from e)];split<;>rfl
theorem Id{κ:Type} [DecidableEq κ] {k:κ}{x:MV}:∀(m:List (κ×MV)),((putM m k x).map (·.1))=if k∈m.map (·.1)then m.map (·.1)else m.map (·.1)++[k]
 |[]=>rfl
 |(j,y)::r=>by
  unfold putM;by_cases e:j=k
  ·subst e;simp
  ·rw[if_neg e,XA,Id r,XA];have e':k≠j:=λz=>e z.symm;by_cases m:k∈r.map (·.1)
   ·rw[if_pos m,if_pos (Xu.mpr (.inr m))]
   ·rw[if_neg m,if_neg (λz=>(Xu.mp z).elim e' m)];rfl
theorem Ie{K:X6}{H:Hp}{k:Key}{x:MV}{u:V}(r:RM K H x u){m:List (Key×MV)}{v:List (Key×V)}(nd:(m.map (·.1)).Nodup)(h:RKs K H m v):
  RKs K H (putM m k x) (putK v k u)/\((putM m k x).map (·.1)).Nodup:=by
 refine⟨?_,?_⟩
 ·rw[Ic nd];unfold putK;rw[I0 h];split
  ·exact DA r h
  ·exact Ia h (.cons r .nil)
 ·rw[Id];split
  ·exact nd
  ·exact Hu nd (by assumption)
noncomputable def wIn(x y:MV)(M:MH)(k:Bool->Prop):Prop:=match y with
 |.tup xs=>Yv x=true/\xs.all Yv=true/\k (inV (toV x) (xs.map toV))
 |.frl xs=>Yv x=true/\xs.all Yv=true/\k (inV (toV x) (xs.map toV))
 |.ref a=>(∃xs,M a=some (.lst xs)/\Yv x=true/\xs.all Yv=true/\k (inV (toV x) (xs.map toV)))\/∃kvs kk,M a=some (.dic kvs)/\keyM x=some kk/\k (valM kvs kk).isSome
 |_=>False
noncomputable def YX:MV->Bool
 |.non=>true|_=>false
noncomputable def isBl(b:Bool):MV->Bool
 |.bl c=>decide (c=b)
 |_=>false
noncomputable def wCmp(op:Yw)(x y:MV)(M:MH)(Q:QM):Prop:=match op with
 |.Lt=>∃i j,x=.int i/\y=.int j/\Q (.bl (decide (i<j))) M
 |.LtE=>(∃i j,x=.int i/\y=.int j/\Q (.bl (decide (i≤j))) M)\/∃i j,x=.str i/\y=.str j/\Q (.bl (!decide (j.cps.toList<i.cps.toList))) M
 |.Gt=>∃i j,x=.int i/\y=.int j/\Q (.bl (decide (j<i))) M
 |.GtE=>∃i j,x=.int i/\y=.int j/\Q (.bl (decide (j≤i))) M
 |.Eq=>wEq x y M λb=>Q (.bl b) M
 |.NotEq=>wEq x y M λb=>Q (.bl (!b)) M
 |.In=>wIn x y M λb=>Q (.bl b) M
 |.NotIn=>wIn x y M λb=>Q (.bl (!b)) M
 |.Is=>(y=.non/\Q (.bl (YX x)) M)\/∃b,y=.bl b/\Q (.bl (isBl b x)) M
 |.IsNot=>(y=.non/\Q (.bl (!YX x)) M)\/∃b,y=.bl b/\Q (.bl (!isBl b x)) M
theorem Ig{x y:MV}{M:MH}{k k':Bool->Prop}(hk:∀b,k b->k' b)(h:wEq x y M k):wEq x y M k':=by
 unfold wEq at h ⊢;split
 ·rename_i b e;rw[e]at h;exact hk _ h
 ·rename_i e;rw[e]at h;rcases h with⟨n,h1,h2,h3⟩|⟨a,b,xs,h1,h2,h3,h4,h5⟩|h|h
  ·exact .inl ⟨n,h1,h2,hk _ h3⟩
  ·exact .inr (.inl ⟨a,b,xs,h1,h2,h3,h4,hk _ h5⟩)
  ·exact h.elim
  ·exact h.elim
theorem Ih{x y:MV}{M:MH}{k k':Bool->Prop}(hk:∀b,k b->k' b)(h:wIn x y M k):wIn x y M k':=by
 unfold wIn at h ⊢;split at h
 ·exact⟨h.1,h.2.1,hk _ h.2.2⟩
 ·exact⟨h.1,h.2.1,hk _ h.2.2⟩
 ·rcases h with⟨xs,h1,h2,h3,h4⟩|⟨kvs,kk,h1,h2,h3⟩
  ·exact .inl ⟨xs,h1,h2,h3,hk _ h4⟩
  ·exact .inr ⟨kvs,kk,h1,h2,hk _ h3⟩
 ·exact h.elim
theorem Wy(op:Yw):Mon2 (wCmp op):=by
 intro x y M Q Q' hq h;cases op
 ·exact Ig (k:=λb=>Q (.bl b) M) (k':=λb=>Q' (.bl b) M) (λb h=>hq _ _ h) h
 ·exact Ig (k:=λb=>Q (.bl (!b)) M) (k':=λb=>Q' (.bl (!b)) M) (λb h=>hq _ _ h) h
 ·obtain⟨i,j,h1,h2,h3⟩:=h;exact⟨i,j,h1,h2,hq _ _ h3⟩
 ·rcases h with⟨i,j,h1,h2,h3⟩|⟨i,j,h1,h2,h3⟩
  ·exact .inl ⟨i,j,h1,h2,hq _ _ h3⟩
  ·exact .inr ⟨i,j,h1,h2,hq _ _ h3⟩
 ·obtain⟨i,j,h1,h2,h3⟩:=h;exact⟨i,j,h1,h2,hq _ _ h3⟩
 ·obtain⟨i,j,h1,h2,h3⟩:=h;exact⟨i,j,h1,h2,hq _ _ h3⟩
 ·rcases h with h|⟨b,e,h⟩
  ·exact .inl ⟨h.1,hq _ _ h.2⟩
  ·exact .inr ⟨b,e,hq _ _ h⟩
 ·rcases h with h|⟨b,e,h⟩
  ·exact .inl ⟨h.1,hq _ _ h.2⟩
  ·exact .inr ⟨b,e,hq _ _ h⟩
 ·exact Ih (k:=λb=>Q (.bl b) M) (k':=λb=>Q' (.bl b) M) (λb h=>hq _ _ h) h
 ·exact Ih (k:=λb=>Q (.bl (!b)) M) (k':=λb=>Q' (.bl (!b)) M) (λb h=>hq _ _ h) h
section
variable{X:Cx}
theorem Ii{K:X6}{H:Hp}{m:MV}{v:V}{b:Bool}(r:RM K H m v):decide (v=.bl b)=isBl b m:=by
 cases r<;>first|rfl|(rename_i c;cases b<;>cases c<;>rfl)
theorem Ij{K:X6}{H:Hp}{m:MV}{v:V}(r:RM K H m v):decide (v=.non)=YX m:=by cases r<;>rfl
theorem Ty{kvs:List (Key×V)}{vs:List (Key×X0)}{k:Key}{v:V}(r:KV kvs vs)(h:valV kvs k=some v):∃u,Z3 vs k=some u/\RelV v u:=by
 have q:=r.val k;rw[h]at q;exact RelO.some_of q
theorem LstM.sq{M:MH}{H:Hp}(rh:RH X.K M H){x:MV}{xs:List MV}{u:V}(h:LstM M x xs)(r:RM X.K H x u):∃a vs,u=.ref a/\SqL X.K H a vs/\RMs X.K H xs vs:=by
 rcases h with rfl|⟨a,rfl,h⟩
 ·cases r with
  |frl h1 q1=>exact⟨_,_,rfl,h1.sq,q1⟩
 ·cases r;obtain⟨vs,e,q⟩:=rh.lst h;exact⟨a,vs,rfl,SqL.of e,q⟩
theorem BW{xs:List V}{us:List X0}(r:Vals xs us){i:Nat}{u:X0}(h:us[i]?=some u):∃x,xs[i]?=some x/\RelV x u:=by
 induction r generalizing i with
 |nil=>cases h
 |cons q _ ih=>
  cases i with
  |zero=>cases h;exact⟨_,rfl,q⟩
  |succ i=>exact ih (i:=i) h
theorem Tz{kvs:List (Key×V)}{vs:List (Key×X0)}(r:KV kvs vs){k:Key}{u:X0}(h:(k,u)∈vs):∃x,(k,x)∈kvs/\RelV x u:=by
 induction r with
 |nil=>cases h
 | @cons p p' _ _ q _ ih=>
  obtain⟨k1,x1⟩:=p;obtain⟨k2,x2⟩:=p';rcases Xu.mp h with e|h
  ·cases e;have e1:k1=k:=q.1;subst e1;exact⟨x1,Ya,q.2⟩
  ·obtain⟨x,m,rx⟩:=ih h;exact⟨x,Y5 _ m,rx⟩
theorem Ik{K:X6}{H:Hp}{k:Key}{v:V}:∀{m:List (Key×MV)} {vs:List (Key×V)},RKs K H m vs->(k,v)∈vs->∃x,(k,x)∈m/\RM K H x v
 |_,_,.nil,h=>by cases h
 |_,_,.cons r t,h=>by
  rcases Xu.mp h with e|h
  ·cases e;exact⟨_,Ya,r⟩
  ·obtain⟨x,m,q⟩:=Ik t h;exact⟨x,Y5 _ m,q⟩
theorem Alike.inn{pins:List (Addr×Obj)}{s:X1}{σ:St}{H:Hp}{M:MH}(I:Inv X pins σ H s)(rh:RH X.K M H){n:Nat}{A:Xs}(hu:A.units<cLine)
  (ih:∀{x y:MV} {u v:V} {u' v':X0},Alike M n x y->RM X.K H x u->RM X.K H y v->RelV u u'->RelV v v'->AliP X.prog X.w A.in1 s u' v')
  {x y:MV} {u v:V} {u' v':X0} (h:Alike M (n+1) x y) (r1:RM X.K H x u) (r2:RM X.K H y v) (q1:RelV u u') (q2:RelV v v'):
  (Yv x=true/\x=y)\/∃a b,u'=.ref a/\v'=.ref b/\RcP X.prog X.w A s (.ref a) (.ref b)/\RnP X.prog X.w A s (.ref a) (.ref b):=by
 rw[Alike]at h;rcases h with h|⟨xs,ys,rfl,rfl,e,h⟩|⟨xs,ys,h1,h2,e,h⟩|⟨a,b,ka,kb,rfl,rfl,h1,h2,e,h⟩
 ·exact .inl h
 ·cases r1 with
  |tup g1 w1=>
   cases r2 with
   |tup g2 w2=>
    rename_i a vs b us
    obtain rfl:u'=XC a:=q1;obtain rfl:v'=XC b:=q2;obtain⟨i1,p1,t1,_⟩:=I.tuple (SqT.of g1);obtain⟨i2,p2,t2,_⟩:=I.tuple (SqT.of g2);have z:i1.toArray.size=i2.toArray.size:=by rw[XT,XT,<- p1.length,<- p2.length,<- w1.length,<- w2.length];exact e
    have he:∀p∈i1.toArray.toList.zip i2.toArray.toList,AliP X.prog X.w A.in1 s p.1 p.2:=by
     intro p hp;obtain⟨i,hi⟩:=List.mem_iff_getElem?.mp hp;rw[FQ]at hi;obtain⟨x1,c1,d1⟩:=BW p1 hi.1;obtain⟨x2,c2,d2⟩:=BW p2 hi.2;obtain⟨m1,c3,d3⟩:=w1.get' c1;obtain⟨m2,c4,d4⟩:=w2.get' c2;exact ih (h i m1 m2 c3 c4) d3 d4 d1 d2
    exact .inr ⟨_,_,rfl,rfl,S6 t1 t2 z hu he,S9 t1 t2 z hu he⟩
 ·obtain⟨a,vs,rfl,g1,w1⟩:=h1.sq rh r1;obtain⟨b,us,rfl,g2,w2⟩:=h2.sq rh r2;obtain rfl:u'=XC a:=q1;obtain rfl:v'=XC b:=q2;obtain⟨i1,p1,⟨o1,n1,t1,t2,_,t3⟩,_⟩:=I.list g1;obtain⟨i2,p2,⟨o2,n2,t4,t5,_,t6⟩,_⟩:=I.list g2;have z:i1.toArray.size=i2.toArray.size:=by rw[XT,XT,<- p1.length,<- p2.length,<- w1.length,<- w2.length];exact e
  have he:∀j (h1:j<i1.toArray.size) (h2:j<i2.toArray.size),AliP X.prog X.w A.in1 s i1.toArray[j] i2.toArray[j]:=by
   intro i l1 l2;obtain⟨x1,c1,d1⟩:=BW p1 (i:=i) (u:=i1.toArray[i]) (by simp[X8 (show i<i1.length by simpa using l1)])
   obtain⟨x2,c2,d2⟩:=BW p2 (i:=i) (u:=i2.toArray[i]) (by simp[X8 (show i<i2.length by simpa using l2)])
   obtain⟨m1,c3,d3⟩:=w1.get' c1;obtain⟨m2,c4,d4⟩:=w2.get' c2;exact ih (h i m1 m2 c3 c4) d3 d4 d1 d2
  exact .inr ⟨_,_,rfl,rfl,S8 ⟨o1,t1,t2,n1,t3⟩ ⟨o2,t4,t5,n2,t6⟩ z hu he,Sb ⟨o1,t1,t2,n1,t3⟩ ⟨o2,t4,t5,n2,t6⟩ z hu he⟩
 ·cases r1;cases r2;obtain rfl:u'=XC a:=q1;obtain rfl:v'=XC b:=q2;obtain⟨va,ea,wa,_⟩:=rh.dic h1;obtain⟨vb,eb,wb,_⟩:=rh.dic h2;obtain⟨_,na,ua,pa,da⟩:=Dt I.hok ea;obtain⟨_,nb,ub,pb,db⟩:=Dt I.hok eb;have z:ua.length=ub.length:=by rw[<- Paired.length pa,<- wa.length,<- Paired.length pb,<- wb.length];exact e
  have he:∀p∈ua,∃y,Z3 ub p.1=some y/\AliP X.prog X.w A.in1 s p.2 y:=by
   rintro⟨k,u1⟩ hp;obtain⟨x1,c1,d1⟩:=Tz pa hp;obtain⟨m1,c2,d2⟩:=Ik wa c1;obtain⟨m2,c3,c4⟩:=h k m1 c2;rcases Wx (k:=k) wb with⟨z1,z2⟩|⟨x',u2,z1,z2,r3⟩
   ·rw[c3]at z1;cases z1
   ·rw[c3]at z1;cases z1;obtain⟨w',hw,rw'⟩:=Ty pb z2;exact⟨w',hw,ih c4 d2 r3 d1 rw'⟩
  exact .inr ⟨_,_,rfl,rfl,Sc na nb da db hu z he,Sd na nb da db hu z he⟩
theorem Il{K:X6}{H:Hp}{A:Xs}{s:X1}{P:Xm}{w:Xj}{x:MV}{u v:V}{u' v':X0}(f:Yv x=true)(r1:RM K H x u)(r2:RM K H x v)(q1:RelV u u')(q2:RelV v v'):AliP P w A s u' v':=by
 obtain⟨rfl,f1⟩:=UR f r1;obtain⟨rfl,f2⟩:=UR f r2;have h:=Hi (A:=A) (s:=s) q1 q2 f1 f2;have e:eqV (toV x) (toV x)=true:=by cases x<;>first|(cases f;done)|simp[toV,eqV]
 rw[e]at h;exact .of_at h
theorem Alike.ok{pins:List (Addr×Obj)}{s:X1}{σ:St}{H:Hp}{M:MH}(I:Inv X pins σ H s)(rh:RH X.K M H):∀(n:Nat) {A:Xs} {x y:MV} {u v:V} {u' v':X0},A.units+n<cLine->Alike M n x y->RM X.K H x u->RM X.K H y v->RelV u u'->RelV v v'->AliP X.prog X.w A s u' v'
 |0,A,x,y,u,v,u',v',hu,h,r1,r2,q1,q2=>by
  rw[Alike]at h;obtain⟨f,rfl⟩:=h;exact Il f r1 r2 q1 q2
 |n+1,A,x,y,u,v,u',v',hu,h,r1,r2,q1,q2=>by
  rcases Alike.inn I rh (A:=A) (by lia) (λh r1 r2 q1 q2=>Alike.ok I rh n (show A.units+1+n<cLine by lia) h r1 r2 q1 q2) h r1 r2 q1 q2 with⟨f,rfl⟩|⟨a,b,rfl,rfl,h,_⟩
  ·exact Il f r1 r2 q1 q2
  ·exact .refs h
theorem Alike.top{pins:List (Addr×Obj)}{s:X1}{σ:St}{H:Hp}{M:MH}(I:Inv X pins σ H s)(rh:RH X.K M H){n:Nat}{x y:MV}{u v:V}{u' v':X0}(h:Alike M n x y)(hu:X.A.units+n<cLine)(ns:eqS x y=none)(r1:RM X.K H x u)(r2:RM X.K H y v)(q1:RelV u u')(q2:RelV v v'):
  RcP X.prog X.w X.A s u' v'/\RnP X.prog X.w X.A s u' v':=by
 have no:¬(Yv x=true/\x=y):=by
  rintro⟨f,rfl⟩;cases x<;>first|(cases f;done)|(cases ns;done)
 cases n with
 |zero=>rw[Alike]at h;exact(no h).elim
 |succ n=>
  rcases Alike.inn I rh (A:=X.A) (by lia) (λh r1 r2 q1 q2=>Alike.ok I rh n (show X.A.units+1+n<cLine by lia) h r1 r2 q1 q2) h r1 r2 q1 q2 with f|⟨a,b,rfl,rfl,h,h'⟩
  ·exact(no f).elim
  ·exact⟨h,h'⟩
theorem Wz(hu:X.A.units+70<cLine)(op:Yw):OpR X (Y2 op) (li2 X.K (wCmp op)):=by
 intro pins s σ H x y v u Q I rx ry h;obtain⟨mx,my,M,r1,r2,rh,h⟩:=h;have hb:∀b,Dn X.K H Q (.bl b) M->Q (.bl b) H:=λb h=>h _ _ (Kp.refl _) (.bl b) rh;have hu1:X.A.units+1<cLine:=by lia
 have hu64:X.A.units+64<cLine:=by lia
 have huI:X.A.in1.units+64<cLine:=by show X.A.units+1+64<cLine;lia
 have hu0:X.A.units<cLine:=by lia
 cases op with
 |Lt=>obtain⟨i,j,rfl,rfl,h⟩:=h;cases r1;cases r2;exact QG pins s σ H _ _ v u Q I rx ry ⟨_,_,rfl,rfl,hb _ h⟩
 |LtE=>
  rcases h with⟨i,j,rfl,rfl,h⟩|⟨i,j,rfl,rfl,h⟩
  ·cases r1;cases r2;exact QH pins s σ H _ _ v u Q I rx ry ⟨_,_,rfl,rfl,hb _ h⟩
  ·cases r1;cases r2;obtain⟨t1,rfl⟩:=rx;obtain⟨t2,rfl⟩:=ry;exact PySem.P.le_str ⟨.bl _,H,I,rfl,hb _ h⟩
 |Gt=>obtain⟨i,j,rfl,rfl,h⟩:=h;cases r1;cases r2;exact QI pins s σ H _ _ v u Q I rx ry ⟨_,_,rfl,rfl,hb _ h⟩
 |GtE=>obtain⟨i,j,rfl,rfl,h⟩:=h;cases r1;cases r2;exact QJ pins s σ H _ _ v u Q I rx ry ⟨_,_,rfl,rfl,hb _ h⟩
 |Is=>
  rcases h with⟨rfl,h⟩|⟨b,rfl,h⟩
  ·cases r2;exact QK pins s σ H _ _ v u Q I rx ry ⟨rfl,by rw[Ij r1];exact hb _ h⟩
  ·cases r2;exact T2 pins s σ H _ _ v u Q I rx ry ⟨b,rfl,by rw[Ii r1];exact hb _ h⟩
 |IsNot=>
  rcases h with⟨rfl,h⟩|⟨b,rfl,h⟩
  ·cases r2;exact QL pins s σ H _ _ v u Q I rx ry ⟨rfl,by rw[Ij r1];exact hb _ h⟩
  ·cases r2;exact T3 pins s σ H _ _ v u Q I rx ry ⟨b,rfl,by rw[Ii r1];exact hb _ h⟩
 |Eq=>
  have h:wEq mx my M λb=>Dn X.K H Q (.bl b) M:=h;unfold wEq at h;split at h
  ·rename_i b e
   obtain⟨e1,e2⟩:=HZ e r1 r2;exact QE pins s σ H _ _ v u Q I rx ry ⟨e1,by rw[e2];exact hb _ h⟩
  ·rcases h with⟨n,h1,h2,h3⟩|⟨a,b,xs,rfl,rfl,h3,h4,h5⟩|h|h
   ·exact(h2.top I rh (by lia) (by assumption) r1 r2 rx ry).1 _ _ ⟨.bl true,H,I,rfl,hb _ h3⟩
   ·cases r1;cases r2;obtain⟨vs,e1,q1⟩:=rh.lst h3;obtain⟨us,e2,q2⟩:=rh.lst h4;cases q2;refine S4 hu0 pins s σ H _ _ v u Q I rx ry ⟨_,_,vs,rfl,rfl,SqL.of e1,SqL.of e2,?_⟩;have:vs.isEmpty=xs.isEmpty:=by cases q1<;>rfl
    rw[this];exact hb _ h5
   ·exact h.elim
   ·exact h.elim
 |NotEq=>
  have h:wEq mx my M λb=>Dn X.K H Q (.bl (!b)) M:=h;unfold wEq at h;split at h
  ·rename_i b e
   obtain⟨e1,e2⟩:=HZ e r1 r2;exact QF pins s σ H _ _ v u Q I rx ry ⟨e1,by rw[e2];exact hb _ h⟩
  ·rcases h with⟨n,h1,h2,h3⟩|⟨a,b,xs,rfl,rfl,h3,h4,h5⟩|h|h
   ·exact(h2.top I rh (by lia) (by assumption) r1 r2 rx ry).2 _ _ ⟨.bl false,H,I,rfl,hb _ h3⟩
   ·cases r1;cases r2;obtain⟨vs,e1,q1⟩:=rh.lst h3;obtain⟨us,e2,q2⟩:=rh.lst h4;cases q2;refine S5 hu0 pins s σ H _ _ v u Q I rx ry ⟨_,_,vs,rfl,rfl,SqL.of e1,SqL.of e2,?_⟩;have:vs.isEmpty=xs.isEmpty:=by cases q1<;>rfl
    rw[this];exact hb _ h5
   ·exact h.elim
   ·exact h.elim
 |In=>
  have h:wIn mx my M λb=>Dn X.K H Q (.bl b) M:=h;unfold wIn at h;split at h
  ·cases r2 with
   |tup h1 q1=>
    obtain⟨f1,f2,h⟩:=h;obtain⟨e1,g1⟩:=UR f1 r1;obtain⟨e2,g2⟩:=VN f2 q1;exact Dm pins s σ H _ _ v u Q I rx ry ⟨_,_,rfl,.inr (SqT.of h1),g1,g2,by rw[e1,e2];exact hb _ h⟩
  ·cases r2 with
   |frl h1 q1=>
    obtain⟨f1,f2,h⟩:=h;obtain⟨e1,g1⟩:=UR f1 r1;obtain⟨e2,g2⟩:=VN f2 q1;exact Dm pins s σ H _ _ v u Q I rx ry ⟨_,_,rfl,.inl h1.sq,g1,g2,by rw[e1,e2];exact hb _ h⟩
  ·cases r2;rcases h with⟨xs,h1,f1,f2,h⟩|⟨kvs,kk,h1,h2,h⟩
   ·obtain⟨vs,e,q1⟩:=rh.lst h1;obtain⟨e1,g1⟩:=UR f1 r1;obtain⟨e2,g2⟩:=VN f2 q1;exact Dm pins s σ H _ _ v u Q I rx ry ⟨_,_,rfl,.inl (SqL.of e),g1,g2,by rw[e1,e2];exact hb _ h⟩
   ·obtain⟨vs,e,q1,_⟩:=rh.dic h1;have:=Aq h2 r1;subst this;obtain rfl:u=XC _:=ry;refine d_in hu1 I (DGet.k (k:=kk) e) rx λs3 I3=>⟨.bl _,H,I3,rfl,?_⟩;rcases Wx (k:=kk) q1 with⟨z1,z2⟩|⟨x',u',z1,z2,_⟩
    ·rw[z2];rw[z1]at h;exact hb _ h
    ·rw[z2];rw[z1]at h;exact hb _ h
  ·exact h.elim
 |NotIn=>
  have h:wIn mx my M λb=>Dn X.K H Q (.bl (!b)) M:=h;unfold wIn at h;split at h
  ·cases r2 with
   |tup h1 q1=>
    obtain⟨f1,f2,h⟩:=h;obtain⟨e1,g1⟩:=UR f1 r1;obtain⟨e2,g2⟩:=VN f2 q1;exact Do pins s σ H _ _ v u Q I rx ry ⟨_,_,rfl,.inr (SqT.of h1),g1,g2,by rw[e1,e2];exact hb _ h⟩
  ·cases r2 with
   |frl h1 q1=>
    obtain⟨f1,f2,h⟩:=h;obtain⟨e1,g1⟩:=UR f1 r1;obtain⟨e2,g2⟩:=VN f2 q1;exact Do pins s σ H _ _ v u Q I rx ry ⟨_,_,rfl,.inl h1.sq,g1,g2,by rw[e1,e2];exact hb _ h⟩
  ·cases r2;rcases h with⟨xs,h1,f1,f2,h⟩|⟨kvs,kk,h1,h2,h⟩
   ·obtain⟨vs,e,q1⟩:=rh.lst h1;obtain⟨e1,g1⟩:=UR f1 r1;obtain⟨e2,g2⟩:=VN f2 q1;exact Do pins s σ H _ _ v u Q I rx ry ⟨_,_,rfl,.inl (SqL.of e),g1,g2,by rw[e1,e2];exact hb _ h⟩
   ·obtain⟨vs,e,q1,_⟩:=rh.dic h1;have:=Aq h2 r1;subst this;obtain rfl:u=XC _:=ry;refine RC hu1 I (DGet.k (k:=kk) e) rx λs3 I3=>⟨.bl _,H,I3,rfl,?_⟩;rcases Wx (k:=kk) q1 with⟨z1,z2⟩|⟨x',u',z1,z2,_⟩
    ·rw[z2];rw[z1]at h;exact hb _ h
    ·rw[z2];rw[z1]at h;exact hb _ h
  ·exact h.elim
end
noncomputable def wIx(x y:MV)(M:MH)(Q:QM):Prop:=match x with
 |.tup xs=>∃i v,y=.int i/\atI xs i=some v/\Q v M
 |.frl xs=>∃i v,y=.int i/\atI xs i=some v/\Q v M
 |.str z=>∃i c,y=.int i/\z.length≤sizeLine/\atI z.cps.toList i=some c/\Q (.str ⟨#[c]⟩) M
 |.ref a=>(∃xs i v,M a=some (.lst xs)/\y=.int i/\atI xs i=some v/\Q v M)\/(∃kvs kk v,M a=some (.dic kvs)/\keyM y=some kk/\valM kvs kk=some v/\Q v M)\/∃o kvs kk v,M a=some (.fdic o kvs)/\keyM y=some kk/\valM kvs kk=some v/\Q v M
 |_=>False
theorem Im:Mon2 wIx:=by
 intro x y M Q Q' hq h;unfold wIx at h ⊢;split at h
 ·obtain⟨i,v,h1,h2,h3⟩:=h;exact⟨i,v,h1,h2,hq _ _ h3⟩
 ·obtain⟨i,v,h1,h2,h3⟩:=h;exact⟨i,v,h1,h2,hq _ _ h3⟩
 ·obtain⟨i,v,h1,h2,h3,h4⟩:=h;exact⟨i,v,h1,h2,h3,hq _ _ h4⟩
 ·rcases h with⟨xs,i,v,h1,h2,h3,h4⟩|⟨kvs,kk,v,h1,h2,h3,h4⟩|⟨o,kvs,kk,v,h1,h2,h3,h4⟩
  ·exact .inl ⟨xs,i,v,h1,h2,h3,hq _ _ h4⟩
  ·exact .inr (.inl ⟨kvs,kk,v,h1,h2,h3,hq _ _ h4⟩)
  ·exact .inr (.inr ⟨o,kvs,kk,v,h1,h2,h3,hq _ _ h4⟩)
 ·exact h.elim
theorem RMs.atI{K:X6}{H:Hp}{m:List MV}{v:List V}{i:Int}{x:MV}(r:RMs K H m v)(e:atI m i=some x):∃u,atI v i=some u/\RM K H x u:=by
 unfold L2.atI at e ⊢;rw[<- r.length];cases q:ixN m.length i with
 |none=>rw[q]at e;cases e
 |some j=>rw[q]at e;exact r.get e
section
variable{X:Cx}
theorem Io(hu:X.A.units+1<cLine):IxR X (λx y H Q=>∃a v,x=.ref a/\DGet H a y (some v)/\Q v H):=by
 intro value slice pins s σ H x y v u Q I rx ry h hs;obtain⟨a,w',rfl,g,q⟩:=h;obtain rfl:v=XC a:=rx;exact tail_any (RF I g) PySem.F.slot_dict_getitem.lookup (RB hu I g ry λw2 s3 I3 rw'=>⟨w',H,I3,rw',q⟩) hs
theorem TB(hu:X.A.units+1<cLine):IxR X (li2 X.K wIx):=by
 intro value slice pins s σ H x y v u Q I rx ry h hs;obtain⟨mx,my,M,r1,r2,rh,h⟩:=h;unfold wIx at h;split at h
 ·obtain⟨i,v',rfl,h2,h3⟩:=h;cases r2;cases r1 with
  |tup h1 q1=>
   obtain⟨u',e,r⟩:=q1.atI h2;exact Rn value slice pins s σ H _ _ v u Q I rx ry ⟨_,_,_,u',rfl,rfl,SqT.of h1,e,h3 _ _ (Kp.refl _) r rh⟩ hs
 ·obtain⟨i,v',rfl,h2,h3⟩:=h;cases r2;cases r1 with
  |frl h1 q1=>
   obtain⟨u',e,r⟩:=q1.atI h2;exact Hg value slice pins s σ H _ _ v u Q I rx ry ⟨_,_,_,u',rfl,rfl,h1.sq,e,h3 _ _ (Kp.refl _) r rh⟩ hs
 ·obtain⟨i,c,rfl,h2,h3,h4⟩:=h;cases r1;cases r2;exact Ro value slice pins s σ H _ _ v u Q I rx ry ⟨_,_,c,rfl,rfl,h2,h3,h4 _ _ (Kp.refl _) (.str _) rh⟩ hs
 ·cases r1;rcases h with⟨xs,i,v',h1,rfl,h3,h4⟩|⟨kvs,kk,v',h1,h2,h3,h4⟩|⟨o,kvs,kk,v',h1,h2,h3,h4⟩
  ·cases r2;obtain⟨vs,e,q1⟩:=rh.lst h1;obtain⟨u',e2,r⟩:=q1.atI h3;exact Hg value slice pins s σ H _ _ v u Q I rx ry ⟨_,_,_,u',rfl,rfl,SqL.of e,e2,h4 _ _ (Kp.refl _) r rh⟩ hs
  ·obtain⟨vs,e,q1,_⟩:=rh.dic h1;have ek:=Aq h2 r2;rcases Wx (k:=kk) q1 with⟨z1,z2⟩|⟨x',u',z1,z2,r'⟩
   ·rw[z1]at h3;cases h3
   ·rw[z1]at h3;cases h3;have g:=DGet.k (k:=kk) e;rw[z2]at g;subst ek;exact Io hu value slice pins s σ H _ _ v u Q I rx ry ⟨_,u',rfl,g,h4 _ _ (Kp.refl _) r' rh⟩ hs
  ·obtain⟨vs,e,q1,_⟩:=rh.fdic h1;have ek:=Aq h2 r2;rcases Wx (k:=kk) q1 with⟨z1,z2⟩|⟨x',u',z1,z2,r'⟩
   ·rw[z1]at h3;cases h3
   ·rw[z1]at h3;cases h3;have g:DGet H _ (kV kk) (valV vs kk):=.inl ⟨vs,kk,.inr ⟨o,e⟩,rfl,rfl⟩;rw[z2]at g;subst ek;exact Io hu value slice pins s σ H _ _ v u Q I rx ry ⟨_,u',rfl,g,h4 _ _ (Kp.refl _) r' rh⟩ hs
 ·exact h.elim
end
noncomputable def cutM(xs:List MV)(lo hi:Option Int):List MV:=(xs.drop (HT.sIx xs.length 0 lo)).take (HT.sIx xs.length xs.length hi - HT.sIx xs.length 0 lo)
theorem RMs.cut{K:X6}{H:Hp}{m:List MV}{v:List V}(r:RMs K H m v)(lo hi:Option Int):RMs K H (cutM m lo hi) (cutV v lo hi):=by
 unfold cutM cutV;rw[<- r.length];exact(r.drop _).take _
noncomputable abbrev WS:=MV->Option Int->Option Int->MH->QM->Prop
noncomputable def wSl:WS:=λx lo hi M Q=>match x with
 |.tup xs=>Q (.tup (cutM xs lo hi)) M
 |.frl xs=>∀p,M p=none->Q (.ref p) (updM M p (.lst (cutM xs lo hi)))
 |.ref a=>∃xs,M a=some (.lst xs)/\∀p,M p=none->Q (.ref p) (updM M p (.lst (cutM xs lo hi)))
 |.str z=>z.length≤sizeLine/\Q (.str (cutS z lo hi)) M
 |_=>False
theorem Ip{x:MV}{lo hi:Option Int}{M:MH}{Q Q':QM}(hq:∀m M',Q m M'->Q' m M')(h:wSl x lo hi M Q):wSl x lo hi M Q':=by
 unfold wSl at h ⊢;split at h
 ·exact hq _ _ h
 ·exact λp hp=>hq _ _ (h p hp)
 ·obtain⟨xs,h1,h2⟩:=h;exact⟨xs,h1,λp hp=>hq _ _ (h2 p hp)⟩
 ·exact⟨h.1,hq _ _ h.2⟩
 ·exact h.elim
noncomputable def liS(K:X6)(w:WS):V->Option Int->Option Int->Hp->VK->Prop:=λx lo hi H Q=>∃mx M,RM K H mx x/\RH K M H/\w mx lo hi M (Dn K H Q)
section
variable{X:Cx}
theorem TC:SlR X (liS X.K wSl):=by
 intro pins s σ H x v vl vu lo hi sl Q I rx hs pl pu h;obtain⟨mx,M,r1,rh,h⟩:=h;unfold wSl at h;split at h
 ·rename_i ms
  cases r1 with
  |tup h1 q1=>
   rename_i vs
   by_cases hw:HT.sIx ms.length 0 lo=0/\HT.sIx ms.length ms.length hi=ms.length
   ·have e:cutM ms lo hi=ms:=by unfold cutM;rw[hw.1,hw.2,Bj,Bw,Bi]
    rw[e]at h;refine Tr pins s σ H _ v vl vu lo hi sl Q I rx hs pl pu ⟨_,_,rfl,SqT.of h1,by rw[<- q1.length];exact hw.1,by rw[<- q1.length];exact hw.2,?_⟩
    exact h _ _ (Kp.refl _) (.tup h1 q1) rh
   refine Ri pins s σ H _ v vl vu lo hi sl Q I rx hs pl pu ⟨_,_,rfl,SqT.of h1,by rw[<- q1.length];exact hw,λp hp=>?_⟩
   have k:=Kp.new hp (.tup (cutV vs lo hi));exact h _ _ k (.tup Uj ((q1.cut lo hi).mono k)) (rh.kept hp _)
 ·cases r1 with
  |frl h1 q1=>
   rename_i vs
   refine Hh pins s σ H _ v vl vu lo hi sl Q I rx hs pl pu ⟨_,_,rfl,h1.sq,λp hp=>?_⟩;have k:=Kp.new hp (.lst (cutV vs lo hi));exact h p (rh.free hp) _ _ k (.ref p) (rh.put k ((q1.cut lo hi).mono k))
 ·cases r1;obtain⟨xs,h1,h⟩:=h;obtain⟨vs,e,q1⟩:=rh.lst h1;refine Hh pins s σ H _ v vl vu lo hi sl Q I rx hs pl pu ⟨_,_,rfl,SqL.of e,λp hp=>?_⟩;have k:=Kp.new hp (.lst (cutV vs lo hi));exact h p (rh.free hp) _ _ k (.ref p) (rh.put k ((q1.cut lo hi).mono k))
 ·cases r1;exact Tg pins s σ H _ v vl vu lo hi sl Q I rx hs pl pu ⟨_,rfl,h.1,h.2 _ _ (Kp.refl _) (.str _) rh⟩
 ·exact h.elim
end
noncomputable def tyM(M:MH):MV->Option Ty7
 |.non=>some .none|.bl _=>some .bool|.int _=>some .int|.str _=>some .str|.tup _=>some .tuple
 |.ref a=>match M a with|some (.lst _)=>some .list|some (.dic _)=>some .dict|_=>none
 |_=>none
noncomputable def isTy:Ty7->Ty7->Bool
 |.bool,.int=>true
 |a,b=>decide (a=b)
theorem DB(K:X6)(T c:Ty7)(hc:c≠.none):Vz K (.type T.name) (.type c.name)=some (isTy T c):=by
 cases T<;>cases c<;>first|exact absurd rfl hc|with_unfolding_all rfl
theorem Iq{K:X6}{M:MH}{H:Hp}{m:MV}{v:V}{T:Ty7}(rh:RH K M H)(r:RM K H m v)(e:tyM M m=some T):TyOf K H v (.type T.name):=by
 cases r with
 |non=>cases e;exact .non
 |bl b=>cases e;exact .bl b
 |int i=>cases e;exact .int i
 |str x=>cases e;exact .str x
 |tup h _=>cases e;exact .tup h
 |frl _ _=>cases e
 |ty _=>cases e
 |ref a=>
  unfold tyM at e;dsimp only at e;cases q:M a with
  |none=>rw[q]at e;cases e
  |some o=>
   rw[q]at e;cases o with
   |lst xs=>cases e;obtain⟨vs,h,_⟩:=rh.lst q;exact .lst h
   |dic kvs=>cases e;obtain⟨vs,h,_⟩:=rh.dic q;exact .dK h
   |ins _ _=>cases e
   |fdic _ _=>cases e
inductive BI where|len|isinst|max|min|sum|abs|int|list|tuple|dict|sorted|dictL|all
  deriving DecidableEq
noncomputable def bLen(vs:List MV)(M:MH)(Q:QM):Prop:=match vs with
 |[.tup xs]=>Q (.int xs.length) M
 |[.frl xs]=>Q (.int xs.length) M
 |[.str z]=>z.length≤sizeLine/\Q (.int z.length) M
 |[.ref a]=>(∃xs,M a=some (.lst xs)/\Q (.int xs.length) M)\/∃kvs,M a=some (.dic kvs)/\Q (.int kvs.length) M
 |_=>False
noncomputable def bIsi(vs:List MV)(M:MH)(Q:QM):Prop:=match vs with
 |[x,.ty c]=>∃T,tyM M x=some T/\c≠.none/\Q (.bl (isTy T c)) M
 |[x,.tup [.ty c,.ty d]]=>∃T,tyM M x=some T/\c≠.none/\d≠.none/\Q (.bl (isTy T c||isTy T d)) M
 |_=>False
noncomputable def bMax(vs:List MV)(M:MH)(Q:QM):Prop:=match vs with
 |[.int i,.int j]=>Q (.int (if j>i then j else i)) M
 |[.ref a]=>∃ns:List Int,M a=some (.lst (ns.map MV.int))/\0<ns.length/\∀m,m∈ns->(∀x∈ns,x≤m)->Q (.int m) M
 |_=>False
noncomputable def bMin(vs:List MV)(M:MH)(Q:QM):Prop:=match vs with
 |[.int i,.int j]=>Q (.int (if j<i then j else i)) M
 |[.ref a]=>∃ns:List Int,M a=some (.lst (ns.map MV.int))/\0<ns.length/\∀m,m∈ns->(∀x∈ns,m≤x)->Q (.int m) M
 |_=>False
noncomputable def bAbs(vs:List MV)(M:MH)(Q:QM):Prop:=match vs with
 |[.int i]=>Q (.int (if i<0 then -i else i)) M
 |_=>False
noncomputable def bInt(vs:List MV)(M:MH)(Q:QM):Prop:=match vs with
 |[.int i]=>Q (.int i) M
 |[.bl k]=>Q (.int (if k then 1 else 0)) M
 |_=>False
noncomputable def bLst(vs:List MV)(M:MH)(Q:QM):Prop:=match vs with
 |[.tup xs]=>∀p,M p=none->Q (.ref p) (updM M p (.lst xs))
 |[.frl xs]=>∀p,M p=none->Q (.ref p) (updM M p (.lst xs))
 |[.ref a]=>∃xs,M a=some (.lst xs)/\∀p,M p=none->Q (.ref p) (updM M p (.lst xs))
 |_=>False
noncomputable def bTup(vs:List MV)(M:MH)(Q:QM):Prop:=match vs with
 |[.tup xs]=>Q (.tup xs) M
 |[.frl xs]=>Q (.tup xs) M
 |[.ref a]=>∃xs,M a=some (.lst xs)/\Q (.tup xs) M
 |_=>False
noncomputable def prM(p:Key×MV):MV:=.tup [match p.1 with|.inl i=>.int i|.inr x=>.str x,p.2]
noncomputable def US(ps:List (Key×MV)):List (Key×MV):=ps.foldl (λc z=>putM c z.1 z.2) []
noncomputable def bDic(vs:List MV)(M:MH)(Q:QM):Prop:=match vs with
 |[.ref a]=>∃kvs,M a=some (.dic kvs)/\∀p,M p=none->Q (.ref p) (updM M p (.dic kvs))
 |[.tup xs]=>∃ps:List (Key×MV),xs=ps.map prM/\∀p,M p=none->Q (.ref p) (updM M p (.dic (US ps)))
 |_=>False
noncomputable def bDcl(vs:List MV)(M:MH)(Q:QM):Prop:=match vs with
 |[.ref a]=>∃ps:List (Key×MV),M a=some (.lst (ps.map prM))/\∀p,M p=none->Q (.ref p) (updM M p (.dic (US ps)))
 |_=>False
theorem DC{K:X6}{H:Hp}:∀{ps:List (Key×MV)} {vs:List V},RMs K H (ps.map prM) vs->∃ps':List (Key×V),Dy H ps' vs/\RKs K H ps ps'
 |[],_,.nil=>⟨[],.nil,.nil⟩
 |(k,x)::r,_,.cons (.tup e t) u=>by
  obtain⟨ps',h1,h2⟩:=DC u;cases t with
  |cons t1 t2=>
   cases t2 with
   |cons t3 t4=>
    cases t4
    rename_i v1 v2
    refine⟨(k,v2)::ps',.cons ⟨_,rfl,?_⟩ h1,.cons t3 h2⟩;rw[e];cases k<;>cases t1<;>rfl
theorem DD{K:X6}{H:Hp}:∀{ps:List (Key×MV)} {ps':List (Key×V)} {c:List (Key×MV)} {c':List (Key×V)},RKs K H ps ps'->RKs K H c c'->(c.map (·.1)).Nodup->
  RKs K H (ps.foldl (λc z=>putM c z.1 z.2) c) (ps'.foldl (λc z=>putK c z.1 z.2) c')/\((ps.foldl (λc z=>putM c z.1 z.2) c).map (·.1)).Nodup
 |_,_,_,_,.nil,h,nd=>⟨h,nd⟩
 |_,_,_,_,.cons r t,h,nd=>by
  obtain⟨a,b⟩:=Ie r nd h;have z:=DD t a b;exact z
noncomputable def bAll(vs:List MV)(M:MH)(Q:QM):Prop:=match vs with
 |[.ref a]=>∃bs:List Bool,M a=some (.lst (bs.map MV.bl))/\Q (.bl (bs.all id)) M
 |_=>False
theorem RMs.bls_of{K:X6}{H:Hp}:∀{bs:List Bool} {vs:List V},RMs K H (bs.map MV.bl) vs->vs=bs.map V.bl
 |[],_,.nil=>rfl
 |n::r,_,.cons (.bl _) t=>by rw[t.bls_of];rfl
noncomputable def wBi(f:BI)(vs:List MV)(M:MH)(Q:QM):Prop:=match f with
 |.len=>bLen vs M Q
 |.isinst=>bIsi vs M Q
 |.max=>bMax vs M Q
 |.min=>bMin vs M Q
 |.sum=>False
 |.abs=>bAbs vs M Q
 |.int=>bInt vs M Q
 |.list=>bLst vs M Q
 |.tuple=>bTup vs M Q
 |.dict=>bDic vs M Q
 |.sorted=>False
 |.dictL=>bDcl vs M Q
 |.all=>bAll vs M Q
theorem TD:MonW bLen:=by
 intro vs M Q Q' hq h;unfold bLen at h ⊢;split at h
 ·exact hq _ _ h
 ·exact hq _ _ h
 ·exact⟨h.1,hq _ _ h.2⟩
 ·rcases h with⟨xs,h1,h2⟩|⟨xs,h1,h2⟩
  ·exact .inl ⟨xs,h1,hq _ _ h2⟩
  ·exact .inr ⟨xs,h1,hq _ _ h2⟩
 ·exact h.elim
theorem Ir(f:BI):MonW (wBi f):=by
 intro vs M Q Q' hq h;cases f
 ·exact TD hq h
 ·have h:bIsi vs M Q:=h;show bIsi vs M Q';unfold bIsi at h ⊢;split at h
  ·obtain⟨T,h1,h2,h3⟩:=h;exact⟨T,h1,h2,hq _ _ h3⟩
  ·obtain⟨T,h1,h2,h3,h4⟩:=h;exact⟨T,h1,h2,h3,hq _ _ h4⟩
  ·exact h.elim
 ·have h:bMax vs M Q:=h;show bMax vs M Q';unfold bMax at h ⊢;split at h
  ·exact hq _ _ h
  ·obtain⟨ns,h1,h2,h3⟩:=h;exact⟨ns,h1,h2,λm a b=>hq _ _ (h3 m a b)⟩
  ·exact h.elim
 ·have h:bMin vs M Q:=h;show bMin vs M Q';unfold bMin at h ⊢;split at h
  ·exact hq _ _ h
  ·obtain⟨ns,h1,h2,h3⟩:=h;exact⟨ns,h1,h2,λm a b=>hq _ _ (h3 m a b)⟩
  ·exact h.elim
 ·exact YI h
 ·have h:bAbs vs M Q:=h;show bAbs vs M Q';unfold bAbs at h ⊢;split at h
  ·exact hq _ _ h
  ·exact h.elim
 ·have h:bInt vs M Q:=h;show bInt vs M Q';unfold bInt at h ⊢;split at h
  ·exact hq _ _ h
  ·exact hq _ _ h
  ·exact h.elim
 ·have h:bLst vs M Q:=h;show bLst vs M Q';unfold bLst at h ⊢;split at h
  ·exact λp hp=>hq _ _ (h p hp)
  ·exact λp hp=>hq _ _ (h p hp)
  ·obtain⟨xs,h1,h2⟩:=h;exact⟨xs,h1,λp hp=>hq _ _ (h2 p hp)⟩
  ·exact h.elim
 ·have h:bTup vs M Q:=h;show bTup vs M Q';unfold bTup at h ⊢;split at h
  ·exact hq _ _ h
  ·exact hq _ _ h
  ·obtain⟨xs,h1,h2⟩:=h;exact⟨xs,h1,hq _ _ h2⟩
  ·exact h.elim
 ·have h:bDic vs M Q:=h;show bDic vs M Q';unfold bDic at h ⊢;split at h
  ·obtain⟨xs,h1,h2⟩:=h;exact⟨xs,h1,λp hp=>hq _ _ (h2 p hp)⟩
  ·obtain⟨xs,h1,h2⟩:=h;exact⟨xs,h1,λp hp=>hq _ _ (h2 p hp)⟩
  ·exact h.elim
 ·exact YI h
 ·have h:bDcl vs M Q:=h;show bDcl vs M Q';unfold bDcl at h ⊢;split at h
  ·obtain⟨ps,h1,h2⟩:=h;exact⟨ps,h1,λp hp=>hq _ _ (h2 p hp)⟩
  ·exact h.elim
 ·have h:bAll vs M Q:=h;show bAll vs M Q';unfold bAll at h ⊢;split at h
  ·obtain⟨bs,h1,h2⟩:=h;exact⟨bs,h1,hq _ _ h2⟩
  ·exact h.elim
noncomputable def BI.val:BI->X0
 |.len=>.builtin "len"|.isinst=>.builtin "isinstance"|.max=>.builtin "max"|.min=>.builtin "min"|.sum=>.builtin "sum"|.abs=>.builtin "abs"
 |.int=>.type "int"|.list=>.type "list"|.tuple=>.type "tuple"|.dict=>.type "dict"|.sorted=>.builtin "sorted"|.dictL=>.type "dict"|.all=>.builtin "all"
section
variable{X:Cx}
theorem RMs.one{K:X6}{H:Hp}{m:MV}{vs:List V}(r:RMs K H [m] vs):∃v,vs=[v]/\RM K H m v:=by
 cases r with
 |cons a b=>cases b;exact⟨_,rfl,a⟩
theorem RMs.two{K:X6}{H:Hp}{m n:MV}{vs:List V}(r:RMs K H [m,n] vs):∃v w,vs=[v,w]/\RM K H m v/\RM K H n w:=by
 cases r with
 |cons a b=>obtain⟨w,rfl,c⟩:=b.one;exact⟨_,_,rfl,a,c⟩
theorem TF:CallR X (.type "dict") (fun xs H Q=>∃a kvs,xs=[.ref a]/\H a=some (.dK kvs)/\∀p,H p=none->Q (.ref p) (upd H p (.dK kvs))):=by
 intro pins s σ H xs us Q I r h;obtain⟨a,kvs,rfl,ha,q⟩:=h;obtain⟨u,rfl,ru⟩:=YQ r;cases ru;exact RJ I (.inl ha) λp s' hp I'=>⟨.ref p,_,I',rfl,q p hp⟩
theorem TH(hc:X.calm=true)(f:BI):CallR X f.val (liW X.K (wBi f)):=by
 intro pins s σ H xs us Q I r h;obtain⟨ms,M,r1,rh,h⟩:=h;cases f with
 |len=>
  have h:bLen ms M (Dn X.K H Q):=h;unfold bLen at h;split at h
  ·obtain⟨v,rfl,a⟩:=r1.one;cases a with
   |tup h1 q1=>exact Dq pins s σ H _ us Q I r ⟨_,_,rfl,.inr (SqT.of h1),by rw[<- q1.length];exact h _ _ (Kp.refl _) (.int _) rh⟩
  ·obtain⟨v,rfl,a⟩:=r1.one;cases a with
   |frl h1 q1=>exact Dq pins s σ H _ us Q I r ⟨_,_,rfl,.inl h1.sq,by rw[<- q1.length];exact h _ _ (Kp.refl _) (.int _) rh⟩
  ·obtain⟨v,rfl,a⟩:=r1.one;cases a;exact Rt pins s σ H _ us Q I r ⟨_,rfl,h.1,h.2 _ _ (Kp.refl _) (.int _) rh⟩
  ·obtain⟨v,rfl,a⟩:=r1.one;cases a;rcases h with⟨xs,h1,h⟩|⟨kvs,h1,h⟩
   ·obtain⟨vs,e,q1⟩:=rh.lst h1;exact Dq pins s σ H _ us Q I r ⟨_,_,rfl,.inl (SqL.of e),by rw[<- q1.length];exact h _ _ (Kp.refl _) (.int _) rh⟩
   ·obtain⟨vs,e,q1,_⟩:=rh.dic h1;exact RT pins s σ H _ us Q I r ⟨_,_,rfl,e,by rw[<- q1.length];exact h _ _ (Kp.refl _) (.int _) rh⟩
  ·exact h.elim
 |isinst=>
  have h:bIsi ms M (Dn X.K H Q):=h;unfold bIsi at h;split at h
  ·obtain⟨v,w,rfl,a,b⟩:=r1.two;cases b;obtain⟨T,h1,h2,h3⟩:=h;exact RW pins s σ H _ us Q I r ⟨_,_,_,_,rfl,Iq rh a h1,DB _ _ _ h2,h3 _ _ (Kp.refl _) (.bl _) rh⟩
  ·obtain⟨v,w,rfl,a,b⟩:=r1.two;obtain⟨T,h1,h2,h3,h4⟩:=h;cases b with
   |tup ht qt=>
    cases qt with
    |cons q1 q2=>
     cases q2 with
     |cons q3 q4=>
      cases q4;cases q1;cases q3;exact T5 pins s σ H _ us Q I r ⟨_,_,_,_,_,_,_,rfl,ht,Iq rh a h1,DB _ _ _ h2,DB _ _ _ h3,h4 _ _ (Kp.refl _) (.bl _) rh⟩
  ·exact h.elim
 |max=>
  have h:bMax ms M (Dn X.K H Q):=h;unfold bMax at h;split at h
  ·obtain⟨v,w,rfl,a,b⟩:=r1.two;cases a;cases b;exact QT hc pins s σ H _ us Q I r ⟨_,_,rfl,h _ _ (Kp.refl _) (.int _) rh⟩
  ·obtain⟨v,rfl,a⟩:=r1.one;cases a;obtain⟨ns,h1,h2,h3⟩:=h;obtain⟨vs,e,q1⟩:=rh.lst h1;have:=q1.ints_of;subst this;exact S1 hc pins s σ H _ us Q I r ⟨_,ns,rfl,SqL.of e,h2,λm a b=>h3 m a b _ _ (Kp.refl _) (.int _) rh⟩
  ·exact h.elim
 |min=>
  have h:bMin ms M (Dn X.K H Q):=h;unfold bMin at h;split at h
  ·obtain⟨v,w,rfl,a,b⟩:=r1.two;cases a;cases b;exact QU hc pins s σ H _ us Q I r ⟨_,_,rfl,h _ _ (Kp.refl _) (.int _) rh⟩
  ·obtain⟨v,rfl,a⟩:=r1.one;cases a;obtain⟨ns,h1,h2,h3⟩:=h;obtain⟨vs,e,q1⟩:=rh.lst h1;have:=q1.ints_of;subst this;exact S0 hc pins s σ H _ us Q I r ⟨_,ns,rfl,SqL.of e,h2,λm a b=>h3 m a b _ _ (Kp.refl _) (.int _) rh⟩
  ·exact h.elim
 |sum=>exact YI h
 |abs=>
  have h:bAbs ms M (Dn X.K H Q):=h;unfold bAbs at h;split at h
  ·obtain⟨v,rfl,a⟩:=r1.one;cases a;exact QS pins s σ H _ us Q I r ⟨_,rfl,h _ _ (Kp.refl _) (.int _) rh⟩
  ·exact h.elim
 |int=>
  have h:bInt ms M (Dn X.K H Q):=h;unfold bInt at h;split at h
  ·obtain⟨v,rfl,a⟩:=r1.one;cases a;exact GR pins s σ H _ us Q I r (.inl ⟨_,rfl,h _ _ (Kp.refl _) (.int _) rh⟩)
  ·obtain⟨v,rfl,a⟩:=r1.one;cases a;exact GR pins s σ H _ us Q I r (.inr ⟨_,rfl,h _ _ (Kp.refl _) (.int _) rh⟩)
  ·exact h.elim
 |list=>
  have h:bLst ms M (Dn X.K H Q):=h;unfold bLst at h;split at h
  ·obtain⟨v,rfl,a⟩:=r1.one;cases a with
   |tup h1 q1=>
    refine Dr pins s σ H _ us Q I r ⟨_,_,rfl,.inr (SqT.of h1),λp hp=>?_⟩;have k:=λz=>Kp.new hp (.lst z);exact h p (rh.free hp) _ _ (k _) (.ref p) (rh.put (k _) (q1.mono (k _)))
  ·obtain⟨v,rfl,a⟩:=r1.one;cases a with
   |frl h1 q1=>
    refine Dr pins s σ H _ us Q I r ⟨_,_,rfl,.inl h1.sq,λp hp=>?_⟩;have k:=λz=>Kp.new hp (.lst z);exact h p (rh.free hp) _ _ (k _) (.ref p) (rh.put (k _) (q1.mono (k _)))
  ·obtain⟨v,rfl,a⟩:=r1.one;cases a;obtain⟨xs,h1,h⟩:=h;obtain⟨vs,e,q1⟩:=rh.lst h1;refine Dr pins s σ H _ us Q I r ⟨_,_,rfl,.inl (SqL.of e),λp hp=>?_⟩;have k:=Kp.new hp (.lst vs);exact h p (rh.free hp) _ _ k (.ref p) (rh.put k (q1.mono k))
  ·exact h.elim
 |tuple=>
  have h:bTup ms M (Dn X.K H Q):=h;unfold bTup at h;split at h
  ·obtain⟨v,rfl,a⟩:=r1.one;cases a with
   |tup h1 q1=>exact Ds pins s σ H _ us Q I r ⟨_,_,rfl,.inr ⟨SqT.of h1,h _ _ (Kp.refl _) (.tup h1 q1) rh⟩⟩
  ·obtain⟨v,rfl,a⟩:=r1.one;cases a with
   |frl h1 q1=>
    refine Ds pins s σ H _ us Q I r ⟨_,_,rfl,.inl ⟨h1.sq,λp hp=>?_⟩⟩;have k:=λz=>Kp.new hp (.tup z);exact h _ _ (k _) (.tup Uj (q1.mono (k _))) (rh.kept hp _)
  ·obtain⟨v,rfl,a⟩:=r1.one;cases a;obtain⟨xs,h1,h⟩:=h;obtain⟨vs,e,q1⟩:=rh.lst h1;refine Ds pins s σ H _ us Q I r ⟨_,_,rfl,.inl ⟨SqL.of e,λp hp=>?_⟩⟩;have k:=Kp.new hp (.tup vs);exact h _ _ k (.tup Uj (q1.mono k)) (rh.kept hp _)
  ·exact h.elim
 |dict=>
  have h:bDic ms M (Dn X.K H Q):=h;unfold bDic at h;split at h
  ·obtain⟨v,rfl,a⟩:=r1.one;cases a;obtain⟨kvs,h1,h⟩:=h;obtain⟨vs,e,q1,nd⟩:=rh.dic h1;refine TF pins s σ H _ us Q I r ⟨_,_,rfl,e,λp hp=>?_⟩;have k:=Kp.new hp (.dK vs);exact h p (rh.free hp) _ _ k (.ref p) (rh.put k ⟨q1.mono k,nd⟩)
  ·obtain⟨v,rfl,a⟩:=r1.one;obtain⟨ps,rfl,h2⟩:=h;cases a with
   |tup e q1=>
    obtain⟨ps',pv,rk⟩:=DC q1;refine Tc hc pins s σ H _ us Q I r ⟨_,ps',_,rfl,e,pv,λp hp=>?_⟩;have k:=Kp.new hp (.dK (UC ps'));obtain⟨z1,z2⟩:=DD rk (.nil:RKs X.K H [] []) (by simp)
    exact h2 p (rh.free hp) _ _ k (.ref p) (rh.put k ⟨z1.mono k,z2⟩)
  ·exact h.elim
 |sorted=>exact YI h
 |dictL=>
  have h:bDcl ms M (Dn X.K H Q):=h;unfold bDcl at h;split at h
  ·obtain⟨v,rfl,a⟩:=r1.one;cases a;obtain⟨ps,h1,h2⟩:=h;obtain⟨vs,e,q1⟩:=rh.lst h1;obtain⟨ps',pv,rk⟩:=DC q1;refine SS hc pins s σ H _ us Q I r ⟨_,ps',vs,rfl,e,pv,λp hp=>?_⟩;have k:=Kp.new hp (.dK (UC ps'));obtain⟨z1,z2⟩:=DD rk (.nil:RKs X.K H [] []) (by simp)
   exact h2 p (rh.free hp) _ _ k (.ref p) (rh.put k ⟨z1.mono k,z2⟩)
  ·exact h.elim
 |all=>
  have h:bAll ms M (Dn X.K H Q):=h;unfold bAll at h;split at h
  ·obtain⟨v,rfl,a⟩:=r1.one;cases a;obtain⟨bs,h1,h2⟩:=h;obtain⟨vs,e,q1⟩:=rh.lst h1;have:=q1.bls_of;subst this;exact SU hc pins s σ H _ us Q I r ⟨_,bs,rfl,SqL.of e,h2 _ _ (Kp.refl _) (.bl _) rh⟩
  ·exact h.elim
end
theorem RMs.strs{K:X6}{H:Hp}:∀ns:List Str,RMs K H (ns.map MV.str) (ns.map V.str)
 |[]=>.nil
 |n::r=>.cons (.str n) (RMs.strs r)
theorem RMs.strs_of{K:X6}{H:Hp}:∀{ns:List Str} {vs:List V},RMs K H (ns.map MV.str) vs->vs=ns.map V.str
 |[],_,.nil=>rfl
 |n::r,_,.cons (.str _) t=>by rw[t.strs_of];rfl
theorem Iu{K:X6}{H:Hp}(f:Nat->Int):∀l:List Nat,RMs K H (l.map λi=>MV.int (f i)) (l.map λi=>V.int (f i))
 |[]=>.nil
 |_::r=>.cons (.int _) (Iu f r)
theorem TJ{K:X6}{H:Hp}(n:Nat):RMs K H ((XM n).map λi=>MV.int (i:Nat)) ((XM n).map λi=>V.int (i:Nat)):=Iu (λi=>(i:Int)) _
inductive B2 where|ssrt|lset|tset|lrng
  deriving DecidableEq
noncomputable def B2.out:B2->String
 |.ssrt=>"sorted"
 |.lset=>"len"
 |.tset=>"len"
 |.lrng=>"list"
noncomputable def B2.inn:B2->String
 |.ssrt=>"set"
 |.lset=>"set"
 |.tset=>"set"
 |.lrng=>"range"
noncomputable def B2.outV:B2->X0
 |.ssrt=>.builtin "sorted"
 |.lset=>.builtin "len"
 |.tset=>.builtin "len"
 |.lrng=>.type "list"
noncomputable def wB2(f:B2)(v:MV)(M:MH)(Q:QM):Prop:=match f with
 |.ssrt=>∃(a:Addr) (xs N:List Str),v=.ref a/\M a=some (.lst (xs.map MV.str))/\xs.length+1<scanBound/\(∀z∈xs,z∈N)/\N.length<64/\
   ∀p (ys:List Str),M p=none->ys.Nodup->(∀y,y∈ys↔y∈xs)->sortedS ys=true->Q (.ref p) (updM M p (.lst (ys.map MV.str)))
 |.lset=>False
 |.tset=>∃(a:Addr) (xs:List Str),v=.ref a/\M a=some (.lst (xs.map MV.str))/\xs.length+1<scanBound/\∀ys:List Str,ys.Nodup->(∀y,y∈ys↔y∈xs)->Q (.int ys.length) M
 |.lrng=>∃n:Nat,v=.int n/\n≤1000000/\∀p,M p=none->Q (.ref p) (updM M p (.lst ((XM n).map λi=>MV.int (i:Nat))))
theorem Iv(f:B2):Mon1 (wB2 f):=by
 intro v M Q Q' hq h;cases f with
 |ssrt=>
  obtain⟨a,xs,N,h1,h2,h3,h4,h5,h6⟩:=h;exact⟨a,xs,N,h1,h2,h3,h4,h5,λp ys a1 a2 a3 a4=>hq _ _ (h6 p ys a1 a2 a3 a4)⟩
 |lset=>exact YI h
 |tset=>
  obtain⟨a,xs,h1,h2,h3,h4⟩:=h;exact⟨a,xs,h1,h2,h3,λys a1 a2=>hq _ _ (h4 ys a1 a2)⟩
 |lrng=>
  obtain⟨n,h1,h2,h3⟩:=h;exact⟨n,h1,h2,λp hp=>hq _ _ (h3 p hp)⟩
section
variable{X:Cx}
theorem TK(hc:X.calm=true)(f:B2):Wv X f.outV (.type f.inn) (li1 X.K (wB2 f)):=by
 intro pins s σ H x u Q I r h;obtain⟨m,M,r1,rh,h⟩:=h;cases f with
 |ssrt=>
  obtain⟨a,xs,N,rfl,h2,h3,h4,h5,h6⟩:=h;cases r1;obtain⟨vs,e,q1⟩:=rh.lst h2;have:=q1.strs_of;subst this;refine SJ hc pins s σ H _ u Q I r ⟨_,xs,N,rfl,SqL.of e,h3,h4,h5,λp ys hp a1 a2 a3=>?_⟩;have k:=Kp.new hp (.lst (ys.map V.str));exact h6 p ys (rh.free hp) a1 a2 a3 _ _ k (.ref p) (rh.put k (RMs.strs ys))
 |lset=>exact YI h
 |tset=>
  obtain⟨a,xs,rfl,h2,h3,h4⟩:=h;cases r1;obtain⟨vs,e,q1⟩:=rh.lst h2;have:=q1.strs_of;subst this;exact Tw hc pins s σ H _ u Q I r ⟨_,xs,rfl,SqL.of e,h3,λys a1 a2=>h4 ys a1 a2 _ _ (Kp.refl _) (.int _) rh⟩
 |lrng=>
  obtain⟨n,rfl,h2,h3⟩:=h;cases r1;refine Ti hc pins s σ H _ u Q I r ⟨n,rfl,h2,λp hp=>?_⟩;have k:=Kp.new hp (.lst ((XM n).map λi=>V.int (i:Nat)));exact h3 p (rh.free hp) _ _ k (.ref p) (rh.put k (TJ n))
end
inductive MT where|append|extend|reverse|clear|pop|popAt|dclear|dget|dgetD|join|remove
  deriving DecidableEq
noncomputable def wMt(m:MT)(a:Addr)(vs:List MV)(M:MH)(Q:QM):Prop:=∃xs,M a=some (.lst xs)/\match m,vs with
 |.append,[y]=>xs.length<sizeLine/\Q .non (updM M a (.lst (xs++[y])))
 |.extend,[.ref b]=>∃ys,M b=some (.lst ys)/\xs.length+ys.length≤sizeLine/\Q .non (updM M a (.lst (xs++ys)))
 |_,_=>False
noncomputable def wMl(m:MT)(x:MV)(vs:List MV)(M:MH)(Q:QM):Prop:=match x with
 |.ref a=>wMt m a vs M Q
 |_=>False
noncomputable def wMd(m:MT)(x:MV)(vs:List MV)(M:MH)(Q:QM):Prop:=match m with
 |.join=>∃sep b ss,x=.str sep/\vs=[.ref b]/\M b=some (.lst (ss.map MV.str))/\ss.toArray.foldl (λn z=>n+z.length+sep.length) 0≤sizeLine/\(Uw sep ss).length≤sizeLine/\Q (.str (Uw sep ss)) M
 |_=>False
noncomputable def MT.isL:MT->Bool
 |.dclear=>false|.dget=>false|.dgetD=>false|.join=>false|_=>true
noncomputable def MT.ty:MT->String
 |.dclear=>"dict"|.dget=>"dict"|.dgetD=>"dict"|.join=>"str"|_=>"list"
noncomputable def mtOk(m:MT)(x:MV)(M:MH):Prop:=match m with
 |.dclear=>∃a kvs,x=.ref a/\M a=some (.dic kvs)
 |.dget=>∃a kvs,x=.ref a/\M a=some (.dic kvs)
 |.dgetD=>∃a kvs,x=.ref a/\M a=some (.dic kvs)
 |.join=>∃z,x=.str z
 |_=>∃a xs,x=.ref a/\M a=some (.lst xs)
noncomputable def wMts(m:MT)(x:MV)(vs:List MV)(M:MH)(Q:QM):Prop:=match m with
 |.dclear=>wMd .dclear x vs M Q
 |.dget=>wMd .dget x vs M Q
 |.dgetD=>wMd .dgetD x vs M Q
 |.join=>wMd .join x vs M Q
 |m=>wMl m x vs M Q
theorem Iw{m:MT}{x:MV}{vs:List MV}{M:MH}{Q:QM}(h:m.isL=true):wMts m x vs M Q=wMl m x vs M Q:=by cases m<;>first|rfl|cases h
theorem Ix{m:MT}{x:MV}{vs:List MV}{M:MH}{Q:QM}(h:m.isL=false):wMts m x vs M Q=wMd m x vs M Q:=by cases m<;>first|rfl|cases h
theorem TL{m:MT}{a:MV}{vs:List MV}{M:MH}{Q Q':QM}(hq:∀m M',Q m M'->Q' m M')(h:wMl m a vs M Q):wMl m a vs M Q':=by
 cases a<;>try exact h.elim
 obtain⟨xs,h1,h⟩:=h;refine⟨xs,h1,?_⟩;split at h
 ·exact⟨h.1,hq _ _ h.2⟩
 ·obtain⟨ys,a,b,c⟩:=h;exact⟨ys,a,b,hq _ _ c⟩
 ·exact h.elim
theorem TM{m:MT}{x:MV}{vs:List MV}{M:MH}{Q Q':QM}(hq:∀m M',Q m M'->Q' m M')(h:wMd m x vs M Q):wMd m x vs M Q':=by
 cases m<;>try exact h.elim
 ·obtain⟨sep,b,ss,h1,h2,h3,h4,h5,h6⟩:=h;exact⟨sep,b,ss,h1,h2,h3,h4,h5,hq _ _ h6⟩
theorem DE{m:MT}{a:MV}{vs:List MV}{M:MH}{Q Q':QM}(hq:∀m M',Q m M'->Q' m M')(h:wMts m a vs M Q):wMts m a vs M Q':=by
 cases e:m.isL
 ·rw[Ix e]at h ⊢;exact TM hq h
 ·rw[Iw e]at h ⊢;exact TL hq h
noncomputable def MT.id:MT->String
 |.dclear=>"dict.clear"|.dget=>"dict.get"|.dgetD=>"dict.get"|.join=>"str.join"
 |.append=>"list.append"|.extend=>"list.extend"|.reverse=>"list.reverse"|.clear=>"list.clear"|.pop=>"list.pop"|.popAt=>"list.pop"|.remove=>"list.remove"
noncomputable def liM(K:X6)(w:MV->List MV->MH->QM->Prop):V->List V->Hp->VK->Prop:=λx xs H Q=>∃mx ms M,RM K H mx x/\RMs K H ms xs/\RH K M H/\w mx ms M (Dn K H Q)
section
variable{X:Cx}
theorem TN(m:MT):MtR X m.id (liM X.K (wMl m)):=by
 intro pins s σ H x xs v us Q I rx rs h;obtain⟨mx,ms,M,r1,r2,rh,h⟩:=h;cases r1<;>try exact h.elim
 obtain⟨ys,h1,h⟩:=h;obtain⟨vs,e,q1⟩:=rh.lst h1;have ku:∀o,Kp H (upd H _ o):=λo=>Kp.upd e rfl o;split at h
 ·obtain⟨w,rfl,r3⟩:=r2.one;exact Hl pins s σ H _ _ v us Q I rx rs ⟨_,vs,w,rfl,rfl,e,by rw[<- q1.length];exact h.1,h.2 _ _ (ku _) .non (rh.put (ku _) ((q1.append (.cons r3 .nil)).mono (ku _)))⟩
 ·obtain⟨w,rfl,r3⟩:=r2.one;cases r3;obtain⟨zs,a,b,c⟩:=h;obtain⟨ws,e2,q2⟩:=rh.lst a;exact Rz pins s σ H _ _ v us Q I rx rs ⟨_,_,vs,ws,rfl,rfl,e,e2,by rw[<- q1.length,<- q2.length];exact b,c _ _ (ku _) .non (rh.put (ku _) ((q1.append q2).mono (ku _)))⟩
 ·exact h.elim
theorem Iy{K:X6}{H:Hp}:∀{ss:List Str} {vs:List V},RMs K H (ss.map MV.str) vs->vs=ss.map V.str
 |[],_,.nil=>rfl
 |x::ss,_,.cons r t=>by cases r;rw[Iy t];rfl
theorem TQ(hu:X.A.units+1<cLine)(m:MT):MtR X m.id (liM X.K (wMd m)):=by
 intro pins s σ H x xs v us Q I rx rs h;obtain⟨mx,ms,M,r1,r2,rh,h⟩:=h;cases m<;>try exact h.elim
 ·obtain⟨sep,b,ss,rfl,rfl,h3,h4,h5,h6⟩:=h;cases r1;obtain⟨w,rfl,r3⟩:=r2.one;cases r3;obtain⟨vs,e,q⟩:=rh.lst h3;have:=Iy q;subst this;exact Se pins s σ H _ _ v us Q I rx rs ⟨sep,b,ss,rfl,rfl,SqL.of e,h4,h5,h6 _ _ (Kp.refl _) (.str _) rh⟩
theorem IA(hu:X.A.units+1<cLine)(m:MT):MtR X m.id (liM X.K (wMts m)):=by
 intro pins s σ H x xs v us Q I rx rs h;obtain⟨mx,ms,M,r1,r2,rh,h⟩:=h;cases e:m.isL
 ·rw[Ix e]at h;exact TQ hu m pins s σ H x xs v us Q I rx rs ⟨mx,ms,M,r1,r2,rh,h⟩
 ·rw[Iw e]at h;exact TN m pins s σ H x xs v us Q I rx rs ⟨mx,ms,M,r1,r2,rh,h⟩
end
noncomputable def wPut(o i v:MV)(M:MH)(Q:MH->Prop):Prop:=match o with
 |.ref a=>(∃xs k j,M a=some (.lst xs)/\i=.int k/\ixN xs.length k=some j/\Q (updM M a (.lst (xs.set j v))))\/∃kvs kk,M a=some (.dic kvs)/\keyM i=some kk/\kvs.length<sizeLine/\Q (updM M a (.dic (putM kvs kk v)))
 |_=>False
theorem IB{o i v:MV}{M:MH}{Q Q':MH->Prop}(hq:∀M',Q M'->Q' M')(h:wPut o i v M Q):wPut o i v M Q':=by
 cases o<;>try exact h.elim
 rcases h with⟨xs,k,j,h1,h2,h3,h4⟩|⟨kvs,kk,h1,h2,h3,h4⟩
 ·exact .inl ⟨xs,k,j,h1,h2,h3,hq _ h4⟩
 ·exact .inr ⟨kvs,kk,h1,h2,h3,hq _ h4⟩
noncomputable def DnH(K:X6)(H:Hp)(Q:Hp->Prop):MH->Prop:=λM=>∀H',Kp H H'->RH K M H'->Q H'
noncomputable def IC(K:X6):TSet:=λo i v H Q=>∃mo mi mv M,RM K H mo o/\RM K H mi i/\RM K H mv v/\RH K M H/\wPut mo mi mv M (DnH K H Q)
section
variable{X:Cx}
theorem TR(hu:X.A.units+1<cLine):PSet X (IC X.K):=by
 intro pins s σ H o i v ov iv u Q I ro ri rv h;obtain⟨mo,mi,mv,M,r1,r2,r3,rh,h⟩:=h;cases r1<;>try exact h.elim
 rcases h with⟨xs,k,j,h1,rfl,h3,h4⟩|⟨kvs,kk,h1,h2,h3,h4⟩
 ·cases r2;obtain⟨vs,e,q1⟩:=rh.lst h1;have k:=Kp.upd e rfl (.lst (vs.set j v));exact Rr pins s σ H _ _ v ov iv u Q I ro ri rv ⟨_,vs,_,j,rfl,rfl,e,by rw[<- q1.length];exact h3,h4 _ k (rh.put k ((q1.set r3 j).mono k))⟩
 ·obtain⟨vs,e,q1,nd⟩:=rh.dic h1;have ek:=Aq h2 r2;subst ek;obtain rfl:ov=XC _:=ro;have k:=Kp.upd e rfl (.dK (putK vs kk v));obtain⟨q2,nd2⟩:=Ie (k:=kk) r3 nd q1;exact RD hu I (DPut.k (k:=kk) e (by rw[<- q1.length];exact h3)) ri rv λs4 I4=>⟨_,I4,h4 _ k (rh.put k ⟨q2.mono k,nd2⟩)⟩
end
end L2
namespace L2
set_option genInjectivity false
open PySem PySem.Spec PyProof.Rows
mutual
inductive ITg where|nm (i:Nat)|tup (ts:ITgs)
inductive ITgs where|nil|cons (t:ITg) (ts:ITgs)
end
mutual
inductive IE where
 |var (i:Nat)
 |int (i:Int)|str (x:Str)|bl (b:Bool)|non
 |glb (x:Str) (i:Int)
 |ty (c:Ty7)
 |bin (op:UJ) (a b:IE)
 |neg (a:IE)
 |not (a:IE)
 |cmp (op:Yw) (a b:IE)
 |chn (op op':Yw) (a b c:IE)
 |and (a b:IE)
 |or (a b:IE)
 |ife (c a b:IE)
 |tup (es:IEs)
 |lst (es:IEs)
 |dic
 |ix (a b:IE)
 |sl (a:IE) (lo hi:IO)
 |call (j:Nat) (e:IE) (es:IEs)
 |bi (f:BI) (e:IE) (es:IEs)
 |b2 (f:B2) (e:IE)
 |mt (m:MT) (o:IE) (es:IEs)
 |comp (own:List Str) (fr:List Nat) (src:ISr) (tg:ITg) (test:IO) (elt:IE)
 |fld (c:Str) (o:IE) (f:Str)
 |mcall (j:Nat) (c m:Str) (o:IE) (es:IEs)
 |make (j:Nat) (c:Str) (e:IE) (es:IEs)
 |disp (ps:IPs)
 |mxd (e:IE)
 |st3 (e:IE)
inductive IPs where|nil|cons (k v:IE) (r:IPs)
inductive IEs where|nil|cons (e:IE) (es:IEs)
inductive IO where|none|some (e:IE)
inductive ISr where|seq (e:IE)|rng (e:IE)|rng2 (a b:IE)|rng3 (a b c:IE)
end
noncomputable def wSt3(v:MV)(M:MH)(Q:QM):Prop:=∃(a:Addr) (xs:List MV),v=.ref a/\M a=some (.lst xs)/\∀p,M p=none->Q (.ref p) (updM M p (.lst (st3 xs)))
theorem TU{v:MV}{M:MH}{Q Q':QM}(hq:∀v M,Q v M->Q' v M)(h:wSt3 v M Q):wSt3 v M Q':=by
 obtain⟨a,xs,h1,h2,h3⟩:=h;exact⟨a,xs,h1,h2,λp hp=>hq _ _ (h3 p hp)⟩
theorem TV{K:X6}{H:Hp}{vs:List MV}{us:List V}(h:RMs K H vs us):RMs K H (st3 vs) (st3 us):=by
 have go:∀ks:List Nat,(∀k∈ks,3*k<vs.length)->RMs K H (ks.filterMap λk=>vs[3*k]?) (ks.filterMap λk=>us[3*k]?):=by
  intro ks
  induction ks with
  |nil=>intro _;exact .nil
  |cons k ks ih=>
   intro hk;have hl:=hk k (Ya ..);have hv:=X8 hl;obtain⟨x,hx,ru⟩:=h.get hv;rw[WZ (f:=λk=>vs[3*k]?) (a:=k) hv,WZ (f:=λk=>us[3*k]?) (a:=k) hx];exact .cons ru (ih λk hk'=>hk k (Y5 _ hk'))
 unfold st3;rw[<- h.length];exact go _ λk hk=>HW hk
noncomputable def wMxd(v:MV)(M:MH)(Q:QM):Prop:=∃(a:Addr) (ns:List Int),v=.ref a/\M a=some (.lst (ns.map MV.int))/\∀m,(ns=[]/\m=0\/m∈ns/\∀i∈ns,i≤m)->Q (.int m) M
theorem TW{v:MV}{M:MH}{Q Q':QM}(hq:∀v M,Q v M->Q' v M)(h:wMxd v M Q):wMxd v M Q':=by
 obtain⟨a,ns,h1,h2,h3⟩:=h;exact⟨a,ns,h1,h2,λm hm=>hq _ _ (h3 m hm)⟩
inductive Src where|tup (xs:List MV)|lst (a:Addr) (xs:List MV)|rng (lo:Int) (n:Nat)|rst (lo st:Int) (n:Nat)|dic (a:Addr) (o:Obj) (kvs:List (Key×MV))|str (x:Str)
noncomputable def kM:Key->MV
 |.inl i=>.int i
 |.inr x=>.str x
noncomputable def Src.items:Src->List MV
 |.tup xs=>xs
 |.lst _ xs=>xs
 |.rng lo n=>(XM n).map λi=>.int (lo+(i:Nat))
 |.rst lo st n=>(XM n).map λi=>.int (lo+(i:Nat)*st)
 |.dic _ _ kvs=>kvs.map λp=>kM p.1
 |.str x=>x.cps.toList.map λc=>.str ⟨#[c]⟩
noncomputable def Src.ok(M:MH):Src->Prop
 |.lst a xs=>M a=some (.lst xs)
 |.dic a o kvs=>M a=some (.fdic o kvs)
 |_=>True
noncomputable def Src.okF(M:MH):Src->Prop
 |.lst a xs=>M a=some (.lst xs)
 |.dic _ _ _=>False
 |_=>True
noncomputable def Src.okT(M:MH):Src->Prop
 |.dic a o kvs=>M a=some (.fdic o kvs)
 |_=>True
noncomputable def Src.thaw(M:MH):Src->MH
 |.dic a _ kvs=>updM M a (.dic kvs)
 |_=>M
noncomputable def Src.len:Src->Nat
 |.tup xs=>xs.length
 |.lst _ xs=>xs.length
 |.rng _ n=>n
 |.rst _ _ n=>n
 |.dic _ _ kvs=>kvs.length
 |.str x=>x.cps.size
theorem Src.items_len(S:Src):S.items.length=S.len:=by cases S<;>simp[Src.items,Src.len]
noncomputable abbrev SpM:=List MV->MH->QM->Prop
noncomputable abbrev TSm:=Sm->MH->(Src->MH->Prop)->Prop
mutual
noncomputable def wTg:ITg->MV->Sm->(Sm->Prop)->Prop
 |.nm i,v,σ,Q=>Q (σ.set i (some v))
 |.tup ts,v,σ,Q=>∃xs,v=.tup xs/\wTgs ts xs σ Q
noncomputable def wTgs:ITgs->List MV->Sm->(Sm->Prop)->Prop
 |.nil,xs,σ,Q=>xs=[]/\Q σ
 |.cons t ts,xs,σ,Q=>∃v r,xs=v::r/\wTg t v σ λσ'=>wTgs ts r σ' Q
end
noncomputable def sCm(own:List Str)(fr:List Nat)(σ:Sm):Sm:=own.map (λ_=>none)++fr.map (λi=>σ.getD i none)
noncomputable def onV(o:Option (Option MV))(k:MV->Prop):Prop:=match o with
 |some (some v)=>k v
 |_=>False
theorem TX{o:Option (Option MV)}{k:MV->Prop}:onV o k=∃v,o=some (some v)/\k v:=by
 refine propext ⟨λh=>?_,fun⟨v,e,h⟩=>by subst e;exact h⟩
 match o,h with
 |some (some v),h=>exact⟨v,rfl,h⟩
noncomputable def onB(x:MV)(k:Bool->Prop):Prop:=match x with
 |.bl c=>k c
 |_=>False
theorem WB{x:MV}{k:Bool->Prop}:onB x k=∃c,x=.bl c/\k c:=by
 refine propext ⟨λh=>?_,fun⟨v,e,h⟩=>by subst e;exact h⟩
 cases x<;>first|exact⟨_,rfl,h⟩|exact h.elim
noncomputable def onF(o:Option (Str×SpM))(k:SpM->Prop):Prop:=match o with
 |some p=>k p.2
 |none=>False
theorem TY{o:Option (Str×SpM)}{k:SpM->Prop}:onF o k=∃f sp,o=some (f,sp)/\k sp:=by
 refine propext ⟨λh=>?_,fun⟨f,v,e,h⟩=>by subst e;exact h⟩
 match o,h with
 |some (f,sp),h=>exact⟨f,sp,rfl,h⟩
mutual
noncomputable def wE(Φ:List (Str×SpM)):IE->TEm
 |.var i,σ,M,Q=>onV σ[i]? λv=>Q v M
 |.int i,_,M,Q=>Q (.int i) M
 |.str x,_,M,Q=>Q (.str x) M
 |.bl b,_,M,Q=>Q (.bl b) M
 |.non,_,M,Q=>Q .non M
 |.glb _ i,_,M,Q=>Q (.int i) M
 |.ty c,_,M,Q=>Q (.ty c) M
 |.bin op a b,σ,M,Q=>wE Φ a σ M λx M1=>wE Φ b σ M1 λy M2=>wBin op x y M2 Q
 |.neg a,σ,M,Q=>wE Φ a σ M λx M1=>∃i,x=.int i/\Q (.int (-i)) M1
 |.not a,σ,M,Q=>wE Φ a σ M λx M1=>onB x λb=>Q (.bl (!b)) M1
 |.cmp op a b,σ,M,Q=>wE Φ a σ M λx M1=>wE Φ b σ M1 λy M2=>wCmp op x y M2 Q
 |.chn op op' a b c,σ,M,Q=>wE Φ a σ M λx M1=>wE Φ b σ M1 λy M2=>wCmp op x y M2 λz M3=>onB z λk=>(if k=true then wE Φ c σ M3 λw M4=>wCmp op' y w M4 Q else Q (.bl false) M3)
 |.and a b,σ,M,Q=>wE Φ a σ M λx M1=>onB x λc=>(if c=true then wE Φ b σ M1 Q else Q (.bl false) M1)
 |.or a b,σ,M,Q=>wE Φ a σ M λx M1=>onB x λc=>(if c=true then Q (.bl true) M1 else wE Φ b σ M1 Q)
 |.ife c a b,σ,M,Q=>wE Φ c σ M λx M1=>onB x λk=>(if k=true then wE Φ a σ M1 Q else wE Φ b σ M1 Q)
 |.tup es,σ,M,Q=>wEs Φ es σ M λvs M1=>vs.length≤sizeLine/\Q (.tup vs) M1
 |.lst es,σ,M,Q=>wEs Φ es σ M λvs M1=>vs.length≤sizeLine/\∀p,M1 p=none->Q (.ref p) (updM M1 p (.lst vs))
 |.dic,_,M,Q=>∀p,M p=none->Q (.ref p) (updM M p (.dic []))
 |.ix a b,σ,M,Q=>wE Φ a σ M λx M1=>wE Φ b σ M1 λy M2=>wIx x y M2 Q
 |.sl a lo hi,σ,M,Q=>wE Φ a σ M λx M1=>wO Φ lo σ M1 λl M2=>wO Φ hi σ M2 λh M3=>wSl x l h M3 Q
 |.call j e es,σ,M,Q=>wE Φ e σ M λv M1=>wEs Φ es σ M1 λvs M2=>onF Φ[j]? λsp=>sp (v::vs) M2 Q
 |.bi f e es,σ,M,Q=>wE Φ e σ M λv M1=>wEs Φ es σ M1 λvs M2=>wBi f (v::vs) M2 Q
 |.b2 f e,σ,M,Q=>wE Φ e σ M λv M1=>wB2 f v M1 Q
 |.mxd e,σ,M,Q=>wE Φ e σ M λv M1=>wMxd v M1 Q
 |.st3 e,σ,M,Q=>wE Φ e σ M λv M1=>wSt3 v M1 Q
 |.mt m o es,σ,M,Q=>wE Φ o σ M λx M1=>mtOk m x M1/\wEs Φ es σ M1 λvs M2=>wMts m x vs M2 Q
 |.comp own fr src tg test elt,σ,M,Q=>wSr Φ src σ M λS M1=>S.len<sizeLine/\∀D,M1 D=none->∃J:Nat->List MV->MH->Prop,J 0 [] (updM M1 D (.lst []))/\
   (∀i ys M2,J i ys M2->M2 D=some (.lst ys)/\ys.length≤i/\S.ok M2)/\
   (∀i x ys M2,S.items[i]?=some x->J i ys M2->wTg tg x (sCm own fr σ) λσ2=>wI Φ test σ2 M2 λb M4=>
    if b=true then wE Φ elt σ2 M4 λy M5=>M5 D=some (.lst ys)/\J (i+1) (ys++[y]) (updM M5 D (.lst (ys++[y])))else J (i+1) ys M4)/\
   ∀ys M2,J S.len ys M2->Q (.ref D) (S.thaw M2)
 |.fld c o f,σ,M,Q=>wE Φ o σ M λx M1=>∃a fs v,x=.ref a/\M1 a=some (.ins c fs)/\valM fs f=some v/\Q v M1
 |.mcall j c m o es,σ,M,Q=>wE Φ o σ M λx M1=>∃a fs,x=.ref a/\M1 a=some (.ins c fs)/\valM fs m=none/\wEs Φ es σ M1 λvs M2=>∃f sp,Φ[j]?=some (f,sp)/\sp (.ref a::vs) M2 Q
 |.make j c e es,σ,M,Q=>wE Φ e σ M λv M1=>wEs Φ es σ M1 λvs M2=>∃f sp,Φ[j]?=some (f,sp)/\∀p,M2 p=none->sp (.ref p::v::vs) (updM M2 p (.ins c [])) λu M3=>u=.non/\Q (.ref p) M3
 |.disp ps,σ,M,Q=>∀p,M p=none->wPs Φ ps σ (updM M p (.dic [])) λl M2=>M2 p=some (.dic [])/\l.length≤15/\Q (.ref p) (updM M2 p (.dic (US l)))
noncomputable def wPs(Φ:List (Str×SpM)):IPs->Sm->MH->(List (Key×MV)->MH->Prop)->Prop
 |.nil,_,M,Q=>Q [] M
 |.cons k v r,σ,M,Q=>wE Φ k σ M λx M1=>∃kk,keyM x=some kk/\wE Φ v σ M1 λy M2=>wPs Φ r σ M2 λl M3=>Q ((kk,y)::l) M3
noncomputable def wEs(Φ:List (Str×SpM)):IEs->TAm
 |.nil,_,M,Q=>Q [] M
 |.cons e es,σ,M,Q=>wE Φ e σ M λv M1=>wEs Φ es σ M1 λvs M2=>Q (v::vs) M2
noncomputable def wO(Φ:List (Str×SpM)):IO->Sm->MH->(Option Int->MH->Prop)->Prop
 |.none,_,M,Q=>Q none M
 |.some e,σ,M,Q=>wE Φ e σ M λv M1=>∃i,v=.int i/\Q (some i) M1
noncomputable def wI(Φ:List (Str×SpM)):IO->Sm->MH->(Bool->MH->Prop)->Prop
 |.none,_,M,Q=>Q true M
 |.some e,σ,M,Q=>wE Φ e σ M λv M1=>∃b,v=.bl b/\Q b M1
noncomputable def wSr(Φ:List (Str×SpM)):ISr->TSm
 |.seq e,σ,M,Q=>wE Φ e σ M λv M1=>(∃xs,(v=.tup xs\/v=.frl xs)/\Q (.tup xs) M1)\/(∃a xs,v=.ref a/\M1 a=some (.lst xs)/\Q (.lst a xs) M1)\/(∃a kvs,v=.ref a/\M1 a=some (.dic kvs)/\∀o,Q (.dic a o kvs) (updM M1 a (.fdic o kvs)))\/∃z,v=.str z/\Q (.str z) M1
 |.rng e,σ,M,Q=>wE Φ e σ M λv M1=>∃j,v=.int j/\ -(2^62)≤j/\j<2^62/\Q (.rng 0 j.toNat) M1
 |.rng2 a b,σ,M,Q=>wE Φ a σ M λx M1=>wE Φ b σ M1 λy M2=>∃i j,x=.int i/\y=.int j/\(-(2^62)≤i/\i<2^62/\ -(2^62)≤j/\j<2^62)/\Q (.rng i (j - i).toNat) M2
 |.rng3 a b c,σ,M,Q=>wE Φ a σ M λx M1=>wE Φ b σ M1 λy M2=>wE Φ c σ M2 λz M3=>∃i j,x=.int i/\y=.int j/\z=.int 2/\(0≤i/\i<2^60/\0≤j/\j<2^60)/\Q (.rst i 2 (len2 i j)) M3
end
section
variable{Φ:List (Str×SpM)}{σ:Sm}{M:MH}{Q:QM}
theorem ID{i:Nat}:wE Φ (.var i) σ M Q=∃v,σ[i]?=some (some v)/\Q v M:=TX
theorem DF{a:IE}:wE Φ (.not a) σ M Q=wE Φ a σ M λx M1=>∃b,x=.bl b/\Q (.bl (!b)) M1:=congrArg (wE Φ a σ M) (funext λ_=>funext λ_=>WB)
theorem IF{op op':Yw}{a b c:IE}:wE Φ (.chn op op' a b c) σ M Q=wE Φ a σ M λx M1=>wE Φ b σ M1 λy M2=>wCmp op x y M2 λz M3=>∃k,z=.bl k/\(if k=true then wE Φ c σ M3 λw M4=>wCmp op' y w M4 Q else Q (.bl false) M3):=congrArg (wE Φ a σ M) (funext λ_=>funext λ_=>congrArg (wE Φ b σ _) (funext λ_=>funext λ_=>congrArg (wCmp op _ _ _) (funext λ_=>funext λ_=>WB)))
theorem DG{a b:IE}:wE Φ (.and a b) σ M Q=wE Φ a σ M λx M1=>∃c,x=.bl c/\(if c=true then wE Φ b σ M1 Q else Q (.bl false) M1):=congrArg (wE Φ a σ M) (funext λ_=>funext λ_=>WB)
theorem x_or{a b:IE}:wE Φ (.or a b) σ M Q=wE Φ a σ M λx M1=>∃c,x=.bl c/\(if c=true then Q (.bl true) M1 else wE Φ b σ M1 Q):=congrArg (wE Φ a σ M) (funext λ_=>funext λ_=>WB)
theorem IG{a b c:IE}:wE Φ (.ife c a b) σ M Q=wE Φ c σ M λx M1=>∃k,x=.bl k/\(if k=true then wE Φ a σ M1 Q else wE Φ b σ M1 Q):=congrArg (wE Φ c σ M) (funext λ_=>funext λ_=>WB)
theorem IH{j:Nat}{e:IE}{es:IEs}:wE Φ (.call j e es) σ M Q=wE Φ e σ M λv M1=>wEs Φ es σ M1 λvs M2=>∃f sp,Φ[j]?=some (f,sp)/\sp (v::vs) M2 Q:=congrArg (wE Φ e σ M) (funext λ_=>funext λ_=>congrArg (wEs Φ es σ _) (funext λ_=>funext λ_=>TY))
end
mutual
theorem Vh:∀(t:ITg) {v:MV} {σ:Sm} {Q Q':Sm->Prop},(∀σ,Q σ->Q' σ)->wTg t v σ Q->wTg t v σ Q'
 |.nm i,v,σ,Q,Q',hq,h=>by exact hq _ h
 |.tup ts,v,σ,Q,Q',hq,h=>by
  obtain⟨xs,e,h⟩:=h;exact⟨xs,e,mon_tgs ts hq h⟩
theorem mon_tgs:∀(t:ITgs) {v:List MV} {σ:Sm} {Q Q':Sm->Prop},(∀σ,Q σ->Q' σ)->wTgs t v σ Q->wTgs t v σ Q'
 |.nil,v,σ,Q,Q',hq,h=>by exact⟨h.1,hq _ h.2⟩
 |.cons t ts,v,σ,Q,Q',hq,h=>by
  obtain⟨x,r,e,h⟩:=h;exact⟨x,r,e,Vh t (λσ' h'=>mon_tgs ts hq h') h⟩
end
theorem YR{c:Prop} [Decidable c] {A B A' B':Prop}(ha:A->A')(hb:B->B')(h:if c then A else B):if c then A' else B':=by
 split at h
 ·rw[if_pos (by assumption)];exact ha h
 ·rw[if_neg (by assumption)];exact hb h
mutual
theorem Xc{Φ:List (Str×SpM)}(hΦ:∀(j:Nat) f sp,Φ[j]?=some (f,sp)->MonW sp):∀e:IE,MonE (wE Φ e)
 |.var i,σ,M,Q,Q',hq,h=>by rw[ID]at h ⊢;obtain⟨v,e,h⟩:=h;exact⟨v,e,hq _ _ h⟩
 |.int _,σ,M,Q,Q',hq,h=>by exact hq _ _ h
 |.str _,σ,M,Q,Q',hq,h=>by exact hq _ _ h
 |.bl _,σ,M,Q,Q',hq,h=>by exact hq _ _ h
 |.non,σ,M,Q,Q',hq,h=>by exact hq _ _ h
 |.glb _ _,σ,M,Q,Q',hq,h=>by exact hq _ _ h
 |.ty _,σ,M,Q,Q',hq,h=>by exact hq _ _ h
 |.bin op a b,σ,M,Q,Q',hq,h=>by
  exact Xc hΦ a (λx M1 h1=>Xc hΦ b (λy M2 h2=>HY op hq h2) h1) h
 |.neg a,σ,M,Q,Q',hq,h=>by
  exact Xc hΦ a (λx M1 ⟨i,e,h1⟩=>⟨i,e,hq _ _ h1⟩) h
 |.not a,σ,M,Q,Q',hq,h=>by
  rw[DF]at h ⊢;exact Xc hΦ a (λx M1 ⟨i,e,h1⟩=>⟨i,e,hq _ _ h1⟩) h
 |.cmp op a b,σ,M,Q,Q',hq,h=>by
  exact Xc hΦ a (λx M1 h1=>Xc hΦ b (λy M2 h2=>Wy op hq h2) h1) h
 |.chn op op' a b c,σ,M,Q,Q',hq,h=>by
  rw[IF]at h ⊢;exact Xc hΦ a (λx M1 h1=>Xc hΦ b (λy M2 h2=>Wy op (λz M3 ⟨k,e,h3⟩=>⟨k,e,YR (Xc hΦ c λw M4 h4=>Wy op' hq h4) (hq _ _) h3⟩) h2) h1) h
 |.and a b,σ,M,Q,Q',hq,h=>by
  rw[DG]at h ⊢;exact Xc hΦ a (λx M1 ⟨c,e,h1⟩=>⟨c,e,YR (Xc hΦ b hq) (hq _ _) h1⟩) h
 |.or a b,σ,M,Q,Q',hq,h=>by
  rw[x_or]at h ⊢;exact Xc hΦ a (λx M1 ⟨c,e,h1⟩=>⟨c,e,YR (hq _ _) (Xc hΦ b hq) h1⟩) h
 |.ife c a b,σ,M,Q,Q',hq,h=>by
  rw[IG]at h ⊢;exact Xc hΦ c (λx M1 ⟨k,e,h1⟩=>⟨k,e,YR (Xc hΦ a hq) (Xc hΦ b hq) h1⟩) h
 |.tup es,σ,M,Q,Q',hq,h=>by
  exact mon_es hΦ es (λvs M1 ⟨e,h1⟩=>⟨e,hq _ _ h1⟩) h
 |.lst es,σ,M,Q,Q',hq,h=>by
  exact mon_es hΦ es (λvs M1 ⟨e,h1⟩=>⟨e,λp hp=>hq _ _ (h1 p hp)⟩) h
 |.dic,σ,M,Q,Q',hq,h=>by
  exact λp hp=>hq _ _ (h p hp)
 |.ix a b,σ,M,Q,Q',hq,h=>by
  exact Xc hΦ a (λx M1 h1=>Xc hΦ b (λy M2 h2=>Im hq h2) h1) h
 |.sl a lo hi,σ,M,Q,Q',hq,h=>by
  exact Xc hΦ a (λx M1 h1=>mon_o hΦ lo (λy M2 h2=>mon_o hΦ hi (λz M3 h3=>Ip hq h3) h2) h1) h
 |.call j e es,σ,M,Q,Q',hq,h=>by
  rw[IH]at h ⊢;exact Xc hΦ e (λx M1 h1=>mon_es hΦ es (λy M2 ⟨f,sp,e,h2⟩=>⟨f,sp,e,hΦ _ _ _ e hq h2⟩) h1) h
 |.bi f e es,σ,M,Q,Q',hq,h=>by
  exact Xc hΦ e (λx M1 h1=>mon_es hΦ es (λy M2 h2=>Ir f hq h2) h1) h
 |.b2 f e,σ,M,Q,Q',hq,h=>by
  exact Xc hΦ e (λx M1 h1=>Iv f hq h1) h
 |.mxd e,σ,M,Q,Q',hq,h=>by
  exact Xc hΦ e (λx M1 h1=>TW hq h1) h
 |.st3 e,σ,M,Q,Q',hq,h=>by
  exact Xc hΦ e (λx M1 h1=>TU hq h1) h
 |.mt m o es,σ,M,Q,Q',hq,h=>by
  exact Xc hΦ o (λx M1 ⟨h0,h1⟩=>⟨h0,mon_es hΦ es (λy M2 h2=>DE hq h2) h1⟩) h
 |.comp own fr src tg test elt,σ,M,Q,Q',hq,h=>by
  exact mon_sr hΦ src (λS M1 ⟨hz,h1⟩=>⟨hz,λD hD=>by
   obtain⟨J,j0,j1,j2,j3⟩:=h1 D hD;exact⟨J,j0,j1,j2,λys M2 hj=>hq _ _ (j3 ys M2 hj)⟩⟩) h
 |.fld c o f,σ,M,Q,Q',hq,h=>by
  exact Xc hΦ o (λx M1 ⟨a,fs,v,e,e2,e3,h1⟩=>⟨a,fs,v,e,e2,e3,hq _ _ h1⟩) h
 |.mcall j c m o es,σ,M,Q,Q',hq,h=>by
  exact Xc hΦ o (λx M1 ⟨a,fs,e,e2,e3,h1⟩=>⟨a,fs,e,e2,e3,mon_es hΦ es (λy M2 ⟨f,sp,e,h2⟩=>⟨f,sp,e,hΦ _ _ _ e hq h2⟩) h1⟩) h
 |.make j c e es,σ,M,Q,Q',hq,h=>by
  exact Xc hΦ e (λx M1 h1=>mon_es hΦ es (λy M2 ⟨f,sp,e,h2⟩=>⟨f,sp,e,λp hp=>hΦ _ _ _ e (λm M' z=>⟨z.1,hq _ _ z.2⟩) (h2 p hp)⟩) h1) h
 |.disp ps,σ,M,Q,Q',hq,h=>by
  exact λp hp=>mon_ps hΦ ps (λl M2 ⟨e,e2,h1⟩=>⟨e,e2,hq _ _ h1⟩) (h p hp)
theorem mon_ps{Φ:List (Str×SpM)}(hΦ:∀(j:Nat) f sp,Φ[j]?=some (f,sp)->MonW sp):∀(e:IPs) {σ M} {Q Q':List (Key×MV)->MH->Prop},(∀m M',Q m M'->Q' m M')->wPs Φ e σ M Q->wPs Φ e σ M Q'
 |.nil,σ,M,Q,Q',hq,h=>by exact hq _ _ h
 |.cons k v r,σ,M,Q,Q',hq,h=>by
  exact Xc hΦ k (λx M1 ⟨kk,e,h1⟩=>⟨kk,e,Xc hΦ v (λy M2 h2=>mon_ps hΦ r (λl M3 h3=>hq _ _ h3) h2) h1⟩) h
theorem mon_es{Φ:List (Str×SpM)}(hΦ:∀(j:Nat) f sp,Φ[j]?=some (f,sp)->MonW sp):∀e:IEs,MonA (wEs Φ e)
 |.nil,σ,M,Q,Q',hq,h=>by exact hq _ _ h
 |.cons e es,σ,M,Q,Q',hq,h=>by
  exact Xc hΦ e (λx M1 h1=>mon_es hΦ es (λy M2 h2=>hq _ _ h2) h1) h
theorem mon_o{Φ:List (Str×SpM)}(hΦ:∀(j:Nat) f sp,Φ[j]?=some (f,sp)->MonW sp):∀(e:IO) {σ M} {Q Q':Option Int->MH->Prop},(∀m M',Q m M'->Q' m M')->wO Φ e σ M Q->wO Φ e σ M Q'
 |.none,σ,M,Q,Q',hq,h=>by exact hq _ _ h
 |.some e,σ,M,Q,Q',hq,h=>by
  exact Xc hΦ e (λx M1 ⟨i,e,h1⟩=>⟨i,e,hq _ _ h1⟩) h
theorem mon_i{Φ:List (Str×SpM)}(hΦ:∀(j:Nat) f sp,Φ[j]?=some (f,sp)->MonW sp):∀(e:IO) {σ M} {Q Q':Bool->MH->Prop},(∀m M',Q m M'->Q' m M')->wI Φ e σ M Q->wI Φ e σ M Q'
 |.none,σ,M,Q,Q',hq,h=>by exact hq _ _ h
 |.some e,σ,M,Q,Q',hq,h=>by
  exact Xc hΦ e (λx M1 ⟨i,e,h1⟩=>⟨i,e,hq _ _ h1⟩) h
theorem mon_sr{Φ:List (Str×SpM)}(hΦ:∀(j:Nat) f sp,Φ[j]?=some (f,sp)->MonW sp):∀(e:ISr) {σ M} {Q Q':Src->MH->Prop},(∀m M',Q m M'->Q' m M')->wSr Φ e σ M Q->wSr Φ e σ M Q'
 |.seq e,σ,M,Q,Q',hq,h=>by
  exact Xc hΦ e (λx M1 h1=>by
   rcases h1 with⟨xs,e,h1⟩|⟨a,xs,e,e2,h1⟩|⟨a,xs,e,e2,h1⟩|⟨z,e,h1⟩
   ·exact .inl ⟨xs,e,hq _ _ h1⟩
   ·exact .inr (.inl ⟨a,xs,e,e2,hq _ _ h1⟩)
   ·exact .inr (.inr (.inl ⟨a,xs,e,e2,λo=>hq _ _ (h1 o)⟩))
   ·exact .inr (.inr (.inr ⟨z,e,hq _ _ h1⟩))) h
 |.rng e,σ,M,Q,Q',hq,h=>by
  exact Xc hΦ e (λx M1 ⟨j,e,a,b,h1⟩=>⟨j,e,a,b,hq _ _ h1⟩) h
 |.rng2 a b,σ,M,Q,Q',hq,h=>by
  exact Xc hΦ a (λx M1 h1=>Xc hΦ b (λy M2 ⟨i,j,e,e2,c,h2⟩=>⟨i,j,e,e2,c,hq _ _ h2⟩) h1) h
 |.rng3 a b c,σ,M,Q,Q',hq,h=>by
  exact Xc hΦ a (λx M1 h1=>Xc hΦ b (λy M2 h2=>Xc hΦ c (λz M3 ⟨i,j,e,e2,e3,c,h3⟩=>⟨i,j,e,e2,e3,c,hq _ _ h3⟩) h2) h1) h
end
end L2
namespace L2
open PySem PySem.Spec PyProof.Rows
structure GI where
 bl:List Str
 gl:List (Str×Int)
 fns:List Str
 mts:List (Nat×Str×Str):=[]
 mks:List (Nat×Str):=[]
 cls:List (Str×Str):=[]
noncomputable def visB(sc:Scope)(x:Str):Bool:=match sc.names.lookup x with
 |some .local=>true|some .cell=>true|some .free=>true|_=>false
noncomputable def locB(sc:Scope)(x:Str):Bool:=match sc.names.lookup x with
 |some .local=>true|some .cell=>true|_=>false
noncomputable def glB(sc:Scope)(x:Str):Bool:=decide (sc.names.lookup x=some .globalImplicit)&& !(x==("__debug__":Str))&&decide (x≠"__name__")
noncomputable def WC(scope osc:Scope):Scope:={scope with names:=scope.names.map fun(n,k)=>if(k==.free&&osc.kind==.function&&osc.names.lookup n==some .cell)then(n,.cell)else(n,k)}
noncomputable def BI.name:BI->String
 |.len=>"len"|.isinst=>"isinstance"|.max=>"max"|.min=>"min"|.sum=>"sum"|.abs=>"abs"|.int=>"int"|.list=>"list"|.tuple=>"tuple"|.dict=>"dict"|.sorted=>"sorted"|.dictL=>"dict"|.all=>"all"
noncomputable def MT.name:MT->String
 |.dclear=>"clear"|.dget=>"get"|.dgetD=>"get"|.join=>"join"
 |.append=>"append"|.extend=>"extend"|.reverse=>"reverse"|.clear=>"clear"|.pop=>"pop"|.popAt=>"pop"|.remove=>"remove"
noncomputable def Ar:Expr->Bool
 |.Slice ..=>false|_=>true
noncomputable def At:Expr->Bool
 |.Set ..=>false|_=>true
noncomputable def tok:IE->Bool
 |.ife ..=>false
 |.not a=>tok a
 |.and a b=>tok a&&tok b
 |.or a b=>tok a&&tok b
 |_=>true
noncomputable def YY:Expr->Option Str|.Name x _=>some x|_=>none
noncomputable def VO:Expr->Option Const|.Constant c _ _=>some c|_=>none
noncomputable def DH:Expr->Option (Expr×UJ×Expr)|.BinOp l o r _=>some (l,o,r)|_=>none
noncomputable def asUn:Expr->Option (UnaryOp×Expr)|.UnaryOp o x _=>some (o,x)|_=>none
noncomputable def BX:Expr->Option (Expr×List Yw×List Expr)|.Compare l o r _=>some (l,o,r)|_=>none
noncomputable def BY:Expr->Option (BoolOp×List Expr×Pos)|.BoolOp o vs p=>some (o,vs,p)|_=>none
noncomputable def asIf:Expr->Option (Expr×Expr×Expr)|.IfExp t x y _=>some (t,x,y)|_=>none
noncomputable def Au:Expr->Option (List Expr)|.Tuple xs _ _=>some xs|_=>none
noncomputable def DI:Expr->Option (List Expr)|.List xs _=>some xs|_=>none
noncomputable def TZ:Expr->Option (List (Option Expr)×List Expr)|.Dict ks vs _=>some (ks,vs)|_=>none
noncomputable def WD:Expr->Option (Expr×Expr)|.Subscript x y _=>some (x,y)|_=>none
noncomputable def asSl:Expr->Option (Option Expr×Option Expr×Option Expr)|.Slice l u s _=>some (l,u,s)|_=>none
noncomputable def UD:Expr->Option (Expr×List Expr×List Up×Pos)|.Call f xs ks p=>some (f,xs,ks,p)|_=>none
noncomputable def DJ:Expr->Option (Expr×Str×Pos)|.Attribute o n p=>some (o,n,p)|_=>none
noncomputable def asLC:Expr->Option (Expr×List Comprehension×Scope)|.ListComp e gs sc _=>some (e,gs,sc)|_=>none
noncomputable def the1{α:Type}:List α->Option α|[x]=>some x|_=>none
noncomputable def the3{α:Type}:List α->Option (α×α×α)|[x,y,z]=>some (x,y,z)|_=>none
noncomputable def the2{α:Type}:List α->Option (α×α)|[x,y]=>some (x,y)|_=>none
noncomputable def hd1{α:Type}:List α->Option (α×List α)|x::r=>some (x,r)|_=>none
noncomputable def hd2{α:Type}:List α->Option (α×α×List α)|x::y::r=>some (x,y,r)|_=>none
noncomputable def non0{α:Type}:List α->Bool|[]=>true|_=>false
theorem Xk{α:Type}{o:Option α}{p:α->Bool}(h:o.any p=true):∃x,o=some x/\p x=true:=by
 cases o with
 |none=>cases h
 |some x=>exact⟨x,rfl,h⟩
section
variable{e:Expr}
theorem Zc{x:Str}(h:YY e=some x):∃p,e=.Name x p:=by cases e<;>cases h;exact⟨_,rfl⟩
theorem Av{x:Const}(h:VO e=some x):∃k p,e=.Constant x k p:=by cases e<;>cases h;exact⟨_,_,rfl⟩
theorem ZiZ{x:Expr×UJ×Expr}(h:DH e=some x):∃p,e=.BinOp x.1 x.2.1 x.2.2 p:=by cases e<;>cases h;exact⟨_,rfl⟩
theorem II{x:UnaryOp×Expr}(h:asUn e=some x):∃p,e=.UnaryOp x.1 x.2 p:=by cases e<;>cases h;exact⟨_,rfl⟩
theorem IJ{x:Expr×List Yw×List Expr}(h:BX e=some x):∃p,e=.Compare x.1 x.2.1 x.2.2 p:=by cases e<;>cases h;exact⟨_,rfl⟩
theorem IK{x:BoolOp×List Expr×Pos}(h:BY e=some x):e=.BoolOp x.1 x.2.1 x.2.2:=by cases e<;>cases h;rfl
theorem ZlN{x:Expr×Expr×Expr}(h:asIf e=some x):∃p,e=.IfExp x.1 x.2.1 x.2.2 p:=by cases e<;>cases h;exact⟨_,rfl⟩
theorem DK{x:List Expr}(h:Au e=some x):∃k p,e=.Tuple x k p:=by cases e<;>cases h;exact⟨_,_,rfl⟩
theorem ZiU{x:List Expr}(h:DI e=some x):∃p,e=.List x p:=by cases e<;>cases h;exact⟨_,rfl⟩
theorem BZ{x:Expr×Expr}(h:WD e=some x):∃p,e=.Subscript x.1 x.2 p:=by cases e<;>cases h;exact⟨_,rfl⟩
theorem IL{x:Option Expr×Option Expr×Option Expr}(h:asSl e=some x):∃p,e=.Slice x.1 x.2.1 x.2.2 p:=by cases e<;>cases h;exact⟨_,rfl⟩
theorem Vi{x:Expr×List Expr×List Up×Pos}(h:UD e=some x):e=.Call x.1 x.2.1 x.2.2.1 x.2.2.2:=by cases e<;>cases h;rfl
theorem Zj0{x:Expr×Str×Pos}(h:DJ e=some x):e=.Attribute x.1 x.2.1 x.2.2:=by cases e<;>cases h;rfl
theorem ZlM{x:Expr×List Comprehension×Scope}(h:asLC e=some x):∃p,e=.ListComp x.1 x.2.1 x.2.2 p:=by cases e<;>cases h;exact⟨_,rfl⟩
theorem UE{α:Type}{l:List α}{x:α}(h:the1 l=some x):l=[x]:=by
 match l,h with
 |[_],h=>cases h;rfl
theorem DL{α:Type}{l:List α}{x:α×α}(h:the2 l=some x):l=[x.1,x.2]:=by
 match l,h with
 |[_,_],h=>cases h;rfl
theorem ZjZ{α:Type}{l:List α}{x:α×α×α}(h:the3 l=some x):l=[x.1,x.2.1,x.2.2]:=by
 match l,h with
 |[_,_,_],h=>cases h;rfl
theorem Vj{α:Type}{l:List α}{x:α×List α}(h:hd1 l=some x):l=x.1::x.2:=by
 match l,h with
 |_::_,h=>cases h;rfl
theorem IM{α:Type}{l:List α}{x:α×α×List α}(h:hd2 l=some x):l=x.1::x.2.1::x.2.2:=by
 match l,h with
 |_::_::_,h=>cases h;rfl
theorem YE{α:Type}{l:List α}(h:non0 l=true):l=[]:=by
 match l,h with
 |[],_=>rfl
end
noncomputable def IN(e:Expr):Bool:=(YY e).isSome||(VO e).isSome||(DH e).isSome||(asUn e).isSome||(BX e).isSome||(BY e).isSome||(asIf e).isSome||(Au e).isSome||(DI e).isSome||(TZ e).isSome||(WD e).isSome||(UD e).isSome||(asLC e).isSome||(DJ e).isSome
mutual
noncomputable def Zd(sc:Scope)(N:List Str)(lim:Nat)(all:Bool):ITg->Expr->Bool
 |.nm i,e=>(YY e).any λx=>decide (N[i]?=some x)&&decide (i<lim)&&(if all then locB sc x else decide (sc.names.lookup x=some .local))
 |.tup ts,e=>(Au e).any λes=>chkTgs sc N lim all ts es
noncomputable def chkTgs(sc:Scope)(N:List Str)(lim:Nat)(all:Bool):ITgs->List Expr->Bool
 |.nil,l=>non0 l
 |.cons t ts,l=>(hd1 l).any λq=>Zd sc N lim all t q.1&&chkTgs sc N lim all ts q.2
end
mutual
noncomputable def chkE(G:GI):IE->Scope->List Str->Expr->Bool
 |.var i,sc,N,e=>(YY e).any fun x=>decide (N[i]?=some x)&&visB sc x&& !(x==("__debug__":Str))&& !(x==("__classdict__":Str))
 |.int i,_,_,e=>(VO e).any λc=>decide (c=.int i)
 |.str x,_,_,e=>(VO e).any λc=>decide (c=.str x)
 |.bl b,_,_,e=>(VO e).any λc=>decide (c=.bool b)
 |.non,_,_,e=>(VO e).any λc=>decide (c=.none)
 |.glb x i,sc,_,e=>(YY e).any λy=>decide (x=y)&&decide (G.gl.lookup x=some i)&&glB sc x
 |.ty c,sc,_,e=>(YY e).any λy=>decide (y=(c.name:Str))&&decide (c≠.none)&&G.bl.contains y&&glB sc y
 |.bin op a b,sc,N,e=>(DH e).any λq=>decide (op=q.2.1)&&chkE G a sc N q.1&&chkE G b sc N q.2.2
 |.neg a,sc,N,e=>(asUn e).any λq=>decide (q.1=.USub)&&chkE G a sc N q.2
 |.not a,sc,N,e=>(asUn e).any λq=>decide (q.1=.Not)&&chkE G a sc N q.2
 |.cmp op a b,sc,N,e=>(BX e).any λq=>(the1 q.2.1).any λo=>(the1 q.2.2).any λr=>decide (op=o)&&chkE G a sc N q.1&&chkE G b sc N r&& !behindInMarks op r
 |.chn op op' a b c,sc,N,e=>(BX e).any λq=>(the2 q.2.1).any λo=>(the2 q.2.2).any λr=>decide (op=o.1)&&decide (op'=o.2)&&chkE G a sc N q.1&&chkE G b sc N r.1&&chkE G c sc N r.2&& !lastMarks [op,op'] [r.1,r.2]
 |.and a b,sc,N,e=>(BY e).any λq=>(hd2 q.2.1).any λv=>decide (q.1=.And)&&chkE G a sc N v.1&&chkE G b sc N (if non0 v.2.2 then v.2.1 else .BoolOp .And (v.2.1::v.2.2) q.2.2)
 |.or a b,sc,N,e=>(BY e).any λq=>(hd2 q.2.1).any λv=>decide (q.1=.Or)&&chkE G a sc N v.1&&chkE G b sc N (if non0 v.2.2 then v.2.1 else .BoolOp .Or (v.2.1::v.2.2) q.2.2)
 |.ife c a b,sc,N,e=>(asIf e).any λq=>tok c&&chkE G c sc N q.1&&chkE G a sc N q.2.1&&chkE G b sc N q.2.2
 |.tup es,sc,N,e=>(Au e).any λxs=>chkEs G es sc N xs
 |.lst es,sc,N,e=>(DI e).any λxs=>chkEs G es sc N xs
 |.dic,_,_,_=>false
 |.ix a b,sc,N,e=>(WD e).any λq=>chkE G a sc N q.1&&chkE G b sc N q.2&&Ar q.2
 |.sl a lo hi,sc,N,e=>(WD e).any λq=>(asSl q.2).any λs=>chkE G a sc N q.1&&chkO G lo sc N s.1&&chkO G hi sc N s.2.1&& !s.2.2.isSome
 |.call j f es,sc,N,e=>(UD e).any λq=>(YY q.1).any λg=>(hd1 q.2.1).any λx=>non0 q.2.2.1&&decide (G.fns[j]?=some g)&&glB sc g&&chkE G f sc N x.1&&chkEs G es sc N x.2
 |.bi f a es,sc,N,e=>(UD e).any λq=>(YY q.1).any λg=>(hd1 q.2.1).any λx=>non0 q.2.2.1&&decide (g=(f.name:Str))&&G.bl.contains g&&glB sc g&&chkE G a sc N x.1&&chkEs G es sc N x.2
 |.b2 f a,sc,N,e=>(UD e).any λq=>(YY q.1).any λg=>(the1 q.2.1).any λy=>(UD y).any λr=>(YY r.1).any λk=>(the1 r.2.1).any λx=>non0 q.2.2.1&&non0 r.2.2.1&&decide (g=(f.out:Str))&&decide (k=(f.inn:Str))&&G.bl.contains g&&G.bl.contains k&&glB sc g&&glB sc k&&chkE G a sc N x
 |.st3 a,sc,N,e=>(WD e).any λq=>(asSl q.2).any λs=>chkE G a sc N q.1&& !s.1.isSome&& !s.2.1.isSome&&s.2.2.any λc=>(VO c).any λc=>decide (c=.int 3)
 |.mxd a,_,_,_=>false
 |.mt m o es,sc,N,e=>(UD e).any λq=>(DJ q.1).any λa=>non0 q.2.2.1&&decide (a.2.1=(m.name:Str))&&(a.2.2.endLine==q.2.2.2.line)&&chkE G o sc N a.1&&chkEs G es sc N q.2.1&&decide (q.2.1.length<20)
 |.comp own fr src tg test elt,sc,N,e=>(asLC e).any λq=>(the1 q.2.1).any λg=>Wt sc q.2.2 N own fr&&At g.iter&&decide (nC own fr N).Nodup&&chkSr G src sc N g.iter&&Zd (WC q.2.2 sc) (nC own fr N) own.length false tg g.target&&
   chkI G test (WC q.2.2 sc) (nC own fr N) g.ifs&&chkE G elt (WC q.2.2 sc) (nC own fr N) q.1&&decide (g.is_async=0)
 |.fld c o f,_,_,_=>false
 |.mcall j c m o es,_,_,_=>false
 |.make j c a es,_,_,_=>false
 |.disp ps,_,_,_=>false
noncomputable def Aw(G:GI):IPs->Scope->List Str->List (Option Expr)->List Expr->Bool
 |.nil,_,_,l,r=>non0 l&&non0 r
 |.cons k v ps,sc,N,l,r=>(hd1 l).any λq=>(hd1 r).any λs=>q.1.any λx=>chkE G k sc N x&&chkE G v sc N s.1&&Aw G ps sc N q.2 s.2
noncomputable def chkEs(G:GI):IEs->Scope->List Str->List Expr->Bool
 |.nil,_,_,l=>non0 l
 |.cons e es,sc,N,l=>(hd1 l).any λq=>chkE G e sc N q.1&&chkEs G es sc N q.2
noncomputable def chkO(G:GI):IO->Scope->List Str->Option Expr->Bool
 |.none,_,_,o=>!o.isSome
 |.some e,sc,N,o=>o.any λx=>chkE G e sc N x
noncomputable def chkI(G:GI):IO->Scope->List Str->List Expr->Bool
 |.none,_,_,l=>non0 l
 |.some e,sc,N,l=>(the1 l).any λx=>tok e&&chkE G e sc N x
noncomputable def chkSr(G:GI):ISr->Scope->List Str->Expr->Bool
 |.seq a,sc,N,e=>chkE G a sc N e
 |.rng a,sc,N,e=>(UD e).any fun q=>(YY q.1).any fun f=>(the1 q.2.1).any fun x=>non0 q.2.2.1&&decide (f=("range":Str))&&G.bl.contains f&&glB sc f&&chkE G a sc N x
 |.rng2 a b,sc,N,e=>(UD e).any fun q=>(YY q.1).any fun f=>(the2 q.2.1).any fun x=>non0 q.2.2.1&&decide (f=("range":Str))&&G.bl.contains f&&glB sc f&&chkE G a sc N x.1&&chkE G b sc N x.2
 |.rng3 a b c,sc,N,e=>(UD e).any fun q=>(YY q.1).any fun f=>(the3 q.2.1).any fun x=>non0 q.2.2.1&&decide (f=("range":Str))&&G.bl.contains f&&glB sc f&&chkE G a sc N x.1&&chkE G b sc N x.2.1&&chkE G c sc N x.2.2
end
noncomputable def liSp(K:X6)(sp:SpM):Sp:=λvs H Q _=>∃ms M,RMs K H ms vs/\RH K M H/\sp ms M (Dn K H Q)
structure Cok (X:Cx) (G:GI) (Φ:List (Str×SpM)):Prop where
 room:X.A.units+70<cLine
 calm:X.calm=true
 nox:X.xe=λ_ _=>False
 blk:X.env.blockKind=.function
 nd:X.N.Nodup
 bls:∀x,G.bl.contains x=true->X.mg x=none
 gls:∀x i,G.gl.lookup x=some i->∃tk,X.mg x=some (.int i tk)
 fnn:∀(j:Nat) f,G.fns[j]?=some f->∃sp,Φ[j]?=some (f,sp)
 mon:∀(j:Nat) f sp,Φ[j]?=some (f,sp)->MonW sp
 fns:∀(j:Nat) f sp,G.fns[j]?=some f->Φ[j]?=some (f,sp)->∃k fa fd ps,Room k X.A/\FnOk X.prog X.w X.K X.mg X.base CX0 k fa fd ps (liSp X.K sp)/\X.mg f=some (.ref fa)/\Xq X.K (.ref fa)=true/\Binds X.K fd ps []
 mts:∀(j:Nat) c m,G.mts.contains (j,c,m)=true->∃f sp,Φ[j]?=some (f,sp)/\∃k C fa fd ps,Room k X.A/\FnOk X.prog X.w X.K X.mg X.base CX0 k fa fd ps (liSp X.K sp)/\Xi X.K Xf c=some (some (.ref C))/\Cls X.K C/\Meth X.K C m fa/\Binds X.K fd ps []
 mks:∀(j:Nat) c,G.mks.contains (j,c)=true->∃f sp,Φ[j]?=some (f,sp)/\∃k C fa fd ps,Room (k+1) X.A/\FnOk X.prog X.w X.K X.mg X.base CX0 k fa fd ps (liSp X.K sp)/\Xi X.K Xf c=some (some (.ref C))/\X.mg c=some (.ref C)/\Mk X.K C fa/\Binds X.K fd ps []
 cls:∀c f,G.cls.contains (c,f)=true->∃C,Xi X.K Xf c=some (some (.ref C))/\Cls X.K C/\Di X.K C f
section
variable{X:Cx}{G:GI}{Φ:List (Str×SpM)}
theorem Zm2{sc:Scope}{x:Str}(h:visB sc x=true):Vis sc x:=by
 unfold visB at h;unfold Vis;cases e:sc.names.lookup x with
 |none=>rw[e]at h;cases h
 |some k=>rw[e]at h;cases k<;>first|exact .inl rfl|exact .inr (.inl rfl)|exact .inr (.inr rfl)|cases h
theorem C0{sc:Scope}{x:Str}(h:locB sc x=true):Loc sc x:=by
 unfold locB at h;unfold Loc;cases e:sc.names.lookup x with
 |none=>rw[e]at h;cases h
 |some k=>rw[e]at h;cases k<;>first|exact .inl rfl|exact .inr rfl|cases h
theorem UT{x:Str}(h:glB X.env.scope x=true):Gl X x/\(x==("__debug__":Str))=false/\x≠"__name__":=by
 unfold glB at h;simp only[YA,decide_eq_true_eq,Bool.not_eq_true']at h;exact⟨h.1.1,h.1.2,h.2⟩
theorem ZlH(f:BI):YF (f.name:Str)=some f.val:=by cases f<;>(show YF _=some _;decide+kernel)
theorem ZlG{c:Ty7}(h:c≠.none):YF (c.name:Str)=some (.type c.name):=by cases c<;>first|exact absurd rfl h|decide+kernel
theorem boot_range:YF ("range":Str)=some (.type "range"):=by decide+kernel
theorem Zfr:∀{ie:IE} {sc:Scope} {N:List Str} {e:Expr},chkE G ie sc N e=true->IN e=true:=by
 intro ie sc N e h;cases ie
 all_goals
  first
   |exact absurd h XF
   |(replace h:=Xk h
     obtain⟨x,hx,_⟩:=h;simp only[IN,hx,Option.isSome_some,Bt,Bs])
theorem XZ:∀{ie:IE} {sc:Scope} {N:List Str} {e:Expr} {es:List Expr} {env:Env},chkE G ie sc N e=true->XL (e::es) env=(false,eval e env)::XL es env:=by
 intro ie sc N e es env h;cases e<;>first|rfl|cases Zfr h
theorem WE:∀{ies:IEs} {sc:Scope} {N:List Str} {es:List Expr} {env:Env} {pos:Pos},chkEs G ies sc N es=true->(XL es env).all (λx=>!x.1)=true
 |.nil,sc,N,es,_,_,h=>by
  cases YE h
  rfl
 |.cons e es,sc,N,xs,env,pos,h=>by
  replace h:=Xk h;obtain⟨q,h1,h2⟩:=h;cases Vj h1;rw[YA]at h2;rw[XZ h2.1,Vx];exact WE (pos:=pos) h2.2
theorem Zip:∀{ie:IE} {sc:Scope} {N:List Str} {x:Str} {px p:Pos} {ks:List Up},chkE G ie sc N (.Call (.Name x px) [] ks p)=true->False:=by
 intro ie sc N x px p ks h;cases ie
 all_goals exact absurd h XF
theorem IP{ie:IE}{sc:Scope}{N:List Str}{o:Expr}{nm:Str}{env:Env}(h:chkE G ie sc N o=true):WV o nm env (eval o env)=eval o env:=by
 cases o<;>try rfl
 rename_i fn args kw pos
 cases fn<;>try rfl
 cases args with
 |cons a r=>rfl
 |nil=>exact(Zip h).elim
theorem Ax{pos:Pos}{l:List (Bool×Sem X0)}(h:l.all (λx=>!x.1)=true):(Ys pos l).all (λx=>!x.1)=true/\(Ys pos l).any (·.1)=false:=by
 induction l with
 |nil=>exact⟨rfl,rfl⟩
 |cons a r ih=>
  rw[Vx,YA]at h;obtain⟨h1,h2⟩:=ih h.2;have e:a.1=false:=by simpa using h.1
  unfold Ys at h1 h2 ⊢;rw[XA,Vx,Uv,h1,h2];obtain⟨b,t⟩:=a;cases e;exact⟨rfl,rfl⟩
end
noncomputable def tCW2(own:List Str)(fr:List Nat)(g:TG)(tt:TT)(te:TE)(σ:St)(H1:Hp)(Q:VK)(J:It)(D:Addr):Prop:=∃W:Nat->Nat->List V->Hp->Prop,
 (∃m,W 0 m [] (upd H1 D (.lst [])))/\∀i m ys H2,W i m ys H2->
  ((J.stop i H2/\Q (.ref D) H2)\/(J.go i H2/\∃N:List V->Hp->Prop,(∀ys' H',N ys' H'->∃m',m'<m/\W (i+1) m' ys' H')/\∀x H3,J.yld i H2 x H3->g x (sC own fr σ) H3 λσ2 H4=>Keep (sC own fr σ) σ2/\tt σ2 H4 λb H5=>
   if b=true then te σ2 H5 λy H6=>∃zs,H6 D=some (.lst zs)/\zs.length<sizeLine/\N (zs++[y]) (upd H6 D (.lst (zs++[y])))else N ys H5))
noncomputable def DN(own:List Str)(fr:List Nat)(wi:TI)(g:TG)(tt:TT)(te:TE):TE:=λσ H Q=>wi σ H λJ H1=>∀D,H1 D=none->tCW2 own fr g tt te σ H1 Q J D
section
variable{X:Cx}{pins:List (Addr×Obj)}{σ:St}{H1:Hp}{s2:X1}{tg elt iter:Expr}{ifs:List Expr}{scope:Scope}{pos:Pos}{own:List Str}{fr:List Nat}{g:TG}{tt:TT}{te:TE}
theorem IQ{J:It}{fp:List Addr}{it:Addr}{tn:Nat->Heap->Prop}{RR:X0->Addr->Result->X1->Prop}{Q:VK}{E:X0->X1->Prop}(hc:X.calm=true)(ok:CompOk X.env.scope scope X.N fr)
  (hg:∀C fp s₃ H₃,PG (cxC X scope own fr C fp s₃ H₃) tg g) (ht:∀C fp s₃ H₃,PTs (cxC X scope own fr C fp s₃ H₃) ifs tt) (he:∀C fp s₃ H₃,PE (cxC X scope own fr C fp s₃ H₃) elt te)
  (I2:Inv X pins σ H1 s2) (T:Turn X.prog X.w X.K tg J fp it tn) (st:tn 0 s2.heap) (hf:∀b∈fp,FpOk X pins H1 b)
  (h:∀D,H1 D=none->tCW2 own fr g tt te σ H1 Q J D)
  (hRR:∀D C H' s',Inv X pins σ H' s'->(∃m,s'.heap.Ns C m)->H' C=none->C≠X.env.locals->X.s₀.heap.objs.size≤C->(∀x c,X.env.cells.lookup x=some c->c≠C)->(∀p∈X.pn++pins,p.1≠C)->Q (.ref D) H'->RR (.ref D) C (.ok .next) s'):
  X4 (X9 X.prog X.w) X.A (newList []) (λacc s₃=>X4 (X9 X.prog X.w) X.A (newFunctionEnv scope X.env.globals (clOf X.env.cells scope.names []) [] X.env.qual none .none (some X.env)) (λcenv s₄=>
   Z7 (X9 X.prog X.w) X.A (.compStart (.ListComp elt [⟨tg,iter,ifs,0⟩] scope pos) 0 (.ref it) acc {cenv with scope:=relabel scope X.env}) (RR acc cenv.locals) s₄) E s₃) E s2:=by
 have hD:H1 s2.heap.objs.size=none:=I2.hok.fresh (Xl _);obtain⟨W,⟨m0,w0⟩,step⟩:=h _ hD;refine UK (wpAny_newFunctionEnv ok.nocell (by intro y hy;simp at hy) (λh4 ns4 sb4=>?_) ok.kind)
 dsimp only at ns4 sb4 ⊢;have I3:Inv X pins σ (upd H1 s2.heap.objs.size (.lst [])) {s2 with heap:=s2.heap.push {cls:=.type "list",dict:=none,data:=.seq ([]:List X0).toArray},toks:=s2.toks}:=
  I2.laid (λb u e=>Xr _ e) (Xl _) ⟨YN _,[],0,.nil,XR _ rfl⟩
 have fpo:∀b∈fp,∃o,s2.heap.get? b=some o:=λb hb=>let⟨o,e,_⟩:=T.obj 0 _ st b hb;⟨o,e⟩
 have fpD:∀b∈fp,b≠s2.heap.objs.size:=λb hb=>let⟨o,e⟩:=fpo b hb;XH (Xv e)
 have hf3:∀b∈fp,FpOk X pins (upd H1 s2.heap.objs.size (.lst [])) b:=λb hb=>⟨by rw[XN (fpD b hb)];exact(hf b hb).1,(hf b hb).2⟩
 generalize hs3:({s2 with heap:=s2.heap.push {cls:=.type "list",dict:=none,data:=.seq ([]:List X0).toArray},toks:=s2.toks}:X1)=s3 at*;have e3:s2.heap.push {cls:=.type "list",dict:=none,data:=.seq ([]:List X0).toArray}=s3.heap:=by rw[<- hs3]
 rw[e3]at ns4 sb4 ⊢;have kp:∀b o,s3.heap.get? b=some o->h4.get? b=some o:=λb o e=>(sb4.2 b (XH (Xv e))).trans (Xr _ e);have fpo3:∀b∈fp,∃o,s3.heap.get? b=some o:=λb hb=>let⟨o,e⟩:=fpo b hb;⟨o,by rw[<- e3];exact Xr _ e⟩
 have I4:=RZ (own:=own) (scope:=scope) (fr:=fr) (tk:=s2.toks+0) ok I3 rfl hf3 fpo3 ns4 kp;have st4:tn 0 h4:=T.keep _ _ _ st λb hb o e=>kp b o (by rw[<- e3];exact Xr _ e)
 have fpC:∀b∈fp,b≠s3.heap.objs.size:=λb hb=>let⟨o,e⟩:=fpo3 b hb;XH (Xv e)
 have stat:∀{H':Hp},(∀b∈fp,H' b=none)->∀b∈fp,FpOk (cxC X scope own fr s3.heap.objs.size fp s3 (upd H1 s2.heap.objs.size (.lst []))) pins H' b:=λhn b hb=>by
  refine⟨hn b hb,fpC b hb,λz=>?_,.inl hb,λx c e=>?_,(hf b hb).2.2.2.2.2⟩
  ·rcases Xu.mp (I3.stkSub b z)with z|z
   ·exact(hf b hb).2.1 z
   ·exact(hf b hb).2.2.1 z
  ·exact(hf b hb).2.2.2.2.1 x c ((Am _ _ _ _ _ e).elim (λz=>by simp at z) id)
 have loop:Z7 (X9 X.prog X.w) X.A (.compLoop (.ListComp elt [⟨tg,iter,ifs,0⟩] scope pos) 0 (.ref it) (.ref s2.heap.objs.size) (compEnvC scope (clOf X.env.cells scope.names []) s3.heap.objs.size X.env))
   (RR (.ref s2.heap.objs.size) s3.heap.objs.size) {s3 with heap:=h4,toks:=s2.toks+0}:=by
  refine RX (λn s'=>∃i ys H',Inv (cxC X scope own fr s3.heap.objs.size fp s3 (upd H1 s2.heap.objs.size (.lst []))) pins (sC own fr σ) H' s'/\tn i s'.heap/\(∀b∈fp,H' b=none)/\W i n ys H') ?_ m0
   ⟨0,[],_,I4,st4,λb hb=>(hf3 b hb).1,w0⟩
  rintro n s5 ⟨i,ys,H5,I5,st5,fr5,w5⟩;have way:=step i n ys H5 w5;rcases way with⟨stop,q⟩|⟨go,N,hN,turn⟩
  ·refine thn (T.done (cxC X scope own fr s3.heap.objs.size fp s3 (upd H1 s2.heap.objs.size (.lst []))) rfl rfl rfl hc i pins s5 _ H5 _ I5 (stat fr5) st5 stop) λr s6 ⟨hr,I6⟩=>?_;subst hr;have J6:Inv X pins σ H5 s6:=I3.call' I6.os I6.base I6.hok I6.bare λb hb=>⟨(hf b hb).2.2.2.1,(hf b hb).2.1,(hf b hb).2.2.2.2.1,(hf b hb).2.2.2.2.2⟩;obtain⟨m6,ns6,_⟩:=I6.loc;refine hRR _ _ H5 s6 J6 ⟨m6,ns6⟩ I6.free (VB I3.lt) I3.sz (λx c e=>?_) (λp hp=>?_) q
   ·obtain⟨v,z⟩:=I3.cell x c e;exact XH z.lt
   ·exact XH (Xv (I3.pin p hp).1)
  ·refine thn (T.item (cxC X scope own fr s3.heap.objs.size fp s3 (upd H1 s2.heap.objs.size (.lst []))) rfl rfl rfl hc i pins s5 _ H5 _ I5 (stat fr5) st5 go) λr s6 ⟨u,hr,h6⟩=>?_;subst hr;refine thn h6 λ_ s7 ⟨x,H7,I7,r7,y7,st7,fr7⟩=>?_;have I7':=I7.pinned (stat fr7) (T.obj _ _ st7);refine thn (hg _ _ _ _ _ s7 _ H7 x u _ I7' r7 (turn x H7 y7)) λ_ s8 ⟨σ8,H8,I8,kp8,q8⟩=>?_;have again:∀{H9:Hp} {s9:X1},Inv (cxC X scope own fr s3.heap.objs.size fp s3 (upd H1 s2.heap.objs.size (.lst []))) (pins++Wq fp s7.heap) σ8 H9 s9->∀{ys'},(∃m',m'<n/\W (i+1) m' ys' H9)->
     ∃m,m<n/\∃i ys H',Inv (cxC X scope own fr s3.heap.objs.size fp s3 (upd H1 s2.heap.objs.size (.lst []))) pins (sC own fr σ) H' s9/\tn i s9.heap/\(∀b∈fp,H' b=none)/\W i m ys H':=fun{H9 s9} I9 {ys'} ⟨m',hm,w9⟩=>by
    refine⟨m',hm,i+1,ys',H9,(I9.unpinned).weak kp8.1 kp8.2,T.keep _ _ _ st7 λb hb o e=>(I9.pin (b,o) (Ur _ (Ur _ (BO hb e)))).1,λb hb=>?_,w9⟩;obtain⟨o,e,d⟩:=T.obj _ _ st7 b hb;exact(I9.pin (b,o) (Ur _ (Ur _ (BO hb e)))).2.1
   have fin:∀{ok:Bool} {s9:X1} {H9:Hp},Inv (cxC X scope own fr s3.heap.objs.size fp s3 (upd H1 s2.heap.objs.size (.lst []))) (pins++Wq fp s7.heap) σ8 H9 s9->
     (if ok=true then te σ8 H9 λy H6=>∃zs,H6 s2.heap.objs.size=some (.lst zs)/\zs.length<sizeLine/\N (zs++[y]) (upd H6 s2.heap.objs.size (.lst (zs++[y])))else N ys H9)->
     (if ok=true then X4 (X9 X.prog X.w) X.A (eval elt (compEnvC scope (clOf X.env.cells scope.names []) s3.heap.objs.size X.env)) (λx s₄=>
      X4 (X9 X.prog X.w) X.A (call (.builtin "list.append") [.ref s2.heap.objs.size,x]) (fun _ s₅=>∃m,m<n/\∃i ys H',Inv (cxC X scope own fr s3.heap.objs.size fp s3 (upd H1 s2.heap.objs.size (.lst []))) pins (sC own fr σ) H' s₅/\tn i s₅.heap/\(∀b∈fp,H' b=none)/\W i m ys H') (fun _ _=>False) s₄) (fun _ _=>False) s9
      else∃m,m<n/\∃i ys H',Inv (cxC X scope own fr s3.heap.objs.size fp s3 (upd H1 s2.heap.objs.size (.lst []))) pins (sC own fr σ) H' s9/\tn i s9.heap/\(∀b∈fp,H' b=none)/\W i m ys H'):=fun{ok s9 H9} I9 q9=>by
    cases ok with
    |false=>
     rw[if_neg XF]at q9 ⊢;exact again I9 (hN _ _ q9)
    |true=>
     rw[if_pos rfl]at q9 ⊢;refine thn (he _ _ _ _ _ s9 σ8 H9 _ I9 q9) λv s10 ⟨y,H10,I10,r10,zs,hl10,hz5,w10⟩=>?_;refine thn (Hl (X:=cxC X scope own fr s3.heap.objs.size fp s3 (upd H1 s2.heap.objs.size (.lst []))) _ s10 σ8 H10 (.ref s2.heap.objs.size) [y] (.ref s2.heap.objs.size) [v] (λ_ H'=>H'=upd H10 s2.heap.objs.size (.lst (zs++[y]))) I10 rfl (.cons r10 .nil) ⟨_,zs,y,rfl,rfl,hl10,hz5,rfl⟩) λ_ s11 ⟨_,H11,I11,_,e11⟩=>?_;subst e11;exact again I11 (hN _ _ w10)
   rcases ht s3.heap.objs.size fp s3 (upd H1 s2.heap.objs.size (.lst []))with⟨e,et⟩|⟨c,e,hcT⟩
   ·subst e et;exact wpAny_tests_nil (fin (ok:=true) I8 q8)
   ·subst e;exact wpAny_tests_one (thn (hcT _ s8 σ8 H8 _ I8 q8) λb s9 ⟨H9,I9,q9⟩=>fin I9 q9)
 subst hs3;exact codeAny_compStart_list loop (T.self _ 0 _ _ _ st4 loop)
theorem Zif(own:List Str)(fr:List Nat){wi:TI}(hx:∀e s,¬X.xe e s)(hc:X.calm=true)(ok:Wt X.env.scope scope X.N own fr=true)(hi:PI X tg iter wi)
  (hg:∀C fp s₃ H₃,PG (cxC X scope own fr C fp s₃ H₃) tg g) (ht:∀C fp s₃ H₃,PTs (cxC X scope own fr C fp s₃ H₃) ifs tt) (he:∀C fp s₃ H₃,PE (cxC X scope own fr C fp s₃ H₃) elt te)
  (hs:∀x,B8 iter X.env x=pure x:=by intro _;rfl):
  PE X (.ListComp elt [⟨tg,iter,ifs,0⟩] scope pos) (DN own fr wi g tt te):=by
 have ok':=Wu ok;intro pins s σ H Q I h;rw[eval_ListComp];refine wpAny_comprehension_free (use:=none) (cl:=clOf X.env.cells scope.names []) rfl hs (Hv λy hy hk=>I.ok.has y.1 (ok'.has y hy hk)) ok'.kind ok'.names (thn (hi pins s σ H _ I h) λv s1 h1=>thn h1 λitv s2 h2=>?_);obtain⟨it,fp,tn,J,H2,e,I2,T,st2,f2,R⟩:=h2;subst e;refine IQ (RR:=λacc C=>compPost (X9 X.prog X.w) X.A X.xe none (EP X pins σ Q) acc C) (Q:=Q) hc ok' hg ht he I2 T st2 f2 R ?_;rintro D C H' s' I' ⟨m,ns⟩ c1 c2 c3 c4 c5 q;refine⟨m,ns,λh' sb=>⟨.ref D,H',?_,rfl,q⟩⟩;exact I'.turned (t':=s'.toks) (λb o hb e=>(sb.2 b hb).trans e) c1 c2 (.inr c3) c4 c5
theorem Zde(own:List Str)(fr:List Nat){i:Nat}{y:Str}{py spos:Pos}{wi:TI}(hN:X.N.Nodup)(hi:X.N[i]?=some y) (hy:Loc X.env.scope y) (hx:∀e s,¬X.xe e s) (hc:X.calm=true) (ok:Wt X.env.scope scope X.N own fr=true) (hit:PI X tg iter wi)
  (hg:∀C fp s₃ H₃,PG (cxC X scope own fr C fp s₃ H₃) tg g) (ht:∀C fp s₃ H₃,PTs (cxC X scope own fr C fp s₃ H₃) ifs tt) (he:∀C fp s₃ H₃,PE (cxC X scope own fr C fp s₃ H₃) elt te)
  (hsw:V4 (.ListComp elt [⟨tg,iter,ifs,0⟩] scope pos) (some (.Name y py)) spos.line X.env=pure true:=by rfl) (hs:∀x,B8 iter X.env x=pure x:=by intro _;rfl)
  (hf:X.fn y=true\/X.env.scope.names.lookup y=some .local:=by first|exact .inl rfl|exact .inr rfl|assumption):
  PS X (.Assign [.Name y py] (.ListComp elt [⟨tg,iter,ifs,0⟩] scope pos) spos) (tAsg (DN own fr wi g tt te) (BN i)):=by
 have ok':=Wu ok;intro pins s σ H D I h;rw[exec_Assign_Name_used _ _ _ _ hsw];refine X3 (wpAny_standAt (X3 ?_));show X4 _ X.A (do let _<- comprehension (.ListComp elt [⟨tg,iter,ifs,0⟩] scope pos) scope X.env _ (newList []) false (eval iter X.env) (some (assign (.Name y py) X.env))) _ _ s
 refine X3 (Ul (wpAny_comprehension_free (use:=some (assign (.Name y py) X.env)) (cl:=clOf X.env.cells scope.names []) (Q:=λ_ s'=>SP X pins D .next s') rfl hs (Hv λy hy hk=>I.ok.has y.1 (ok'.has y hy hk)) ok'.kind ok'.names
  (thn (hit pins s σ H _ I h) λv s1 h1=>thn h1 λitv s2 h2=>?_)) (λ_ s' hq=>Xb (Xb hq)) λ_ _ e=>e)
 obtain⟨it,fp,tn,J,H2,e,I2,T,st2,f2,R⟩:=h2;subst e;refine IQ (RR:=λacc C=>compPost (X9 X.prog X.w) X.A X.xe (some (assign (.Name y py) X.env)) (λ_ s'=>SP X pins D .next s') acc C) (Q:=λv H'=>D.nx (σ.set i (some v)) H') hc ok' hg ht he I2 T st2 f2 R ?_;rintro E C H' s' I' ⟨m,ns⟩ c1 c2 c3 c4 c5 q;show X4 _ X.A (assign (.Name y py) X.env (.ref E)) _ _ _;refine wpAny_assign_Name (Gz I' hN hi hy (v:=.ref E) (u:=.ref E) rfl (λs'' I'' sb=>?_) hf);obtain⟨a,sb,ha⟩:=sb;have hCa:C≠a:=by
  rcases ha with z|z
  ·rw[z];exact c2
  ·exact λe=>c4 _ _ z e.symm
 refine⟨m,ns.sameBut sb hCa,λh' sb'=>⟨_,H',?_,q⟩⟩;exact I''.turned (t':=s''.toks) (λb o hb e=>(sb'.2 b hb).trans e) c1 c2 (.inr c3) c4 c5
end
section
variable{G:GI}{sc:Scope}{N:List Str}{e:Expr}
theorem Xg{a b:Bool}(h:(a&&b)=true):a=true/\b=true:=by rwa [YA]at h
theorem XS{p:Prop} [Decidable p] (h:decide p=true):p:=of_decide_eq_true h
theorem not_of{b:Bool}(h:(!b)=true):b=false:=by cases b with|false=>rfl|true=>cases h
theorem Zl9{i:Nat}(h:chkE G (.var i) sc N e=true):∃x p,e=.Name x p/\N[i]?=some x/\visB sc x=true/\(x==("__debug__":Str))=false/\(x==("__classdict__":Str))=false:=by
 replace h:=Xk h;obtain⟨x,h1,h⟩:=h;obtain⟨p,rfl⟩:=Zc h1;replace h:=Xg h;obtain⟨h,h5⟩:=h;replace h:=Xg h;obtain⟨h,h4⟩:=h;replace h:=Xg h;obtain⟨h2,h3⟩:=h;exact⟨x,p,rfl,XS h2,h3,not_of h4,not_of h5⟩
theorem Zli{i:Int}(h:chkE G (.int i) sc N e=true):∃k p,e=.Constant (.int i) k p:=by
 replace h:=Xk h;obtain⟨x,h1,h⟩:=h;obtain⟨k,p,rfl⟩:=Av h1;exact⟨k,p,by rw[XS h]⟩
theorem Zlb{i:Str}(h:chkE G (.str i) sc N e=true):∃k p,e=.Constant (.str i) k p:=by
 replace h:=Xk h;obtain⟨x,h1,h⟩:=h;obtain⟨k,p,rfl⟩:=Av h1;exact⟨k,p,by rw[XS h]⟩
theorem ZnI{i:Bool}(h:chkE G (.bl i) sc N e=true):∃k p,e=.Constant (.bool i) k p:=by
 replace h:=Xk h;obtain⟨x,h1,h⟩:=h;obtain⟨k,p,rfl⟩:=Av h1;exact⟨k,p,by rw[XS h]⟩
theorem Zlf(h:chkE G .non sc N e=true):∃k p,e=.Constant .none k p:=by
 replace h:=Xk h;obtain⟨x,h1,h⟩:=h;obtain⟨k,p,rfl⟩:=Av h1;exact⟨k,p,by rw[XS h]⟩
theorem Zlk{x:Str}{i:Int}(h:chkE G (.glb x i) sc N e=true):∃p,e=.Name x p/\G.gl.lookup x=some i/\glB sc x=true:=by
 replace h:=Xk h;obtain⟨y,h1,h⟩:=h;obtain⟨p,rfl⟩:=Zc h1;replace h:=Xg h;obtain⟨h,h4⟩:=h;replace h:=Xg h;obtain⟨h2,h3⟩:=h;obtain rfl:=XS h2;exact⟨p,rfl,XS h3,h4⟩
theorem ZnD{c:Ty7}(h:chkE G (.ty c) sc N e=true):∃p,e=.Name (c.name:Str) p/\c≠.none/\G.bl.contains (c.name:Str)=true/\glB sc (c.name:Str)=true:=by
 replace h:=Xk h;obtain⟨y,h1,h⟩:=h;obtain⟨p,rfl⟩:=Zc h1;replace h:=Xg h;obtain⟨h,h5⟩:=h;replace h:=Xg h;obtain⟨h,h4⟩:=h;replace h:=Xg h;obtain⟨h2,h3⟩:=h;obtain rfl:=XS h2;exact⟨p,rfl,XS h3,h4,h5⟩
theorem Zln{op:UJ}{a b:IE}(h:chkE G (.bin op a b) sc N e=true):∃l r p,e=.BinOp l op r p/\chkE G a sc N l=true/\chkE G b sc N r=true:=by
 replace h:=Xk h;obtain⟨⟨l,o,r⟩,h1,h⟩:=h;obtain⟨p,rfl⟩:=ZiZ h1;replace h:=Xg h;obtain⟨h,h4⟩:=h;replace h:=Xg h;obtain⟨h2,h3⟩:=h;obtain rfl:=XS h2;exact⟨l,r,p,rfl,h3,h4⟩
theorem Zlg{a:IE}(h:chkE G (.neg a) sc N e=true):∃l p,e=.UnaryOp .USub l p/\chkE G a sc N l=true:=by
 replace h:=Xk h;obtain⟨⟨o,l⟩,h1,h⟩:=h;obtain⟨p,rfl⟩:=II h1;replace h:=Xg h;obtain⟨h2,h3⟩:=h;obtain rfl:=XS h2;exact⟨l,p,rfl,h3⟩
theorem Zle{a:IE}(h:chkE G (.not a) sc N e=true):∃l p,e=.UnaryOp .Not l p/\chkE G a sc N l=true:=by
 replace h:=Xk h;obtain⟨⟨o,l⟩,h1,h⟩:=h;obtain⟨p,rfl⟩:=II h1;replace h:=Xg h;obtain⟨h2,h3⟩:=h;obtain rfl:=XS h2;exact⟨l,p,rfl,h3⟩
theorem Zll{op:Yw}{a b:IE}(h:chkE G (.cmp op a b) sc N e=true):∃l r p,e=.Compare l [op] [r] p/\chkE G a sc N l=true/\chkE G b sc N r=true/\WT op r=false:=by
 replace h:=Xk h;obtain⟨⟨l,os,rs⟩,h1,h⟩:=h;obtain⟨p,rfl⟩:=IJ h1;replace h:=Xk h;obtain⟨o,h2,h⟩:=h;replace h:=Xk h;obtain⟨r,h3,h⟩:=h;obtain rfl:=UE h2;obtain rfl:=UE h3;replace h:=Xg h;obtain⟨h,h7⟩:=h;replace h:=Xg h;obtain⟨h,h6⟩:=h;replace h:=Xg h;obtain⟨h4,h5⟩:=h;obtain rfl:=XS h4;exact⟨l,r,p,rfl,h5,h6,not_of h7⟩
theorem Zlm{op op':Yw}{a b c:IE}(h:chkE G (.chn op op' a b c) sc N e=true):∃l m r p,e=.Compare l [op,op'] [m,r] p/\chkE G a sc N l=true/\chkE G b sc N m=true/\chkE G c sc N r=true/\lastMarks [op,op'] [m,r]=false:=by
 replace h:=Xk h;obtain⟨⟨l,os,rs⟩,h1,h⟩:=h;obtain⟨p,rfl⟩:=IJ h1;replace h:=Xk h;obtain⟨⟨o,o'⟩,h2,h⟩:=h;replace h:=Xk h;obtain⟨⟨m,r⟩,h3,h⟩:=h;obtain rfl:=DL h2;obtain rfl:=DL h3;replace h:=Xg h;obtain⟨h,h9⟩:=h;replace h:=Xg h;obtain⟨h,h8⟩:=h;replace h:=Xg h;obtain⟨h,h7⟩:=h;replace h:=Xg h;obtain⟨h,h6⟩:=h;replace h:=Xg h;obtain⟨h4,h5⟩:=h;obtain rfl:=XS h4;obtain rfl:=XS h5;exact⟨l,m,r,p,rfl,h6,h7,h8,not_of h9⟩
theorem Zlo{a b:IE}(h:chkE G (.and a b) sc N e=true):∃l r rest p,e=.BoolOp .And (l::r::rest) p/\chkE G a sc N l=true/\((rest=[]/\chkE G b sc N r=true)\/chkE G b sc N (.BoolOp .And (r::rest) p)=true):=by
 replace h:=Xk h;obtain⟨⟨o,vs,p⟩,h1,h⟩:=h;obtain rfl:=IK h1;replace h:=Xk h;obtain⟨⟨l,r,rest⟩,h2,h⟩:=h;obtain rfl:=IM h2;replace h:=Xg h;obtain⟨h,h4⟩:=h;replace h:=Xg h;obtain⟨h2,h3⟩:=h;obtain rfl:=XS h2;refine⟨l,r,rest,p,rfl,h3,?_⟩;cases rest with
 |nil=>exact .inl ⟨rfl,h4⟩
 |cons _ _=>exact .inr h4
theorem ZnF{a b:IE}(h:chkE G (.or a b) sc N e=true):∃l r rest p,e=.BoolOp .Or (l::r::rest) p/\chkE G a sc N l=true/\((rest=[]/\chkE G b sc N r=true)\/chkE G b sc N (.BoolOp .Or (r::rest) p)=true):=by
 replace h:=Xk h;obtain⟨⟨o,vs,p⟩,h1,h⟩:=h;obtain rfl:=IK h1;replace h:=Xk h;obtain⟨⟨l,r,rest⟩,h2,h⟩:=h;obtain rfl:=IM h2;replace h:=Xg h;obtain⟨h,h4⟩:=h;replace h:=Xg h;obtain⟨h2,h3⟩:=h;obtain rfl:=XS h2;refine⟨l,r,rest,p,rfl,h3,?_⟩;cases rest with
 |nil=>exact .inl ⟨rfl,h4⟩
 |cons _ _=>exact .inr h4
theorem Zlj{a b c:IE}(h:chkE G (.ife c a b) sc N e=true):∃t x y p,e=.IfExp t x y p/\tok c=true/\chkE G c sc N t=true/\chkE G a sc N x=true/\chkE G b sc N y=true:=by
 replace h:=Xk h;obtain⟨⟨t,x,y⟩,h1,h⟩:=h;obtain⟨p,rfl⟩:=ZlN h1;replace h:=Xg h;obtain⟨h,h5⟩:=h;replace h:=Xg h;obtain⟨h,h4⟩:=h;replace h:=Xg h;obtain⟨h2,h3⟩:=h;exact⟨t,x,y,p,rfl,h2,h3,h4,h5⟩
theorem Zla{es:IEs}(h:chkE G (.tup es) sc N e=true):∃xs k p,e=.Tuple xs k p/\chkEs G es sc N xs=true:=by
 replace h:=Xk h;obtain⟨xs,h1,h⟩:=h;obtain⟨k,p,rfl⟩:=DK h1;exact⟨xs,k,p,rfl,h⟩
theorem Zlh{es:IEs}(h:chkE G (.lst es) sc N e=true):∃xs p,e=.List xs p/\chkEs G es sc N xs=true:=by
 replace h:=Xk h;obtain⟨xs,h1,h⟩:=h;obtain⟨p,rfl⟩:=ZiU h1;exact⟨xs,p,rfl,h⟩
theorem ZnH{a b:IE}(h:chkE G (.ix a b) sc N e=true):∃x y p,e=.Subscript x y p/\chkE G a sc N x=true/\chkE G b sc N y=true/\Ar y=true:=by
 replace h:=Xk h;obtain⟨⟨x,y⟩,h1,h⟩:=h;obtain⟨p,rfl⟩:=BZ h1;replace h:=Xg h;obtain⟨h,h4⟩:=h;replace h:=Xg h;obtain⟨h2,h3⟩:=h;exact⟨x,y,p,rfl,h2,h3,h4⟩
theorem ZnE{a:IE}{lo hi:IO}(h:chkE G (.sl a lo hi) sc N e=true):∃x l u p p2,e=.Subscript x (.Slice l u none p2) p/\chkE G a sc N x=true/\chkO G lo sc N l=true/\chkO G hi sc N u=true:=by
 replace h:=Xk h;obtain⟨⟨x,y⟩,h1,h⟩:=h;obtain⟨p,rfl⟩:=BZ h1;replace h:=Xk h;obtain⟨⟨l,u,st⟩,h2,h⟩:=h;obtain⟨p2,rfl⟩:=IL h2;replace h:=Xg h;obtain⟨h,h6⟩:=h;replace h:=Xg h;obtain⟨h,h5⟩:=h;replace h:=Xg h;obtain⟨h3,h4⟩:=h;cases st with
 |some _=>cases h6
 |none=>exact⟨x,l,u,p,p2,rfl,h3,h4,h5⟩
theorem Zlc{a:IE}(h:chkE G (.st3 a) sc N e=true):∃x k0 p0 p p2,e=.Subscript x (.Slice none none (some (.Constant (.int 3) k0 p0)) p2) p/\chkE G a sc N x=true:=by
 replace h:=Xk h;obtain⟨⟨x,y⟩,h1,h⟩:=h;obtain⟨p,rfl⟩:=BZ h1;replace h:=Xk h;obtain⟨⟨l,u,st⟩,h2,h⟩:=h;obtain⟨p2,rfl⟩:=IL h2;replace h:=Xg h;obtain⟨h,h6⟩:=h;replace h:=Xg h;obtain⟨h,h5⟩:=h;replace h:=Xg h;obtain⟨h3,h4⟩:=h;obtain⟨c,h8,h9⟩:=Xk h6;replace h8:st=some c:=h8;subst h8;obtain⟨k,h7,h10⟩:=Xk h9;obtain rfl:=XS h10;obtain⟨k0,p0,rfl⟩:=Av h7;cases l with
 |some _=>cases h4
 |none=>
  cases u with
  |some _=>cases h5
  |none=>exact⟨x,k0,p0,p,p2,rfl,h3⟩
theorem ZiA{j:Nat}{a:IE}{es:IEs}(h:chkE G (.call j a es) sc N e=true):∃f p x xs p2,e=.Call (.Name f p) (x::xs) [] p2/\G.fns[j]?=some f/\glB sc f=true/\chkE G a sc N x=true/\chkEs G es sc N xs=true:=by
 replace h:=Xk h;obtain⟨⟨f,l,ks,p2⟩,h1,h⟩:=h;obtain rfl:=Vi h1;replace h:=Xk h;obtain⟨g,h2,h⟩:=h;obtain⟨p,rfl⟩:=Zc h2;replace h:=Xk h;obtain⟨⟨x,xs⟩,h3,h⟩:=h;obtain rfl:=Vj h3;replace h:=Xg h;obtain⟨h,h8⟩:=h;replace h:=Xg h;obtain⟨h,h7⟩:=h;replace h:=Xg h;obtain⟨h,h6⟩:=h;replace h:=Xg h;obtain⟨h4,h5⟩:=h;obtain rfl:=YE h4;exact⟨g,p,x,xs,p2,rfl,XS h5,h6,h7,h8⟩
theorem ZnJ{f:BI}{a:IE}{es:IEs}(h:chkE G (.bi f a es) sc N e=true):∃p x xs p2,e=.Call (.Name (f.name:Str) p) (x::xs) [] p2/\G.bl.contains (f.name:Str)=true/\glB sc (f.name:Str)=true/\chkE G a sc N x=true/\chkEs G es sc N xs=true:=by
 replace h:=Xk h;obtain⟨⟨f',l,ks,p2⟩,h1,h⟩:=h;obtain rfl:=Vi h1;replace h:=Xk h;obtain⟨g,h2,h⟩:=h;obtain⟨p,rfl⟩:=Zc h2;replace h:=Xk h;obtain⟨⟨x,xs⟩,h3,h⟩:=h;obtain rfl:=Vj h3;replace h:=Xg h;obtain⟨h,h9⟩:=h;replace h:=Xg h;obtain⟨h,h8⟩:=h;replace h:=Xg h;obtain⟨h,h7⟩:=h;replace h:=Xg h;obtain⟨h,h6⟩:=h;replace h:=Xg h;obtain⟨h4,h5⟩:=h;obtain rfl:=YE h4;obtain rfl:=XS h5;exact⟨p,x,xs,p2,rfl,h6,h7,h8,h9⟩
theorem ZnK{f:B2}{a:IE}(h:chkE G (.b2 f a) sc N e=true):∃p p' x p2 p2',e=.Call (.Name (f.out:Str) p) [.Call (.Name (f.inn:Str) p') [x] [] p2'] [] p2/\G.bl.contains (f.out:Str)=true/\G.bl.contains (f.inn:Str)=true/\glB sc (f.out:Str)=true/\glB sc (f.inn:Str)=true/\chkE G a sc N x=true:=by
 replace h:=Xk h;obtain⟨⟨f',l,ks,p2⟩,h1,h⟩:=h;obtain rfl:=Vi h1;replace h:=Xk h;obtain⟨g,h2,h⟩:=h;obtain⟨p,rfl⟩:=Zc h2;replace h:=Xk h;obtain⟨y,h3,h⟩:=h;obtain rfl:=UE h3;replace h:=Xk h;obtain⟨⟨f'',l',ks',p2'⟩,h4,h⟩:=h;obtain rfl:=Vi h4;replace h:=Xk h;obtain⟨k,h5,h⟩:=h;obtain⟨p',rfl⟩:=Zc h5;replace h:=Xk h;obtain⟨x,h6,h⟩:=h;obtain rfl:=UE h6;simp only[YA]at h;obtain⟨⟨⟨⟨⟨⟨⟨⟨a1,a2⟩,a3⟩,a4⟩,a5⟩,a6⟩,a7⟩,a8⟩,a9⟩:=h;obtain rfl:=YE a1;obtain rfl:=YE a2;obtain rfl:=XS a3;obtain rfl:=XS a4;exact⟨p,p',x,p2,p2',rfl,a5,a6,a7,a8,a9⟩
theorem ZnG{m:MT}{o:IE}{es:IEs}(h:chkE G (.mt m o es) sc N e=true):∃ob ap args cp,e=.Call (.Attribute ob (m.name:Str) ap) args [] cp/\(ap.endLine==cp.line)=true/\chkE G o sc N ob=true/\chkEs G es sc N args=true/\args.length<20:=by
 replace h:=Xk h;obtain⟨⟨f',args,ks,cp⟩,h1,h⟩:=h;obtain rfl:=Vi h1;replace h:=Xk h;obtain⟨⟨ob,nm,ap⟩,h2,h⟩:=h;obtain rfl:=Zj0 h2;replace h:=Xg h;obtain⟨h,h8⟩:=h;replace h:=Xg h;obtain⟨h,h7⟩:=h;replace h:=Xg h;obtain⟨h,h6⟩:=h;replace h:=Xg h;obtain⟨h,h5⟩:=h;replace h:=Xg h;obtain⟨h3,h4⟩:=h;obtain rfl:=YE h3;obtain rfl:=XS h4;exact⟨ob,ap,args,cp,rfl,h5,h6,h7,XS h8⟩
theorem IR{own:List Str}{fr:List Nat}{src:ISr}{tg:ITg}{test:IO}{elt:IE}(h:chkE G (.comp own fr src tg test elt) sc N e=true):∃x t it ifs scope p,e=.ListComp x [⟨t,it,ifs,0⟩] scope p/\Wt sc scope N own fr=true/\At it=true/\
  (nC own fr N).Nodup/\chkSr G src sc N it=true/\Zd (WC scope sc) (nC own fr N) own.length false tg t=true/\chkI G test (WC scope sc) (nC own fr N) ifs=true/\chkE G elt (WC scope sc) (nC own fr N) x=true:=by
 replace h:=Xk h;obtain⟨⟨x,gs,scope⟩,h1,h⟩:=h;obtain⟨p,rfl⟩:=ZlM h1;replace h:=Xk h;obtain⟨⟨t,it,ifs,k⟩,h2,h⟩:=h;obtain rfl:=UE h2;replace h:=Xg h;obtain⟨h,h9⟩:=h;replace h:=Xg h;obtain⟨h,h8⟩:=h;replace h:=Xg h;obtain⟨h,h7⟩:=h;replace h:=Xg h;obtain⟨h,h6⟩:=h;replace h:=Xg h;obtain⟨h,h5⟩:=h;replace h:=Xg h;obtain⟨h,h4⟩:=h;replace h:=Xg h;obtain⟨h2,h3⟩:=h;obtain rfl:=XS h9;exact⟨x,t,it,ifs,scope,p,rfl,h2,h3,XS h4,h5,h6,h7,h8⟩
theorem Zfa{ks:List (Option Expr)}{vs:List Expr}(h:Aw G .nil sc N ks vs=true):ks=[]/\vs=[]:=by
 replace h:=Xg h;exact⟨YE h.1,YE h.2⟩
theorem ZdA{k v:IE}{ps:IPs}{ks:List (Option Expr)}{vs:List Expr}(h:Aw G (.cons k v ps) sc N ks vs=true):∃x ks' y vs',ks=some x::ks'/\vs=y::vs'/\chkE G k sc N x=true/\chkE G v sc N y=true/\Aw G ps sc N ks' vs'=true:=by
 replace h:=Xk h;obtain⟨⟨o,ks'⟩,h1,h⟩:=h;replace h:=Xk h;obtain⟨⟨y,vs'⟩,h2,h⟩:=h;replace h:=Xk h;obtain⟨x,h3,h⟩:=h;replace h:=Xg h;obtain⟨h,h6⟩:=h;replace h:=Xg h;obtain⟨h4,h5⟩:=h;dsimp only at h3;subst h3;exact⟨x,ks',y,vs',Vj h1,Vj h2,h4,h5,h6⟩
theorem IT{l:List Expr}(h:chkEs G .nil sc N l=true):l=[]:=by
 exact YE h
theorem IU{a:IE}{es:IEs}{l:List Expr}(h:chkEs G (.cons a es) sc N l=true):∃x xs,l=x::xs/\chkE G a sc N x=true/\chkEs G es sc N xs=true:=by
 replace h:=Xk h;obtain⟨⟨x,xs⟩,h1,h⟩:=h;exact⟨x,xs,Vj h1,Xg h⟩
theorem Zfc{o:Option Expr}(h:chkO G .none sc N o=true):o=none:=by
 cases o with
 |none=>rfl
 |some _=>cases h
theorem Zfb{a:IE}{o:Option Expr}(h:chkO G (.some a) sc N o=true):∃x,o=some x/\chkE G a sc N x=true:=by
 exact Xk h
theorem Zfe{l:List Expr}(h:chkI G .none sc N l=true):l=[]:=by
 exact YE h
theorem Zfd{a:IE}{l:List Expr}(h:chkI G (.some a) sc N l=true):∃x,l=[x]/\tok a=true/\chkE G a sc N x=true:=by
 replace h:=Xk h;obtain⟨x,h1,h⟩:=h;exact⟨x,UE h1,Xg h⟩
theorem Zld{a:IE}(h:chkSr G (.rng a) sc N e=true):∃p x p2,e=.Call (.Name ("range":Str) p) [x] [] p2/\G.bl.contains ("range":Str)=true/\glB sc ("range":Str)=true/\chkE G a sc N x=true:=by
 replace h:=Xk h;obtain⟨⟨f',l,ks,p2⟩,h1,h⟩:=h;obtain rfl:=Vi h1;replace h:=Xk h;obtain⟨g,h2,h⟩:=h;obtain⟨p,rfl⟩:=Zc h2;replace h:=Xk h;obtain⟨x,h3,h⟩:=h;obtain rfl:=UE h3;replace h:=Xg h;obtain⟨h,h8⟩:=h;replace h:=Xg h;obtain⟨h,h7⟩:=h;replace h:=Xg h;obtain⟨h,h6⟩:=h;replace h:=Xg h;obtain⟨h4,h5⟩:=h;obtain rfl:=YE h4;obtain rfl:=XS h5;exact⟨p,x,p2,rfl,h6,h7,h8⟩
theorem Ziz{a b:IE}(h:chkSr G (.rng2 a b) sc N e=true):∃p x y p2,e=.Call (.Name ("range":Str) p) [x,y] [] p2/\G.bl.contains ("range":Str)=true/\glB sc ("range":Str)=true/\chkE G a sc N x=true/\chkE G b sc N y=true:=by
 replace h:=Xk h;obtain⟨⟨f',l,ks,p2⟩,h1,h⟩:=h;obtain rfl:=Vi h1;replace h:=Xk h;obtain⟨g,h2,h⟩:=h;obtain⟨p,rfl⟩:=Zc h2;replace h:=Xk h;obtain⟨⟨x,y⟩,h3,h⟩:=h;obtain rfl:=DL h3;replace h:=Xg h;obtain⟨h,h9⟩:=h;replace h:=Xg h;obtain⟨h,h8⟩:=h;replace h:=Xg h;obtain⟨h,h7⟩:=h;replace h:=Xg h;obtain⟨h,h6⟩:=h;replace h:=Xg h;obtain⟨h4,h5⟩:=h;obtain rfl:=YE h4;obtain rfl:=XS h5;exact⟨p,x,y,p2,rfl,h6,h7,h8,h9⟩
theorem Ziy{a b c:IE}(h:chkSr G (.rng3 a b c) sc N e=true):∃p x y z p2,e=.Call (.Name ("range":Str) p) [x,y,z] [] p2/\G.bl.contains ("range":Str)=true/\glB sc ("range":Str)=true/\chkE G a sc N x=true/\chkE G b sc N y=true/\chkE G c sc N z=true:=by
 replace h:=Xk h;obtain⟨⟨f',l,ks,p2⟩,h1,h⟩:=h;obtain rfl:=Vi h1;replace h:=Xk h;obtain⟨g,h2,h⟩:=h;obtain⟨p,rfl⟩:=Zc h2;replace h:=Xk h;obtain⟨⟨x,y,z⟩,h3,h⟩:=h;obtain rfl:=ZjZ h3;replace h:=Xg h;obtain⟨h,h10⟩:=h;replace h:=Xg h;obtain⟨h,h9⟩:=h;replace h:=Xg h;obtain⟨h,h8⟩:=h;replace h:=Xg h;obtain⟨h,h7⟩:=h;replace h:=Xg h;obtain⟨h,h6⟩:=h;replace h:=Xg h;obtain⟨h4,h5⟩:=h;obtain rfl:=YE h4;obtain rfl:=XS h5;exact⟨p,x,y,z,p2,rfl,h6,h7,h8,h9,h10⟩
theorem DO{lim:Nat}{all:Bool}{i:Nat}(h:Zd sc N lim all (.nm i) e=true):∃x p,e=.Name x p/\N[i]?=some x/\i<lim/\(if all then locB sc x else decide (sc.names.lookup x=some .local))=true:=by
 replace h:=Xk h;obtain⟨x,h1,h⟩:=h;obtain⟨p,rfl⟩:=Zc h1;replace h:=Xg h;obtain⟨h,h4⟩:=h;replace h:=Xg h;obtain⟨h2,h3⟩:=h;exact⟨x,p,rfl,XS h2,XS h3,h4⟩
theorem DP{lim:Nat}{all:Bool}{ts:ITgs}(h:Zd sc N lim all (.tup ts) e=true):∃es k p,e=.Tuple es k p/\chkTgs sc N lim all ts es=true:=by
 replace h:=Xk h;obtain⟨es,h1,h⟩:=h;obtain⟨k,p,rfl⟩:=DK h1;exact⟨es,k,p,rfl,h⟩
theorem Zdz{lim:Nat}{all:Bool}{l:List Expr}(h:chkTgs sc N lim all .nil l=true):l=[]:=by
 exact YE h
theorem IV{lim:Nat}{all:Bool}{t:ITg}{ts:ITgs}{l:List Expr}(h:chkTgs sc N lim all (.cons t ts) l=true):∃x xs,l=x::xs/\Zd sc N lim all t x=true/\chkTgs sc N lim all ts xs=true:=by
 replace h:=Xk h;obtain⟨⟨x,xs⟩,h1,h⟩:=h;exact⟨x,xs,Vj h1,Xg h⟩
end
noncomputable def liT(K:X6)(t:TEm):TT:=λσ H Q=>∃σm M,RS K H σm σ/\RH K M H/\t σm M (λm M'=>∃b,m=.bl b/\∀H',Kp H H'->RH K M' H'->Q b H')
noncomputable def liO(K:X6)(t:Sm->MH->(Option Int->MH->Prop)->Prop):TO:=λσ H Q=>∃σm M,RS K H σm σ/\RH K M H/\t σm M (λo M'=>∀H',Kp H H'->RH K M' H'->Q o H')
section
variable{K:X6}
theorem DQ{t:TEm}(m:MonE t){σ:St}{H:Hp}{Q:Bool->Hp->Prop}(h:liT K t σ H Q):liE K t σ H λx H'=>∃c,x=.bl c/\Q c H':=by
 obtain⟨σm,M,rs,rh,h⟩:=h;refine⟨σm,M,rs,rh,m (λx M1 ⟨b,e,h1⟩=>?_) h⟩;subst e;intro v H1 k1 r1 rh1;cases r1;exact⟨b,rfl,h1 H1 k1 rh1⟩
theorem IW{t:TEm}(m:MonE t){σm:Sm}{M:MH}{H H1:Hp}{Q:Bool->Hp->Prop}(k:Kp H H1)(h:t σm M λx M'=>∃b,x=.bl b/\∀H',Kp H H'->RH K M' H'->Q b H'):
  t σm M λx M'=>∃b,x=.bl b/\∀H',Kp H1 H'->RH K M' H'->Q b H':=
 m (λx M' ⟨b,e,q⟩=>⟨b,e,λH' k'=>q H' (k.trans k')⟩) h
theorem Zl4{te:TEm}{t:TAm}(me:MonE te)(mt:MonA t){σ:St}{H:Hp}{Q:List V->Hp->Prop}(h:liA K (λσ M Q=>te σ M λv M1=>t σ M1 λvs M2=>Q (v::vs) M2) σ H Q):Af (liE K te) (liA K t) σ H Q:=by
 obtain⟨σm,M,rs,rh,h⟩:=h;refine⟨σm,M,rs,rh,me (λx M1 h1=>?_) h⟩;intro v H1 k1 r1 rh1;refine⟨σm,M1,rs.mono k1,rh1,mt (λms M2 h2=>?_) h1⟩;intro vs H2 k2 r2 rh2;exact h2 (v::vs) H2 (k1.trans k2) (.cons (r1.mono k2) r2) rh2
end
noncomputable def DR(X:Cx)(H:Hp):Src->It->Prop
 |.tup xs,J=>(∃a vs,H a=some (.tup vs)/\RMs X.K H xs vs/\J=Itt X.K a)\/∃a vs,FrL X.K H a vs/\RMs X.K H xs vs/\J=Itl X.K a
 |.lst a _,J=>J=Itl X.K a
 |.rng lo n,J=>J=Itr lo n
 |.rst lo st n,J=>J=Itrs lo st n
 |.dic a o _,J=>J=Itd a o/\∀o' u',X.H₀ a≠some (.frz o' u')
 |.str x,J=>J=Its x
theorem C1{X:Cx}{H0 H:Hp}{M:MH}{S:Src}{J:It}(s:DR X H0 S J)(rh:RH X.K M H)(ok:S.okT M):∃H',Thw X H H'/\Kp H H'/\RH X.K (S.thaw M) H':=by
 cases S with
 |tup xs=>exact⟨H,.inl rfl,Kp.refl _,rh⟩
 |lst a xs=>exact⟨H,.inl rfl,Kp.refl _,rh⟩
 |rng a xs=>exact⟨H,.inl rfl,Kp.refl _,rh⟩
 |rst a b xs=>exact⟨H,.inl rfl,Kp.refl _,rh⟩
 |str x=>exact⟨H,.inl rfl,Kp.refl _,rh⟩
 |dic a o kvs=>
  obtain⟨vs,e,r,nd⟩:=rh.fdic ok;have k:=Kp.upd e rfl (.dK vs);exact⟨_,.inr ⟨a,o,.dK vs,e,trivial,s.2,rfl⟩,k,rh.put k (o:=.dic kvs) ⟨r.mono k,nd⟩⟩
theorem IX{M:MH}{S:Src}(ok:S.ok M):S.okT M:=by
 cases S<;>first|trivial|exact ok
theorem IY{K:X6}{H:Hp}{k:Key}{v:V}:∀{m:List (Key×MV)} {vs:List (Key×V)} {i:Nat},RKs K H m vs->vs[i]?=some (k,v)->∃x,m[i]?=some (k,x)/\RM K H x v
 |_,_,_,.nil,h=>by cases h
 |_,_,0,.cons r _,h=>by cases h;exact⟨_,rfl,r⟩
 |_,_,i+1,.cons _ t,h=>IY (i:=i) t h
theorem IZ{X:Cx}{H0 H:Hp}{M:MH}{S:Src}{J:It}(s:DR X H0 S J)(k:Kp H0 H)(rh:RH X.K M H)(ok:S.ok M):
  (∀i,i<S.len->J.go i H/\∀x H',J.yld i H x H'->H'=H/\∃m,S.items[i]?=some m/\RM X.K H m x)/\∀i,S.len≤i->J.stop i H:=by
 have seqL:∀{a:Addr} {xs:List MV} {vs:List V},SqL X.K H a vs->RMs X.K H xs vs->(∀i,i<xs.length->(Itl X.K a).go i H/\∀x H',(Itl X.K a).yld i H x H'->H'=H/\∃m,xs[i]?=some m/\RM X.K H m x)/\∀i,xs.length≤i->(Itl X.K a).stop i H:=by
  intro a xs vs hs r;refine⟨λi hi=>⟨⟨vs,_,hs,X8 (by rw[<- r.length];exact hi)⟩,λx H' y=>?_⟩,λi hi=>⟨vs,hs,by rw[<- r.length];exact hi⟩⟩
  exact⟨y.1,r.get' (y.2 vs hs)⟩
 cases S with
 |tup xs=>
  rcases s with⟨a,vs,h,r,rfl⟩|⟨a,vs,h,r,rfl⟩
  ·have h:=SqT.of (K:=X.K) (k _ _ h rfl);have r:=r.mono k;refine⟨λi hi=>⟨⟨vs,_,h,X8 (by rw[<- r.length];exact hi)⟩,λx H' y=>?_⟩,λi hi=>⟨vs,h,by rw[<- r.length];exact hi⟩⟩
   exact⟨y.1,r.get' (y.2 vs h)⟩
  ·refine seqL (FrL.sq ?_) (r.mono k);rcases h with⟨o,h⟩|h
   ·exact .inl ⟨o,k _ _ h rfl⟩
   ·exact .inr h
 |lst a xs=>
  cases s;obtain⟨vs,h,r⟩:=rh.lst ok;exact seqL (SqL.of h) r
 |rng lo n=>
  cases s;refine⟨λi hi=>⟨hi,λx H' y=>⟨y.1,.int (lo+(i:Nat)),?_,?_⟩⟩,λi hi=>hi⟩
  ·show((XM n).map _)[i]?=_;rw[Xo,X8 (by simpa using(show i<n from hi))]
   simp
  ·rw[y.2];exact .int _
 |rst lo st n=>
  cases s;refine⟨λi hi=>⟨hi,λx H' y=>⟨y.1,.int (lo+(i:Nat)*st),?_,?_⟩⟩,λi hi=>hi⟩
  ·show((XM n).map _)[i]?=_;rw[Xo,X8 (by simpa using(show i<n from hi))]
   simp
  ·rw[y.2];exact .int _
 |str z=>
  cases s;refine⟨λi hi=>⟨hi,λx H' y=>?_⟩,λi hi=>hi⟩;obtain⟨e,c,hc,rfl⟩:=y;refine⟨e,.str ⟨#[c]⟩,?_,.str _⟩;show(z.cps.toList.map _)[i]?=_;rw[Xo,FW,hc]
  rfl
 |dic a o kvs=>
  obtain⟨rfl,_⟩:=s;obtain⟨vs,e,r,nd⟩:=rh.fdic ok;refine⟨λi hi=>⟨⟨vs,e,by rw[<- r.length];exact hi⟩,λx H' y=>?_⟩,λi hi=>⟨vs,e,by rw[<- r.length];exact hi⟩⟩
  obtain⟨rfl,y⟩:=y;obtain⟨kk,v,hv,rfl⟩:=y vs e;obtain⟨x,hx,_⟩:=IY r hv;refine⟨rfl,kM kk,?_,?_⟩
  ·show(kvs.map λp=>kM p.1)[i]?=_;rw[Xo,hx];rfl
  ·cases kk with
   |inl i=>exact .int i
   |inr x=>exact .str x
noncomputable def liSr(X:Cx)(t:TSm):TI:=λσ H R=>∃σm M,RS X.K H σm σ/\RH X.K M H/\t σm M (λS M'=>∀J H',Kp H H'->RH X.K M' H'->DR X H' S J->R J H')
section
variable{X:Cx}{tg:Expr}
theorem PI.weak{e:Expr}{t t':TI}(h:PI X tg e t)(i:∀σ H R,t' σ H R->t σ H R):PI X tg e t':=λpins s σ H R I q=>h pins s σ H R I (i _ _ _ q)
end
mutual
noncomputable def gOf(K:X6):ITg->TG
 |.nm i=>BN i
 |.tup ts=>gTup K (ITgs.len ts) (gsOf K ts)
noncomputable def gsOf(K:X6):ITgs->TGs
 |.nil=>gNil
 |.cons t ts=>GG (gOf K t) (gsOf K ts)
noncomputable def ITgs.len:ITgs->Nat
 |.nil=>0
 |.cons _ ts=>ts.len+1
end
mutual
theorem sTg{X:Cx}{lim:Nat}{all:Bool}(hc:X.calm=true)(hN:X.N.Nodup)(hf:all=true->∀x,X.fn x=true):∀(t:ITg) {e:Expr},Zd X.env.scope X.N lim all t e=true->PG X e (gOf X.K t)
 |.nm i,e,h=>by
  obtain⟨x,p,rfl,h1,h2,h3⟩:=DO h;cases all with
  |true=>
   rw[if_pos rfl]at h3;exact GF hN h1 (C0 h3) (.inl (hf rfl _))
  |false=>
   rw[if_neg XF,decide_eq_true_eq]at h3;exact GF hN h1 (.inl h3) (.inr h3)
 |.tup ts,e,h=>by
  obtain⟨es,k,p,rfl,h⟩:=DP h;obtain⟨h1,h2,h3⟩:=sTgs hc hN hf ts h;exact Qj hc h1 h2 h3
theorem sTgs{X:Cx}{lim:Nat}{all:Bool}(hc:X.calm=true)(hN:X.N.Nodup)(hf:all=true->∀x,X.fn x=true):∀(t:ITgs) {es:List Expr},chkTgs X.env.scope X.N lim all t es=true->PGs X es (gsOf X.K t)/\(Uo es X.env).length=t.len/\(Uo es X.env).findIdx? (·.1)=none
 |.nil,l,h=>by
  cases Zdz h;rw[gsOf,ITgs.len];exact⟨Qh,rfl,rfl⟩
 |.cons t ts,l,h=>by
  obtain⟨e,es,rfl,ha,hb⟩:=IV h;obtain⟨h1,h2,h3⟩:=sTgs hc hN hf ts hb;have h4:=sTg hc hN hf t ha;have e1:Uo (e::es) X.env=(false,assign e X.env)::Uo es X.env:=by
   cases t with
   |nm i=>obtain⟨x,p,rfl,_⟩:=DO ha;rfl
   |tup ts=>obtain⟨x,k,p,rfl,_⟩:=DP ha;rfl
  rw[gsOf,ITgs.len];refine⟨Qi h4 h1 (by rw[e1];rfl),by rw[e1,YG,h2],?_⟩
  rw[e1,List.findIdx?_cons,if_neg XF,h3]
  rfl
end
theorem RMs.len_tgs{K:X6}:∀{ts:ITgs} {xs:List MV} {σ:Sm} {P:Sm->Prop},wTgs ts xs σ P->xs.length=ts.len
 |.nil,xs,σ,P,h=>by rw[h.1,ITgs.len];rfl
 |.cons t ts,xs,σ,P,h=>by
  obtain⟨v,r,rfl,h⟩:=h;rw[YG,ITgs.len];have aux:∀(t:ITg) {v:MV} {σ:Sm},wTg t v σ (λσ'=>wTgs ts r σ' P)->∃σ',wTgs ts r σ' P:=by
   have both:(∀(t:ITg) {v:MV} {σ:Sm} {P:Sm->Prop},wTg t v σ P->∃σ',P σ')/\(∀(t:ITgs) {v:List MV} {σ:Sm} {P:Sm->Prop},wTgs t v σ P->∃σ',P σ'):=by
    refine⟨λt=>?_,λt=>?_⟩
    ·exact ITg.rec (motive_1:=λt=>∀{v:MV} {σ:Sm} {P:Sm->Prop},wTg t v σ P->∃σ',P σ') (motive_2:=λt=>∀{v:List MV} {σ:Sm} {P:Sm->Prop},wTgs t v σ P->∃σ',P σ')
      (λi v σ P h=>⟨_,h⟩) (λts ih v σ P h=>by obtain⟨xs,_,h⟩:=h;exact ih h)
      (fun{v σ P} h=>⟨_,h.2⟩) (λt ts i1 i2 v σ P h=>by obtain⟨x,r,_,h⟩:=h;obtain⟨σ',h⟩:=i1 h;exact i2 h) t
    ·exact ITgs.rec (motive_1:=λt=>∀{v:MV} {σ:Sm} {P:Sm->Prop},wTg t v σ P->∃σ',P σ') (motive_2:=λt=>∀{v:List MV} {σ:Sm} {P:Sm->Prop},wTgs t v σ P->∃σ',P σ')
      (λi v σ P h=>⟨_,h⟩) (λts ih v σ P h=>by obtain⟨xs,_,h⟩:=h;exact ih h)
      (fun{v σ P} h=>⟨_,h.2⟩) (λt ts i1 i2 v σ P h=>by obtain⟨x,r,_,h⟩:=h;obtain⟨σ',h⟩:=i1 h;exact i2 h) t
   exact λt {v σ} h=>both.1 t h
  obtain⟨σ',h'⟩:=aux t h;rw[RMs.len_tgs (K:=K) h']
mutual
theorem C2{K:X6}{H:Hp}{lim:Nat}{sc:Scope}{N:List Str}{all:Bool}{Ψ:St->Prop}(hΨ:∀σ i v,i<lim->Ψ σ->Ψ (σ.set i (some v))):∀(t:ITg) {e:Expr} {mv:MV} {v:V} {σm:Sm} {σ:St} {P:Sm->Prop} {Q:St->Hp->Prop},Zd sc N lim all t e=true->
  RM K H mv v->RS K H σm σ->Ψ σ->wTg t mv σm P->(∀σm' σ',P σm'->RS K H σm' σ'->Ψ σ'->Q σ' H)->gOf K t v σ H Q
 |.nm i,e,mv,v,σm,σ,P,Q,hc,r,rs,ps,h,hq=>by
  obtain⟨x,p,rfl,_,hl,_⟩:=DO hc;exact hq _ _ h (rs.set r i) (hΨ _ _ _ hl ps)
 |.tup ts,e,mv,v,σm,σ,P,Q,hc,r,rs,ps,h,hq=>by
  obtain⟨es,k,p,rfl,hc⟩:=DP hc;obtain⟨xs,rfl,h⟩:=h;cases r with
  |tup h1 q1=>
   exact⟨_,_,rfl,SqT.of h1,by rw[<- q1.length];exact RMs.len_tgs (K:=K) h,tgs_ok hΨ ts hc q1 rs ps h hq⟩
theorem tgs_ok{K:X6}{H:Hp}{lim:Nat}{sc:Scope}{N:List Str}{all:Bool}{Ψ:St->Prop}(hΨ:∀σ i v,i<lim->Ψ σ->Ψ (σ.set i (some v))):∀(t:ITgs) {es:List Expr} {mvs:List MV} {vs:List V} {σm:Sm} {σ:St} {P:Sm->Prop} {Q:St->Hp->Prop},chkTgs sc N lim all t es=true->
  RMs K H mvs vs->RS K H σm σ->Ψ σ->wTgs t mvs σm P->(∀σm' σ',P σm'->RS K H σm' σ'->Ψ σ'->Q σ' H)->gsOf K t vs σ H Q
 |.nil,es,mvs,vs,σm,σ,P,Q,hc,r,rs,ps,h,hq=>by
  obtain⟨rfl,h⟩:=h;cases r;rw[gsOf];exact⟨rfl,hq _ _ h rs ps⟩
 |.cons t ts,es,mvs,vs,σm,σ,P,Q,hc,r,rs,ps,h,hq=>by
  obtain⟨e,es,rfl,hc1,hc2⟩:=IV hc;obtain⟨x,rr,rfl,h⟩:=h;cases r with
  |cons r1 r2=>
   rw[gsOf];exact⟨_,_,rfl,C2 hΨ t hc1 r1 rs ps h λσm' σ' h' rs' ps'=>tgs_ok hΨ ts hc2 r2 rs' ps' h' hq⟩
end
theorem Zol{K:X6}{H:Hp}{own:List Str}{fr:List Nat}{σm:Sm}{σ:St}(rs:RS K H σm σ):RS K H (sCm own fr σm) (sC own fr σ):=by
 refine⟨by simp[sCm,sC],λi m e=>?_⟩
 unfold sCm at e;unfold sC;by_cases hi:i<own.length
 ·rw[Uc (by simpa using hi),Xo]at e
  cases q:own[i]? with
  |none=>rw[q]at e;cases e
  |some z=>rw[q]at e;cases e
 ·rw[UL (by simpa using hi),X7,Xo]at e
  rw[UL (by simpa using hi),X7,Xo]
  cases q:fr[i - own.length]? with
  |none=>rw[q]at e;cases e
  |some j=>
   rw[q]at e;have e':σm.getD j none=some m:=Yg e;have e2:σm[j]?=some (some m):=by
    rw[Ym]at e';cases q2:σm[j]? with
    |none=>rw[q2]at e';cases e'
    |some o=>rw[q2]at e';rw[show o=some m from e']
   obtain⟨v,hv,r⟩:=rs.2 j m e2;refine⟨v,?_,r⟩;show some (σ.getD j none)=_;rw[Ym,hv]
   rfl
theorem Ziw{own:List Str}{fr:List Nat}{σ σ':St}{i:Nat}{v:V}(hi:i<own.length)(k:Keep (sC own fr σ) σ'):Keep (sC own fr σ) (σ'.set i (some v)):=by
 refine⟨by rw[A6];exact k.1,λj w h=>?_⟩
 by_cases hij:i=j
 ·subst hij;exfalso;unfold sC at h;rw[Uc (by simpa using hi),Xo]at h
  cases q:own[i]? with
  |none=>rw[q]at h;cases h
  |some z=>rw[q]at h;cases h
 ·rw[A3,if_neg hij];exact k.2 j w h
theorem Zi8{y:Expr}(h:Ar y=true):Hf y:=by
 intro o i;cases y<;>first|rfl|cases h
theorem DS{it:Expr}(h:At it=true)(env:Env):∀x,B8 it env x=pure x:=by
 intro x;cases it<;>first|rfl|cases h
theorem Cok.comp{X:Cx}{G:GI}{Φ:List (Str×SpM)}(c:Cok X G Φ){scope:Scope}{own:List Str}{fr:List Nat}{C:Addr}{fp:List Addr}{s₃:X1}{H₃:Hp}(hk:scope.kind=.function)(nd:(nC own fr X.N).Nodup):Cok (cxC X scope own fr C fp s₃ H₃) G Φ:=
 ⟨c.room,c.calm,rfl,(by show(if scope.kind.isAnnotationScope then Gs else scope.kind)=.function;rw[hk];rfl),nd,c.bls,c.gls,c.fnn,c.mon,c.fns,c.mts,c.mks,c.cls⟩
noncomputable def ttOf(K:X6)(Φ:List (Str×SpM)):IO->TT
 |.none=>tAll
 |.some e=>liT K (wE Φ e)
theorem J0{X:Cx}{Φ:List (Str×SpM)}(hΦ:∀(j:Nat) f sp,Φ[j]?=some (f,sp)->MonW sp) {own:List Str} {fr:List Nat} {src:ISr} {tg:ITg} {test:IO} {elt:IE} {sc:Scope} {N:List Str} {t:Expr}
  (h5:Zd sc N own.length false tg t=true) {σ:St} {H:Hp} {Q:VK} (hw:liE X.K (wE Φ (.comp own fr src tg test elt)) σ H Q):DN own fr (liSr X (wSr Φ src)) (gOf X.K tg) (ttOf X.K Φ test) (liE X.K (wE Φ elt)) σ H (λv H'=>∃H2,Thw X H' H2/\Q v H2):=by
 obtain⟨σm,M,rs,rh,hw⟩:=hw;refine⟨σm,M,rs,rh,mon_sr hΦ src (λS M1 ⟨hz,q⟩=>?_) hw⟩;intro J H1 k1 rh1 sit D hD;obtain⟨Jm,j0,j1,j2,j3⟩:=q D (rh1.free hD);refine⟨λi m ys H2=>m=S.len - i/\i≤S.len/\Kp H1 H2/\∃mys M2,RH X.K M2 H2/\Jm i mys M2,⟨S.len,rfl,YN _,Kp.new hD _,[],_,rh1.put (Kp.new hD (.lst [])) (o:=.lst []) RMs.nil,j0⟩,?_⟩;rintro i m ys H2 ⟨rfl,hi,k2,mys,M2,rh2,hj⟩;obtain⟨d1,d2,d3⟩:=j1 i mys M2 hj;obtain⟨goes,stops⟩:=IZ sit k2 rh2 d3;by_cases hlt:i<S.len
 ·obtain⟨go,yld⟩:=goes i hlt;refine .inr ⟨go,λys' H'=>Kp H1 H'/\∃mys M',RH X.K M' H'/\Jm (i+1) mys M',λys' H' ⟨a,mys',M',b,c⟩=>⟨S.len - (i+1),by lia,rfl,hlt,a,mys',M',b,c⟩,λx H3 y=>?_⟩
  obtain⟨e3,m,hm,rm⟩:=yld x H3 y;subst e3;have ht:=j2 i m mys M2 hm hj;refine C2 (Ψ:=Keep (sC own fr σ)) (lim:=own.length) (λσ' i v hi k=>Ziw hi k) tg h5 rm (Zol (rs.mono (k1.trans k2))) ⟨rfl,λ_ _ h=>h⟩ ht λσm' σ' hP rs' keep=>⟨keep,?_⟩;have eltp:∀{M4:MH} {H5:Hp},Kp H3 H5->RH X.K M4 H5->(wE Φ elt σm' M4 λy M5=>M5 D=some (.lst mys)/\Jm (i+1) (mys++[y]) (updM M5 D (.lst (mys++[y]))))->
    liE X.K (wE Φ elt) σ' H5 λy H6=>∃zs,H6 D=some (.lst zs)/\zs.length<sizeLine/\Kp H1 (upd H6 D (.lst (zs++[y])))/\∃mys M',RH X.K M' (upd H6 D (.lst (zs++[y])))/\Jm (i+1) mys M':=fun{M4 H5} k5 rh5 q=>by
   refine⟨σm',M4,rs'.mono k5,rh5,Xc hΦ elt (λy M5 ⟨hd,hj'⟩=>?_) q⟩;intro v H6 k6 r6 rh6;obtain⟨zs,e,rz⟩:=rh6.lst hd;have ku:=Kp.upd e rfl (.lst (zs++[v]));exact⟨zs,e,by rw[<- rz.length];lia,k2.trans (k5.trans (k6.trans ku)),_,_,rh6.put ku (o:=.lst (mys++[y])) ((rz.append (.cons r6 .nil)).mono ku),hj'⟩
  cases test with
  |none=>
   rw[wI]at hP;rw[if_pos rfl]at hP;rw[ttOf];refine RY ?_;dsimp only;rw[if_pos rfl];exact eltp (Kp.refl _) rh2 hP
  |some e=>
   refine⟨σm',M2,rs',rh2,Xc hΦ e (λv M4 ⟨b,eb,q⟩=>⟨b,eb,λH5 k5 rh5=>YR (λq=>eltp k5 rh5 q) (λq=>⟨k2.trans k5,_,_,rh5,q⟩) q⟩) hP⟩
 ·refine .inl ⟨stops i (by lia),?_⟩
  have e:i=S.len:=by lia
  subst e;obtain⟨H',th,k3,rh3⟩:=C1 sit rh2 (IX d3);exact⟨H',th,j3 mys M2 hj _ _ (k1.trans (k2.trans k3)) (.ref D) rh3⟩
theorem J1{K:X6}{Φ:List (Str×SpM)}(hΦ:∀(j:Nat) f sp,Φ[j]?=some (f,sp)->MonW sp) {op op':Yw} {a b d:IE} {σ:St} {H:Hp} {Q:VK} (hw:liE K (wE Φ (.chn op op' a b d)) σ H Q):
  Dh (li2 K (wCmp op)) (li2 K (wCmp op')) (liE K (wE Φ a)) (liE K (wE Φ b)) (liE K (wE Φ d)) σ H Q:=by
 obtain⟨σm,M,rs,rh,hw⟩:=hw;rw[IF]at hw;refine⟨σm,M,rs,rh,Xc hΦ a (λx M1 q1=>?_) hw⟩;intro v H1 k1 r1 rh1;refine⟨σm,M1,rs.mono k1,rh1,Xc hΦ b (λy M2 q2=>?_) q1⟩;intro u H2 k2 r2 rh2;refine⟨x,y,M2,r1.mono k2,r2,rh2,Wy op (λz M3 ⟨k,e,q3⟩=>?_) q2⟩;subst e;intro z H3 k3 r3 rh3;cases r3;refine⟨k,rfl,YR (λq=>?_) (λq=>?_) q3⟩
 ·refine⟨σm,M3,rs.mono (k1.trans (k2.trans k3)),rh3,Xc hΦ d (λw M4 q4=>?_) q⟩;intro w' H4 k4 r4 rh4;exact⟨y,w,M4,r2.mono (k3.trans k4),r4,rh4,Wy op' (λm M' hq=>hq.on (k1.trans (k2.trans (k3.trans k4)))) q4⟩
 ·exact q _ _ (k1.trans (k2.trans k3)) (.bl _) rh3
noncomputable def trOf(K:X6)(Φ:List (Str×SpM)):IPs->List (TE×TE)
 |.nil=>[]
 |.cons k v r=>(liE K (wE Φ k),liE K (wE Φ v))::trOf K Φ r
noncomputable def aob:IE->Bool
 |.and ..=>true
 |.or ..=>true
 |_=>false
structure Snd (X:Cx) (Φ:List (Str×SpM)) (ie:IE) (e:Expr):Prop where
 pe:PE X e (liE X.K (wE Φ ie))
 pt:tok ie=true->PT X e (liT X.K (wE Φ ie))
 pw:tok ie=true->aob ie=true->PW X e (liT X.K (wE Φ ie))
theorem Snd.plain{X:Cx}{G:GI}{Φ:List (Str×SpM)}{ie:IE}{e:Expr}(c:Cok X G Φ)(pe:PE X e (liE X.K (wE Φ ie)))(he:∀whole,isTrue e X.env whole=(do let v<- whole;standAt e.pos;holding [v] (truthy v)))(na:aob ie=false):Snd X Φ ie e:=
 ⟨pe,λ_=>(Q2 pe he).weak λσ H Q h=>DQ (t:=wE Φ ie) (Xc c.mon ie) h,λ_ h=>by rw[na]at h;cases h⟩
mutual
theorem sE{G:GI}{Φ:List (Str×SpM)}:∀(ie:IE) {X:Cx} {e:Expr},Cok X G Φ->chkE G ie X.env.scope X.N e=true->Snd X Φ ie e
 |.var i,X,e,c,h=>by
  obtain⟨x,p,rfl,h1,h2,h3,h4⟩:=Zl9 h;refine .plain c ?_ (λ_=>rfl) rfl;refine(GC h1 (Zm2 h2) h3 h4).weak λσ H Q hw=>?_;obtain⟨σm,M,rs,rh,hw⟩:=hw;rw[ID]at hw;obtain⟨v,e,q⟩:=hw;obtain⟨u,hu,r⟩:=rs.2 i v e;exact⟨u,hu,q _ _ (Kp.refl _) r rh⟩
 |.int i,X,e,c,h=>by
  obtain⟨k,p,rfl⟩:=Zli h;refine .plain c ?_ (λ_=>rfl) rfl;refine pe_int.weak λσ H Q hw=>?_;obtain⟨σm,M,rs,rh,hw⟩:=hw;exact hw _ _ (Kp.refl _) (.int i) rh
 |.str i,X,e,c,h=>by
  obtain⟨k,p,rfl⟩:=Zlb h;refine .plain c ?_ (λ_=>rfl) rfl;refine pe_str.weak λσ H Q hw=>?_;obtain⟨σm,M,rs,rh,hw⟩:=hw;exact hw _ _ (Kp.refl _) (.str i) rh
 |.bl i,X,e,c,h=>by
  obtain⟨k,p,rfl⟩:=ZnI h;refine .plain c ?_ (λ_=>rfl) rfl;refine pe_bl.weak λσ H Q hw=>?_;obtain⟨σm,M,rs,rh,hw⟩:=hw;exact hw _ _ (Kp.refl _) (.bl i) rh
 |.non,X,e,c,h=>by
  obtain⟨k,p,rfl⟩:=Zlf h;refine .plain c ?_ (λ_=>rfl) rfl;refine pe_non.weak λσ H Q hw=>?_;obtain⟨σm,M,rs,rh,hw⟩:=hw;exact hw _ _ (Kp.refl _) .non rh
 |.glb x i,X,e,c,h=>by
  obtain⟨p,rfl,h1,h2⟩:=Zlk h;obtain⟨g1,g2,g3⟩:=UT h2;obtain⟨tk,hm⟩:=c.gls x i h1;refine .plain c ?_ (λ_=>rfl) rfl;refine(Q0 (v:=.int i) g1 hm ⟨tk,rfl⟩ g2).weak λσ H Q hw=>?_;obtain⟨σm,M,rs,rh,hw⟩:=hw;exact hw _ _ (Kp.refl _) (.int i) rh
 |.ty t,X,e,c,h=>by
  obtain⟨p,rfl,h0,h1,h2⟩:=ZnD h;obtain⟨g1,g2,g3⟩:=UT h2;refine .plain c ?_ (λ_=>rfl) rfl;refine(Q1 (v:=.ty t.name) g1 (c.bls _ h1) (ZlG h0) rfl g3 g2).weak λσ H Q hw=>?_;obtain⟨σm,M,rs,rh,hw⟩:=hw;exact hw _ _ (Kp.refl _) (.ty t) rh
 |.bin op a b,X,e,c,h=>by
  obtain⟨l,r,p,rfl,h1,h2⟩:=Zln h;refine .plain c ?_ (λ_=>rfl) rfl;refine(Qw (Tx op) (sE a c h1).pe (sE b c h2).pe).weak λσ H Q hw=>?_;have:wE Φ (.bin op a b)=λσ M Q=>wE Φ a σ M λx M1=>wE Φ b σ M1 λy M2=>wBin op x y M2 Q:=rfl;rw[this]at hw;exact Dz (ta:=wE Φ a) (tb:=wE Φ b) (w:=wBin op) (Xc c.mon a) (Xc c.mon b) (HY op) hw
 |.neg a,X,e,c,h=>by
  obtain⟨l,p,rfl,h1⟩:=Zlg h;refine .plain c ?_ (λ_=>rfl) rfl;refine(Qx QD (sE a c h1).pe).weak λσ H Q hw=>?_;obtain⟨σm,M,rs,rh,hw⟩:=hw;refine⟨σm,M,rs,rh,Xc c.mon a (λx M1 ⟨i,e,q⟩=>?_) hw⟩;subst e;intro v H1 k1 r1 rh1;cases r1;exact⟨i,rfl,q _ _ k1 (.int _) rh1⟩
 |.not a,X,e,c,h=>by
  obtain⟨l,p,rfl,h1⟩:=Zle h;have ih:=sE a c h1;refine⟨(Q8 ih.pe).weak λσ H Q hw=>?_,λht=>(Q3 (ih.pt ht)).weak λσ H Q hw=>?_,λ_ z=>by cases z⟩
  ·obtain⟨σm,M,rs,rh,hw⟩:=hw;rw[DF]at hw;refine⟨σm,M,rs,rh,Xc c.mon a (λx M1 ⟨i,e,q⟩=>?_) hw⟩;subst e;intro v H1 k1 r1 rh1;cases r1;exact⟨i,rfl,q _ _ k1 (.bl _) rh1⟩
  ·obtain⟨σm,M,rs,rh,hw⟩:=hw;rw[DF]at hw;refine⟨σm,M,rs,rh,Xc c.mon a (λx M1 ⟨i,e,b,e2,q⟩=>⟨i,e,λH' k rh'=>?_⟩) hw⟩;cases e2;exact q H' k rh'
 |.cmp op a b,X,e,c,h=>by
  obtain⟨l,r,p,rfl,h1,h2,h3⟩:=Zll h;have rd:∀σ H Q,liE X.K (wE Φ (.cmp op a b)) σ H Q->tOp (li2 X.K (wCmp op)) (liE X.K (wE Φ a)) (liE X.K (wE Φ b)) σ H Q:=λσ H Q hw=>by
   have:wE Φ (.cmp op a b)=λσ M Q=>wE Φ a σ M λx M1=>wE Φ b σ M1 λy M2=>wCmp op x y M2 Q:=rfl;rw[this]at hw;exact Dz (ta:=wE Φ a) (tb:=wE Φ b) (w:=wCmp op) (Xc c.mon a) (Xc c.mon b) (Wy op) hw
  refine⟨(QN (Wz c.room op) (sE a c h1).pe (sE b c h2).pe h3).weak rd,λ_=>(QO (Wz c.room op) (sE a c h1).pe (sE b c h2).pe h3).weak λσ H Q hw=>?_,λ_ z=>by cases z⟩
  exact rd σ H _ (DQ (t:=wE Φ (.cmp op a b)) (Xc c.mon _) hw)
 |.chn op op' a b d,X,e,c,h=>by
  obtain⟨l,m,r,p,rfl,h1,h2,h3,h4⟩:=Zlm h;refine⟨(QP (Wz c.room op) (Wz c.room op') (sE a c h1).pe (sE b c h2).pe (sE d c h3).pe h4).weak λσ H Q hw=>J1 c.mon hw,
   λ_=>(QQ (Wz c.room op) (Wz c.room op') (sE a c h1).pe (sE b c h2).pe (sE d c h3).pe h4).weak λσ H Q hw=>?_,λ_ z=>by cases z⟩
  exact J1 c.mon (DQ (t:=wE Φ (.chn op op' a b d)) (Xc c.mon _) hw)
 |.and a b,X,e,c,h=>by
  obtain⟨l,r,rest,p,rfl,h1,h2⟩:=Zlo h;have ih:=sE a c h1;have hb:PE X (.BoolOp .And (r::rest) p) (liE X.K (wE Φ b)):=by
   rcases h2 with⟨rfl,h2⟩|h2
   ·exact GE (sE b c h2).pe
   ·exact(sE b c h2).pe
  have hw':tok (.and a b)=true->PW X (.BoolOp .And (l::r::rest) p) (liT X.K (wE Φ (.and a b))):=λht=>by
   have ht:(tok a&&tok b)=true:=ht;rw[YA]at ht;have hb2:PW X (.BoolOp .And (r::rest) p) (liT X.K (wE Φ b)):=by
    rcases h2 with⟨rfl,h2⟩|h2
    ·exact pw_and1 ((sE b c h2).pt ht.2)
    ·refine(sE b c h2).pw ht.2 ?_;cases b<;>first|rfl|exact absurd h2 XF
   refine(pw_and (ih.pt ht.1) hb2).weak λσ H Q hw=>?_;obtain⟨σm,M,rs,rh,hw⟩:=hw;rw[DG]at hw;refine⟨σm,M,rs,rh,Xc c.mon a (λx M1 ⟨k,e,q⟩=>⟨k,e,λH1 k1 rh1=>?_⟩) hw⟩;refine YR (λq=>⟨σm,M1,rs.mono k1,rh1,IW (t:=wE Φ b) (Xc c.mon b) k1 q⟩) (λq=>let⟨b,e,q⟩:=q;MV.noConfusion e λeb=>eb▸q H1 k1 rh1) q
  refine⟨(Q6 ih.pe hb).weak λσ H Q hw=>?_,λht=>(hw' ht).pt,λht _=>hw' ht⟩;obtain⟨σm,M,rs,rh,hw⟩:=hw;rw[DG]at hw;refine⟨σm,M,rs,rh,Xc c.mon a (λx M1 ⟨k,e,q⟩=>?_) hw⟩;subst e;intro v H1 k1 r1 rh1;cases r1;refine⟨k,rfl,YR (λq=>⟨σm,M1,rs.mono k1,rh1,Xc c.mon b (λm M' hq=>hq.on k1) q⟩) (λq=>q _ _ k1 (.bl _) rh1) q⟩
 |.or a b,X,e,c,h=>by
  obtain⟨l,r,rest,p,rfl,h1,h2⟩:=ZnF h;have ih:=sE a c h1;have hb:PE X (.BoolOp .Or (r::rest) p) (liE X.K (wE Φ b)):=by
   rcases h2 with⟨rfl,h2⟩|h2
   ·exact GE (sE b c h2).pe
   ·exact(sE b c h2).pe
  have hw':tok (.or a b)=true->PW X (.BoolOp .Or (l::r::rest) p) (liT X.K (wE Φ (.or a b))):=λht=>by
   have ht:(tok a&&tok b)=true:=ht;rw[YA]at ht;have hb2:PW X (.BoolOp .Or (r::rest) p) (liT X.K (wE Φ b)):=by
    rcases h2 with⟨rfl,h2⟩|h2
    ·exact pw_or1 ((sE b c h2).pt ht.2)
    ·refine(sE b c h2).pw ht.2 ?_;cases b<;>first|rfl|exact absurd h2 XF
   refine(pw_or (ih.pt ht.1) hb2).weak λσ H Q hw=>?_;obtain⟨σm,M,rs,rh,hw⟩:=hw;rw[x_or]at hw;refine⟨σm,M,rs,rh,Xc c.mon a (λx M1 ⟨k,e,q⟩=>⟨k,e,λH1 k1 rh1=>?_⟩) hw⟩;refine YR (λq=>let⟨b,e,q⟩:=q;MV.noConfusion e λeb=>eb▸q H1 k1 rh1) (λq=>⟨σm,M1,rs.mono k1,rh1,IW (t:=wE Φ b) (Xc c.mon b) k1 q⟩) q
  refine⟨(Q7 ih.pe hb).weak λσ H Q hw=>?_,λht=>(hw' ht).pt,λht _=>hw' ht⟩;obtain⟨σm,M,rs,rh,hw⟩:=hw;rw[x_or]at hw;refine⟨σm,M,rs,rh,Xc c.mon a (λx M1 ⟨k,e,q⟩=>?_) hw⟩;subst e;intro v H1 k1 r1 rh1;cases r1;refine⟨k,rfl,YR (λq=>q _ _ k1 (.bl _) rh1) (λq=>⟨σm,M1,rs.mono k1,rh1,Xc c.mon b (λm M' hq=>hq.on k1) q⟩) q⟩
 |.ife d a b,X,e,c,h=>by
  obtain⟨t,x,y,p,rfl,h0,h1,h2,h3⟩:=Zlj h;refine⟨(Q9 ((sE d c h1).pt h0) (sE a c h2).pe (sE b c h3).pe).weak λσ H Q hw=>?_,λz=>(by cases z),λz _=>(by cases z)⟩
  obtain⟨σm,M,rs,rh,hw⟩:=hw;rw[IG]at hw;refine⟨σm,M,rs,rh,Xc c.mon d (λx M1 ⟨k,e,q⟩=>⟨k,e,λH1 k1 rh1=>?_⟩) hw⟩;exact YR (λq=>⟨σm,M1,rs.mono k1,rh1,Xc c.mon a (λm M' hq=>hq.on k1) q⟩) (λq=>⟨σm,M1,rs.mono k1,rh1,Xc c.mon b (λm M' hq=>hq.on k1) q⟩) q
 |.tup es,X,e,c,h=>by
  obtain⟨xs,k,p,rfl,h1⟩:=Zla h;refine .plain c ?_ (λ_=>rfl) rfl;refine(QX (sA es c h1)).weak λσ H Q hw=>?_;obtain⟨σm,M,rs,rh,hw⟩:=hw;refine⟨σm,M,rs,rh,mon_es c.mon es (λms M1 ⟨hz,q⟩=>?_) hw⟩;intro vs H1 k1 r1 rh1;refine⟨by rw[<- r1.length];exact hz,λp hp=>?_⟩
  have k2:=Kp.new hp (.tup vs);exact q _ _ (k1.trans k2) (.tup Uj (r1.mono k2)) (rh1.kept hp _)
 |.lst es,X,e,c,h=>by
  obtain⟨xs,p,rfl,h1⟩:=Zlh h;refine .plain c ?_ (λ_=>rfl) rfl;refine(QY (sA es c h1)).weak λσ H Q hw=>?_;obtain⟨σm,M,rs,rh,hw⟩:=hw;refine⟨σm,M,rs,rh,mon_es c.mon es (λms M1 ⟨hz,q⟩=>?_) hw⟩;intro vs H1 k1 r1 rh1;refine⟨by rw[<- r1.length];exact hz,λp hp=>?_⟩
  have k2:=Kp.new hp (.lst vs);exact q p (rh1.free hp) _ _ (k1.trans k2) (.ref p) (rh1.put k2 (r1.mono k2))
 |.dic,X,e,c,h=>absurd h XF
 |.ix a b,X,e,c,h=>by
  obtain⟨l,r,p,rfl,h1,h2,h3⟩:=ZnH h;refine .plain c ?_ (λ_=>rfl) rfl;refine(Rm (TB (by have:=c.room;lia)) (sE a c h1).pe (sE b c h2).pe (Zi8 h3)).weak λσ H Q hw=>?_
  have:wE Φ (.ix a b)=λσ M Q=>wE Φ a σ M λx M1=>wE Φ b σ M1 λy M2=>wIx x y M2 Q:=rfl;rw[this]at hw;exact Dz (ta:=wE Φ a) (tb:=wE Φ b) (w:=wIx) (Xc c.mon a) (Xc c.mon b) Im hw
 |.sl a lo hi,X,e,c,h=>by
  obtain⟨x,l,u,p,p2,rfl,h1,h2,h3⟩:=ZnE h;refine .plain c ?_ (λ_=>rfl) rfl;refine(Rh TC (sE a c h1).pe (sO lo c h2) (sO hi c h3)).weak λσ H Q hw=>?_;obtain⟨σm,M,rs,rh,hw⟩:=hw;refine⟨σm,M,rs,rh,Xc c.mon a (λx M1 q1=>?_) hw⟩;intro v H1 k1 r1 rh1;refine⟨σm,M1,rs.mono k1,rh1,mon_o c.mon lo (λl M2 q2=>?_) q1⟩;intro H2 k2 rh2;refine⟨σm,M2,rs.mono (k1.trans k2),rh2,mon_o c.mon hi (λu M3 q3=>?_) q2⟩;intro H3 k3 rh3;exact⟨x,M3,r1.mono (k2.trans k3),rh3,Ip (λm M' hq=>hq.on (k1.trans (k2.trans k3))) q3⟩
 |.call j a es,X,e,c,h=>by
  obtain⟨f,p,x,xs,p2,rfl,h1,h2,h3,h4⟩:=ZiA h;obtain⟨g1,g2,g3⟩:=UT h2;obtain⟨sp,hj⟩:=c.fnn j f h1;obtain⟨k,fa,fd,ps,hr,F,hm,hk,hb⟩:=c.fns j f sp h1 hj;have ha:PA X (x::xs) (Af (liE X.K (wE Φ a)) (liA X.K (wEs Φ es))):=UQ (sE a c h3).pe (sA es c h4) (XZ h3);refine .plain c ?_ (λ_=>rfl) rfl;refine(R3 (E:=E0) F hr g1 hm hk hb .nil RQ ha g2 (XZ h3) (Ax (WE (pos:=p2) h4)).2).weak λσ H Q hw=>?_;obtain⟨σm,M,rs,rh,hw⟩:=hw;rw[IH]at hw;refine⟨σm,M,rs,rh,Xc c.mon a (λv M1 q1=>?_) hw⟩;intro u H1 k1 r1 rh1;refine⟨σm,M1,rs.mono k1,rh1,mon_es c.mon es (λvs M2 ⟨f',sp',e,q2⟩=>?_) q1⟩;rw[hj]at e;cases e;intro us H2 k2 r2 rh2;refine⟨v::vs,M2,?_,rh2,c.mon j f sp hj (λm M' hq=>hq.on (k1.trans k2)) q2⟩;rw[Wc];exact .cons (r1.mono k2) r2
 |.bi f a es,X,e,c,h=>by
  obtain⟨p,x,xs,p2,rfl,h1,h2,h3,h4⟩:=ZnJ h;obtain⟨g1,g2,g3⟩:=UT h2;have ha:PA X (x::xs) (Af (liE X.K (wE Φ a)) (liA X.K (wEs Φ es))):=UQ (sE a c h3).pe (sA es c h4) (XZ h3);have hv:=ZlH f;have hcall:=TH (X:=X) c.calm f;have hp:PE X (.Call (.Name (f.name:Str) p) (x::xs) [] p2) (tCB (liW X.K (wBi f)) (Af (liE X.K (wE Φ a)) (liA X.K (wEs Φ es)))):=by
   cases hf:f.val<;>rw[hf]at hv hcall<;>first
    |exact R6 hcall g1 (c.bls _ h1) hv ha g3 g2 (XZ h3) (Ax (WE (pos:=p2) h4)).2
    |exact R7 hcall g1 (c.bls _ h1) hv ha g3 g2 (XZ h3) (Ax (WE (pos:=p2) h4)).2
    |(cases f<;>cases hf)
  refine .plain c ?_ (λ_=>rfl) rfl;refine hp.weak λσ H Q hw=>?_;obtain⟨σm,M,rs,rh,hw⟩:=hw;refine⟨σm,M,rs,rh,Xc c.mon a (λv M1 q1=>?_) hw⟩;intro u H1 k1 r1 rh1;refine⟨σm,M1,rs.mono k1,rh1,mon_es c.mon es (λvs M2 q2=>?_) q1⟩;intro us H2 k2 r2 rh2;exact⟨v::vs,M2,.cons (r1.mono k2) r2,rh2,Ir f (λm M' hq=>hq.on (k1.trans k2)) q2⟩
 |.b2 f a,X,e,c,h=>by
  obtain⟨p,p',x,p2,p2',rfl,h1,h2,h3,h4,h5⟩:=ZnK h;obtain⟨g1,g2,g3⟩:=UT h3;obtain⟨k1,k2,k3⟩:=UT h4;have hv:YF (f.out:Str)=some f.outV:=by cases f<;>decide+kernel
  have hv':YF (f.inn:Str)=some (.type f.inn):=by cases f<;>decide+kernel
  have hp:PE X (.Call (.Name (f.out:Str) p) [.Call (.Name (f.inn:Str) p') [x] [] p2'] [] p2) (λσ H Q=>liE X.K (wE Φ a) σ H λv H1=>li1 X.K (wB2 f) v H1 Q):=by
   have hc:=TK (X:=X) c.calm f;cases f with
   |lrng=>exact Tj (p:=p) (p':=p') (pos:=p2) (pos':=p2') hc g1 (c.bls _ h1) hv k1 (c.bls _ h2) hv' (sE a c h5).pe g3 g2 k3 k2 (XZ h5)
   |ssrt=>exact Dx (p:=p) (p':=p') (pos:=p2) (pos':=p2') hc g1 (c.bls _ h1) hv k1 (c.bls _ h2) hv' (sE a c h5).pe g3 g2 k3 k2 (XZ h5)
   |lset=>exact Dx (p:=p) (p':=p') (pos:=p2) (pos':=p2') hc g1 (c.bls _ h1) hv k1 (c.bls _ h2) hv' (sE a c h5).pe g3 g2 k3 k2 (XZ h5)
   |tset=>exact Dx (p:=p) (p':=p') (pos:=p2) (pos':=p2') hc g1 (c.bls _ h1) hv k1 (c.bls _ h2) hv' (sE a c h5).pe g3 g2 k3 k2 (XZ h5)
  refine .plain c ?_ (λ_=>rfl) rfl;refine hp.weak λσ H Q hw=>?_;obtain⟨σm,M,rs,rh,hw⟩:=hw;refine⟨σm,M,rs,rh,Xc c.mon a (λv M1 q1=>?_) hw⟩;intro u H1 k1 r1 rh1;exact⟨v,M1,r1,rh1,Iv f (λm M' hq=>hq.on k1) q1⟩
 |.st3 a,X,e,c,h=>by
  obtain⟨x,k0,p0,p,p2,rfl,h1⟩:=Zlc h;refine .plain c ?_ (λ_=>rfl) rfl;refine(Tv (sE a c h1).pe pe_int).weak λσ H Q hw=>?_;obtain⟨σm,M,rs,rh,hw⟩:=hw;refine⟨σm,M,rs,rh,Xc c.mon a (λv M1 q1=>?_) hw⟩;intro u H1 k1 r1 rh1;obtain⟨b,xs,rfl,hb,q⟩:=q1;cases r1;obtain⟨vs,e,q1⟩:=rh1.lst hb;refine⟨_,vs,rfl,SqL.of e,λp hp=>?_⟩;have k:=Kp.new hp (.lst (st3 vs));exact q p (rh1.free hp) _ _ (k1.trans k) (.ref p) (rh1.put k ((TV q1).mono k))
 |.mxd a,X,e,c,h=>absurd h XF
 |.mt m o es,X,e,c,h=>by
  obtain⟨ob,ap,args,cp,rfl,h1,h2,h3,h4⟩:=ZnG h;have slot:PySem.Slot m.ty (m.name:Str) m.id/\typeOf (.builtin m.id)=pure (.type "method_descriptor"):=by
   cases m
   ·exact⟨PySem.F.slot_list_append,PySem.F.type_list_append⟩
   ·exact⟨PySem.F.slot_list_extend,PySem.F.type_list_extend⟩
   ·exact⟨PySem.F.slot_list_reverse,PySem.F.type_list_reverse⟩
   ·exact⟨PySem.F.slot_list_clear,PySem.F.type_list_clear⟩
   ·exact⟨Gb,Gc⟩
   ·exact⟨Gb,Gc⟩
   ·exact⟨PySem.F.slot_dict_clear,PySem.F.type_dict_clear⟩
   ·exact⟨Gd,Ge⟩
   ·exact⟨Gd,Ge⟩
   ·exact⟨Ga,PySem.F.type_str_join⟩
   ·exact⟨PySem.F.slot_list_remove,PySem.F.type_list_remove⟩
  have plain:PlainAttrs m.ty:=by
   cases m<;>first|exact PySem.F.plainAttrs_list|exact PySem.F.plainAttrs_dict|exact PySem.F.plainAttrs_str
  have hu1:X.A.units+1<cLine:=by have:=c.room;lia
  have tyL:∀{H1:Hp} {M1:MH} {mx:MV} {v:V},RH X.K M1 H1->RM X.K H1 mx v->mtOk m mx M1->tyV X.K m.ty v H1:=by
   intro H1 M1 mx v rh r hm;cases m
   case join=>
    obtain⟨z,rfl⟩:=hm;cases r;exact rfl
   case dclear|dget|dgetD=>
    obtain⟨a,kvs,rfl,hm⟩:=hm;cases r;obtain⟨vs,e,_⟩:=rh.dic hm;exact .inr (.inr (.inl ⟨rfl,.inl ⟨vs,e⟩⟩))
   all_goals
    obtain⟨a,xs,rfl,hm⟩:=hm;cases r;obtain⟨vs,e,_⟩:=rh.lst hm;exact .inl ⟨rfl,vs,SqL.of e⟩
  refine .plain c ?_ (λ_=>rfl) rfl;cases args with
  |nil=>
   refine(Ru plain slot.1 slot.2 (IA hu1 m) (sE o c h2).pe (IP h2) h1).weak λσ H Q hw=>?_;obtain⟨σm,M,rs,rh,hw⟩:=hw;refine⟨σm,M,rs,rh,Xc c.mon o (λv M1 ⟨q0,q1⟩=>?_) hw⟩;intro u H1 k1 r1 rh1;cases es with
   |cons _ _=>exact absurd h3 XF
   |nil=>
    exact⟨tyL rh1 r1 q0,v,[],M1,r1,.nil,rh1,DE (λm M' hq=>hq.on k1) q1⟩
  |cons x xs=>
   cases es with
   |nil=>cases IT h3
   |cons a es=>
    have h3':=h3;obtain⟨x',xs',e',h3⟩:=IU h3;cases e';have ha:=sA (.cons a es) c h3';have hall:=Ax (pos:=cp) (WE (env:=X.env) (pos:=cp) h3');refine(Rv plain slot.1 slot.2 (IA hu1 m) (sE o c h2).pe ha (IP h2) ?_ h1 (XZ h3.1) (Ax (WE (pos:=cp) h3.2)).2).weak λσ H Q hw=>?_
    ·rw[hall.1];simp only[Bool.true_and,YA,decide_eq_true_eq];refine⟨rfl,?_⟩;simp at h4 ⊢;lia
    obtain⟨σm,M,rs,rh,hw⟩:=hw;refine⟨σm,M,rs,rh,Xc c.mon o (λv M1 ⟨q0,q1⟩=>?_) hw⟩;intro u H1 k1 r1 rh1;refine⟨tyL rh1 r1 q0,σm,M1,rs.mono k1,rh1,mon_es c.mon (.cons a es) (λvs M2 q2=>?_) q1⟩;intro us H2 k2 r2 rh2;exact⟨v,vs,M2,r1.mono k2,r2,rh2,DE (λm M' hq=>hq.on (k1.trans k2)) q2⟩
 |.comp own fr src tg test elt,X,e,c,h=>by
  obtain⟨x,t,it,ifs,scope,p,rfl,h1,h2,h3,h4,h5,h6,h7⟩:=IR h;refine .plain c ?_ (λ_=>rfl) rfl;refine(Zif own fr (g:=gOf X.K tg) (te:=liE X.K (wE Φ elt)) (λe s h=>by rw[c.nox]at h;exact h) c.calm h1 (sSr src (tg:=t) c h4) (λC fp s₃ H₃=>sTg (X:=cxC X scope own fr C fp s₃ H₃) (lim:=own.length) (all:=false) c.calm h3 (λz=>by cases z) tg h5) (tt:=ttOf X.K Φ test) (λC fp s₃ H₃=>sI (X:=cxC X scope own fr C fp s₃ H₃) test (c.comp (Wu h1).kind h3) h6)
   (λC fp s₃ H₃=>(sE (X:=cxC X scope own fr C fp s₃ H₃) elt (c.comp (Wu h1).kind h3) h7).pe) (DS h2 _)).thaw.weak λσ H Q hw=>?_
  exact J0 c.mon h5 hw
 |.fld cn o f,X,e,c,h=>absurd h XF
 |.mcall j cn m o es,X,e,c,h=>absurd h XF
 |.make j cn a es,X,e,c,h=>absurd h XF
 |.disp ps,X,e,c,h=>absurd h XF
theorem sP{G:GI}{Φ:List (Str×SpM)}:∀(ps:IPs) {X:Cx} {pos:Pos} {ks:List (Option Expr)} {vs:List Expr},Cok X G Φ->Aw G ps X.env.scope X.N ks vs=true->PPs X pos ks vs (trOf X.K Φ ps)
 |.nil,X,pos,ks,vs,c,h=>by
  obtain⟨rfl,rfl⟩:=Zfa h;exact RG
 |.cons k v r,X,pos,ks,vs,c,h=>by
  obtain⟨x,ks',y,vs',rfl,rfl,h1,h2,h3⟩:=ZdA h;exact RI (sE k c h1).pe (sE v c h2).pe (sP r c h3)
theorem sA{G:GI}{Φ:List (Str×SpM)}:∀(ies:IEs) {X:Cx} {es:List Expr},Cok X G Φ->chkEs G ies X.env.scope X.N es=true->PA X es (liA X.K (wEs Φ ies))
 |.nil,X,es,c,h=>by
  cases es with
  |cons _ _=>cases IT h
  |nil=>
   refine pa_nil.weak λσ H Q hw=>?_;obtain⟨σm,M,rs,rh,hw⟩:=hw;exact hw _ _ (Kp.refl _) .nil rh
 |.cons a as,X,es,c,h=>by
  cases es with
  |nil=>cases h
  |cons x xs=>
   obtain⟨x',xs',e',h⟩:=IU h;cases e';refine(UQ (sE a c h.1).pe (sA as c h.2) (XZ h.1)).weak λσ H Q hw=>?_;have:wEs Φ (.cons a as)=λσ M Q=>wE Φ a σ M λv M1=>wEs Φ as σ M1 λvs M2=>Q (v::vs) M2:=rfl;rw[this]at hw;exact Zl4 (te:=wE Φ a) (t:=wEs Φ as) (Xc c.mon a) (mon_es c.mon as) hw
theorem sO{G:GI}{Φ:List (Str×SpM)}:∀(io:IO) {X:Cx} {e:Option Expr},Cok X G Φ->chkO G io X.env.scope X.N e=true->PO X e (liO X.K (wO Φ io))
 |.none,X,e,c,h=>by
  cases e with
  |some _=>cases Zfc h
  |none=>
   intro pins s σ H Q I hw;refine Rf pins s σ H Q I ?_;obtain⟨σm,M,rs,rh,hw⟩:=hw;exact hw _ (Kp.refl _) rh
 |.some a,X,e,c,h=>by
  cases e with
  |none=>exact absurd h XF
  |some x=>
   obtain⟨x',e',h⟩:=Zfb h;cases e';intro pins s σ H Q I hw;refine Rg (sE a c h).pe pins s σ H Q I ?_;obtain⟨σm,M,rs,rh,hw⟩:=hw;refine⟨σm,M,rs,rh,Xc c.mon a (λv M1 ⟨i,e,q⟩=>?_) hw⟩;subst e;intro u H1 k1 r1 rh1;cases r1;exact⟨i,rfl,q H1 k1 rh1⟩
theorem sI{G:GI}{Φ:List (Str×SpM)}:∀(io:IO) {X:Cx} {es:List Expr},Cok X G Φ->chkI G io X.env.scope X.N es=true->PTs X es (ttOf X.K Φ io)
 |.none,X,es,c,h=>by
  cases es with
  |cons _ _=>cases Zfe h
  |nil=>exact .inl ⟨rfl,rfl⟩
 |.some a,X,es,c,h=>by
  obtain⟨x,rfl,h1,h2⟩:=Zfd h;exact .inr ⟨x,rfl,(sE a c h2).pt h1⟩
theorem sSr{G:GI}{Φ:List (Str×SpM)}:∀(s:ISr) {X:Cx} {tg e:Expr},Cok X G Φ->chkSr G s X.env.scope X.N e=true->PI X tg e (liSr X (wSr Φ s))
 |.seq a,X,tg,e,c,h=>by
  refine(SZ (sE a c h).pe).weak λσ H R hw=>?_;obtain⟨σm,M,rs,rh,hw⟩:=hw;refine⟨σm,M,rs,rh,Xc c.mon a (λv M1 q=>?_) hw⟩;intro u H1 k1 r1 rh1;rcases q with⟨xs,e,q⟩|⟨b,xs,e,hb,q⟩|⟨b,kvs,e,hb,q⟩|⟨z,e,q⟩
  ·rcases e with e|e
   ·subst e;cases r1 with
    |tup h1 q1=>exact .inl ⟨_,rfl,.inr (.inl ⟨_,SqT.of h1,q _ _ k1 rh1 (.inl ⟨_,_,h1,q1,rfl⟩)⟩)⟩
   ·subst e;cases r1 with
    |frl h1 q1=>exact .inl ⟨_,rfl,.inl ⟨_,h1.sq,q _ _ k1 rh1 (.inr ⟨_,_,h1,q1,rfl⟩)⟩⟩
  ·subst e;cases r1;obtain⟨vs,e2,_⟩:=rh1.lst hb;exact .inl ⟨_,rfl,.inl ⟨_,SqL.of e2,q _ _ k1 rh1 rfl⟩⟩
  ·subst e;cases r1;obtain⟨vs,e2,r2,nd⟩:=rh1.dic hb;refine .inl ⟨_,rfl,.inr (.inr ⟨vs,e2,λo nf=>?_⟩)⟩;have k:=Kp.upd e2 rfl (.frz o (.dK vs));exact q o _ _ (k1.trans k) (rh1.put k (o:=.fdic o kvs) ⟨rfl,r2.mono k,nd⟩) ⟨rfl,nf⟩
  ·subst e;cases r1;exact .inr ⟨z,rfl,q _ _ k1 rh1 rfl⟩
 |.rng a,X,tg,e,c,h=>by
  obtain⟨p,x,p2,rfl,h2,h3,h4⟩:=Zld h;refine(Qs (UT h3).1 (c.bls _ h2) (UQ (sE a c h4).pe pa_nil (XZ h4)) (XZ h4)).weak λσ H R hw=>?_;obtain⟨σm,M,rs,rh,hw⟩:=hw;refine⟨σm,M,rs,rh,Xc c.mon a (λv M1 ⟨j,e,q1,q2,q⟩=>?_) hw⟩;subst e;intro u H1 k1 r1 rh1;cases r1;exact⟨j,rfl,q1,q2,q _ _ k1 rh1 rfl⟩
 |.rng2 a b,X,tg,e,c,h=>by
  obtain⟨p,x,y,p2,rfl,h2,h3,h4,h5⟩:=Ziz h;refine(Qt (UT h3).1 (c.bls _ h2) (UQ (sE a c h4).pe (UQ (sE b c h5).pe pa_nil (XZ h5)) (XZ h4)) (by rw[XZ h4,XZ h5];rfl) (XZ h5)).weak λσ H R hw=>?_
  obtain⟨σm,M,rs,rh,hw⟩:=hw;refine⟨σm,M,rs,rh,Xc c.mon a (λv M1 q1=>?_) hw⟩;intro u H1 k1 r1 rh1;refine⟨σm,M1,rs.mono k1,rh1,Xc c.mon b (λw M2 ⟨i,j,e1,e2,hb,q⟩=>?_) q1⟩;subst e1 e2;intro u2 H2 k2 r2 rh2;cases r1;cases r2;exact⟨i,j,rfl,hb,q _ _ (k1.trans k2) rh2 rfl⟩
 |.rng3 a b d,X,tg,e,c,h=>by
  obtain⟨p,x,y,z,p2,rfl,h2,h3,h4,h5,h6⟩:=Ziy h;refine(Tq (UT h3).1 (c.bls _ h2) (UQ (sE a c h4).pe (UQ (sE b c h5).pe (UQ (sE d c h6).pe pa_nil (XZ h6)) (XZ h5)) (XZ h4)) (by rw[XZ h4,XZ h5,XZ h6];rfl) (by rw[XZ h5,XZ h6];rfl)).weak λσ H R hw=>?_
  obtain⟨σm,M,rs,rh,hw⟩:=hw;refine⟨σm,M,rs,rh,Xc c.mon a (λv M1 q1=>?_) hw⟩;intro u H1 k1 r1 rh1;refine⟨σm,M1,rs.mono k1,rh1,Xc c.mon b (λw M2 q2=>?_) q1⟩;intro u2 H2 k2 r2 rh2;refine⟨σm,M2,rs.mono (k1.trans k2),rh2,Xc c.mon d (λw2 M3 ⟨i,j,e1,e2,e3,hb,q⟩=>?_) q2⟩;subst e1 e2 e3;intro u3 H3 k3 r3 rh3;cases r1;cases r2;cases r3;exact⟨i,j,rfl,hb,q _ _ (k1.trans (k2.trans k3)) rh3 rfl⟩
end
end L2
namespace L2
set_option genInjectivity false
open PySem PySem.Spec PyProof.Rows
mutual
inductive IS where
 |pass|brk|cnt|never
 |ret (e:IE)|retN
 |set (i:Nat) (e:IE)
 |asg (t:ITgs) (e:IE)
 |put (o i e:IE)
 |fset (c:Str) (o:IE) (f:Str) (e:IE)
 |expr (e:IE)
 |ite (c:IE) (a b:ISs)
 |for_ (t:ITg) (s:ISr) (b:ISs)
 |while_ (c:IE) (b:ISs)
inductive ISs where|nil|cons (s:IS) (r:ISs)
end
structure EndM where
 nx:Sm->MH->Prop
 rt:QM
 bk:Sm->MH->Prop:=λ_ _=>False
 ct:Sm->MH->Prop:=λ_ _=>False
mutual
noncomputable def wS(Φ:List (Str×SpM)):IS->EndM->Sm->MH->Prop
 |.pass,D,σ,M=>D.nx σ M
 |.brk,D,σ,M=>D.bk σ M
 |.cnt,D,σ,M=>D.ct σ M
 |.never,_,_,_=>False
 |.ret e,D,σ,M=>wE Φ e σ M D.rt
 |.retN,D,_,M=>D.rt .non M
 |.set i e,D,σ,M=>wE Φ e σ M λv M1=>D.nx (σ.set i (some v)) M1
 |.asg t e,D,σ,M=>wE Φ e σ M λv M1=>∃xs,v=.tup xs/\wTgs t xs σ λσ'=>D.nx σ' M1
 |.put o i e,D,σ,M=>wE Φ e σ M λv M1=>wE Φ o σ M1 λx M2=>wE Φ i σ M2 λy M3=>wPut x y v M3 λM4=>D.nx σ M4
 |.fset c o f e,D,σ,M=>wE Φ e σ M λv M1=>wE Φ o σ M1 λx M2=>∃a fs,x=.ref a/\M2 a=some (.ins c fs)/\fs.length<1000/\D.nx σ (updM M2 a (.ins c (putM fs f v)))
 |.expr e,D,σ,M=>wE Φ e σ M λ_ M1=>D.nx σ M1
 |.ite c a b,D,σ,M=>wE Φ c σ M λx M1=>onB x λk=>(if k=true then wSs Φ a D σ M1 else wSs Φ b D σ M1)
 |.for_ t s b,D,σ,M=>wSr Φ s σ M λS M1=>∃J:Nat->Sm->MH->Prop,J 0 σ M1/\(∀i σ M,J i σ M->S.ok M)/\
   (∀i x σ M,S.items[i]?=some x->J i σ M->wTg t x σ λσ2=>wSs Φ b {nx:=J (i+1),rt:=λv M=>S.okT M/\D.rt v (S.thaw M),bk:=λσ M=>S.okT M/\D.nx σ (S.thaw M),ct:=J (i+1)} σ2 M)/\∀σ M,J S.len σ M->D.nx σ (S.thaw M)
 |.while_ c b,D,σ,M=>∃J:Nat->Sm->MH->Prop,(∃m,J m σ M)/\∀m σ M,J m σ M->wE Φ c σ M λx M1=>∃k,x=.bl k/\
   (if k=true then wSs Φ b {nx:=λσ' M'=>∃m',m'<m/\J m' σ' M',rt:=D.rt,bk:=D.nx,ct:=λσ' M'=>∃m',m'<m/\J m' σ' M'} σ M1 else D.nx σ M1)
noncomputable def wSs(Φ:List (Str×SpM)):ISs->EndM->Sm->MH->Prop
 |.nil,D,σ,M=>D.nx σ M
 |.cons s r,D,σ,M=>wS Φ s {nx:=λσ M=>wSs Φ r D σ M,rt:=D.rt,bk:=D.bk,ct:=D.ct} σ M
end
theorem J3{Φ:List (Str×SpM)}{c:IE}{a b:ISs}{D:EndM}{σ:Sm}{M:MH}:wS Φ (.ite c a b) D σ M=wE Φ c σ M λx M1=>∃k,x=.bl k/\(if k=true then wSs Φ a D σ M1 else wSs Φ b D σ M1):=by rw[wS];simp only[WB]
structure EndM.Le (D D':EndM):Prop where
 nx:∀σ M,D.nx σ M->D'.nx σ M
 rt:∀v M,D.rt v M->D'.rt v M
 bk:∀σ M,D.bk σ M->D'.bk σ M
 ct:∀σ M,D.ct σ M->D'.ct σ M
mutual
theorem J4{Φ:List (Str×SpM)}(hΦ:∀(j:Nat) f sp,Φ[j]?=some (f,sp)->MonW sp):∀(s:IS) {D D':EndM} {σ:Sm} {M:MH},D.Le D'->wS Φ s D σ M->wS Φ s D' σ M
 |.pass,D,D',σ,M,l,h=>by exact l.nx _ _ h
 |.brk,D,D',σ,M,l,h=>by exact l.bk _ _ h
 |.cnt,D,D',σ,M,l,h=>by exact l.ct _ _ h
 |.never,D,D',σ,M,l,h=>h.elim
 |.ret e,D,D',σ,M,l,h=>by exact Xc hΦ e l.rt h
 |.retN,D,D',σ,M,l,h=>by exact l.rt _ _ h
 |.set i e,D,D',σ,M,l,h=>by exact Xc hΦ e (λv M1 h1=>l.nx _ _ h1) h
 |.asg t e,D,D',σ,M,l,h=>by exact Xc hΦ e (λv M1 ⟨xs,e,h1⟩=>⟨xs,e,mon_tgs t (λσ' h2=>l.nx _ _ h2) h1⟩) h
 |.put o i e,D,D',σ,M,l,h=>by
  exact Xc hΦ e (λv M1 h1=>Xc hΦ o (λx M2 h2=>Xc hΦ i (λy M3 h3=>IB (λM4 h4=>l.nx _ _ h4) h3) h2) h1) h
 |.fset c o f e,D,D',σ,M,l,h=>by
  exact Xc hΦ e (λv M1 h1=>Xc hΦ o (λx M2 ⟨a,fs,e1,e2,e3,h2⟩=>⟨a,fs,e1,e2,e3,l.nx _ _ h2⟩) h1) h
 |.expr e,D,D',σ,M,l,h=>by exact Xc hΦ e (λv M1 h1=>l.nx _ _ h1) h
 |.ite c a b,D,D',σ,M,l,h=>by
  rw[J3]at h ⊢;exact Xc hΦ c (λx M1 ⟨k,e,h1⟩=>⟨k,e,YR (mon_ss hΦ a l) (mon_ss hΦ b l) h1⟩) h
 |.for_ t s b,D,D',σ,M,l,h=>by
  refine mon_sr hΦ s (λS M1 ⟨J,j0,j1,j2,j3⟩=>⟨J,j0,j1,λi x σ M hx hj=>?_,λσ M hj=>l.nx _ _ (j3 σ M hj)⟩) h;exact Vh t (λσ2 h2=>by refine mon_ss hΦ b ?_ h2;exact⟨λ_ _ z=>z,λ_ _ z=>⟨z.1,l.rt _ _ z.2⟩,λ_ _ z=>⟨z.1,l.nx _ _ z.2⟩,λ_ _ z=>z⟩) (j2 i x σ M hx hj)
 |.while_ c b,D,D',σ,M,l,h=>by
  obtain⟨J,j0,j1⟩:=h;refine⟨J,j0,λm σ M hj=>Xc hΦ c (λx M1 ⟨k,e,h1⟩=>⟨k,e,YR (λz=>by refine mon_ss hΦ b ?_ z;exact⟨λ_ _ z=>z,l.rt,l.nx,λ_ _ z=>z⟩) (l.nx _ _) h1⟩) (j1 m σ M hj)⟩
theorem mon_ss{Φ:List (Str×SpM)}(hΦ:∀(j:Nat) f sp,Φ[j]?=some (f,sp)->MonW sp):∀(s:ISs) {D D':EndM} {σ:Sm} {M:MH},D.Le D'->wSs Φ s D σ M->wSs Φ s D' σ M
 |.nil,D,D',σ,M,l,h=>by exact l.nx _ _ h
 |.cons s r,D,D',σ,M,l,h=>by
  refine J4 hΦ s ?_ h;exact⟨λσ M h1=>mon_ss hΦ r l h1,l.rt,l.bk,l.ct⟩
end
noncomputable def J5:Expr->Bool
 |.Tuple ..=>false|_=>true
noncomputable def Ay:Expr->Bool
 |.ListComp ..=>false|.SetComp ..=>false|.DictComp ..=>false|_=>true
noncomputable def J7:Stmt->Option (Option Expr)|.Return v _=>some v|_=>none
noncomputable def C3:Stmt->Option (List Expr×Expr)|.Assign ts v _=>some (ts,v)|_=>none
noncomputable def asEx:Stmt->Option Expr|.Expr v _=>some v|_=>none
noncomputable def J8:Stmt->Option (Expr×List Stmt×List Stmt)|.If t x y _=>some (t,x,y)|_=>none
noncomputable def J9:Stmt->Option (Expr×Expr×List Stmt×List Stmt)|.For t i b r _=>some (t,i,b,r)|_=>none
noncomputable def asWh:Stmt->Option (Expr×List Stmt×List Stmt)|.While t b r _=>some (t,b,r)|_=>none
section
variable{e:Stmt}
theorem ZiT{x:Option Expr}(h:J7 e=some x):∃p,e=.Return x p:=by cases e<;>cases h;exact⟨_,rfl⟩
theorem DT{x:List Expr×Expr}(h:C3 e=some x):∃p,e=.Assign x.1 x.2 p:=by cases e<;>cases h;exact⟨_,rfl⟩
theorem ZlO{x:Expr}(h:asEx e=some x):∃p,e=.Expr x p:=by cases e<;>cases h;exact⟨_,rfl⟩
theorem ZiV{x:Expr×List Stmt×List Stmt}(h:J8 e=some x):∃p,e=.If x.1 x.2.1 x.2.2 p:=by cases e<;>cases h;exact⟨_,rfl⟩
theorem ZiW{x:Expr×Expr×List Stmt×List Stmt}(h:J9 e=some x):∃p,e=.For x.1 x.2.1 x.2.2.1 x.2.2.2 p:=by cases e<;>cases h;exact⟨_,rfl⟩
theorem ZlK{x:Expr×List Stmt×List Stmt}(h:asWh e=some x):∃p,e=.While x.1 x.2.1 x.2.2 p:=by cases e<;>cases h;exact⟨_,rfl⟩
end
mutual
noncomputable def chkS(G:GI)(sc:Scope)(N:List Str):IS->Stmt->Bool
 |.pass,_=>false
 |.brk,_=>false
 |.cnt,_=>false
 |.never,_=>true
 |.ret e,s=>(J7 s).any λo=>o.any λx=>chkE G e sc N x
 |.retN,_=>false
 |.set i e,s=>(C3 s).any λq=>(the1 q.1).any λt=>(YY t).any λx=>decide (N[i]?=some x)&&locB sc x&&chkE G e sc N q.2
 |.asg t e,s=>(C3 s).any λq=>(the1 q.1).any λg=>(Au g).any λes=>chkTgs sc N N.length true t es&&chkE G e sc N q.2&&J5 q.2
 |.put o i e,s=>(C3 s).any λq=>(the1 q.1).any λt=>(WD t).any λa=>chkE G o sc N a.1&&chkE G i sc N a.2&&Ar a.2&&chkE G e sc N q.2
 |.fset c o f e,_=>false
 |.expr e,s=>(asEx s).any λv=>chkE G e sc N v&&Ay v
 |.ite c a b,s=>(J8 s).any λq=>tok c&&chkE G c sc N q.1&&chkSs G sc N a q.2.1&&chkSs G sc N b q.2.2
 |.for_ t r b,s=>(J9 s).any λq=>Zd sc N N.length true t q.1&&chkSr G r sc N q.2.1&&At q.2.1&&chkSs G sc N b q.2.2.1&&non0 q.2.2.2
 |.while_ c b,s=>(asWh s).any λq=>tok c&&chkE G c sc N q.1&&chkSs G sc N b q.2.1&&non0 q.2.2
noncomputable def chkSs(G:GI)(sc:Scope)(N:List Str):ISs->List Stmt->Bool
 |.nil,l=>non0 l
 |.cons s r,l=>(hd1 l).any λq=>chkS G sc N s q.1&&chkSs G sc N r q.2
end
noncomputable def liD(K:X6)(H:Hp)(D:Ends):EndM where
 nx:=λσm M=>∀σ H',Kp H H'->RS K H' σm σ->RH K M H'->D.nx σ H'
 rt:=Dn K H D.rt
 bk:=λσm M=>∀σ H',Kp H H'->RS K H' σm σ->RH K M H'->D.bk σ H'
 ct:=λσm M=>∀σ H',Kp H H'->RS K H' σm σ->RH K M H'->D.ct σ H'
theorem liD.on{K:X6}{H H1:Hp}{D:Ends}(k:Kp H H1):(liD K H D).Le (liD K H1 D):=
 ⟨λ_ _ h σ H' k'=>h σ H' (k.trans k'),λ_ _ h=>h.on k,λ_ _ h σ H' k'=>h σ H' (k.trans k'),λ_ _ h σ H' k'=>h σ H' (k.trans k')⟩
noncomputable def liSt(K:X6)(t:EndM->Sm->MH->Prop):TS:=λD σ H=>∃σm M,RS K H σm σ/\RH K M H/\t (liD K H D) σm M
theorem ZfP{e:Expr}{x:Str}{p:Pos}{ln:Nat}{env:Env}(h:Ay e=true):V4 e (some (.Name x p)) ln env=pure false:=by cases e<;>first|rfl|cases h
theorem ZfO{e:Expr}{ln:Nat}{env:Env}(h:Ay e=true):V4 e none ln env=pure false:=by cases e<;>first|rfl|cases h
theorem ZhQ{e:Expr}{es:List Expr}{k:Nat}{p:Pos}{ln:Nat}{env:Env}:V4 e (some (.Tuple es k p)) ln env=pure false:=by cases e<;>rfl
theorem ZhR{e a b:Expr}{p:Pos}{ln:Nat}{env:Env}:V4 e (some (.Subscript a b p)) ln env=pure false:=by cases e<;>rfl
theorem ZfQ{elt:Expr}{gs:List Comprehension}{scope:Scope}{pos p:Pos}{x:Str}{ln:Nat}{env:Env}:∃b:Bool,V4 (.ListComp elt gs scope pos) (some (.Name x p)) ln env=pure b:=⟨_,rfl⟩
theorem ZlA{G:GI}{ie:IE}{sc:Scope}{N:List Str}{e:Expr}(h:chkE G ie sc N e=true):Ay e=true\/∃own fr src tg test elt,ie=.comp own fr src tg test elt:=by
 cases e<;>first
  |exact .inl rfl
  |(cases ie<;>first
    |exact .inr ⟨_,_,_,_,_,_,rfl⟩
    |exact absurd h XF)
section
variable{G:GI}{sc:Scope}{N:List Str}{st:Stmt}
theorem ZiC{e:IE}(h:chkS G sc N (.ret e) st=true):∃x p,st=.Return (some x) p/\chkE G e sc N x=true:=by
 replace h:=Xk h;obtain⟨o,h1,h⟩:=h;obtain⟨p,rfl⟩:=ZiT h1;replace h:=Xk h;obtain⟨x,rfl,h⟩:=h;exact⟨x,p,rfl,h⟩
theorem ZiB{i:Nat}{e:IE}(h:chkS G sc N (.set i e) st=true):∃x px v p,st=.Assign [.Name x px] v p/\N[i]?=some x/\locB sc x=true/\chkE G e sc N v=true:=by
 replace h:=Xk h;obtain⟨⟨ts,v⟩,h1,h⟩:=h;obtain⟨p,rfl⟩:=DT h1;replace h:=Xk h;obtain⟨t,h2,h⟩:=h;obtain rfl:=UE h2;replace h:=Xk h;obtain⟨x,h3,h⟩:=h;obtain⟨px,rfl⟩:=Zc h3;replace h:=Xg h;obtain⟨h,h6⟩:=h;replace h:=Xg h;obtain⟨h4,h5⟩:=h;exact⟨x,px,v,p,rfl,XS h4,h5,h6⟩
theorem ZiG{t:ITgs}{e:IE}(h:chkS G sc N (.asg t e) st=true):∃es k pt v p,st=.Assign [.Tuple es k pt] v p/\chkTgs sc N N.length true t es=true/\chkE G e sc N v=true/\J5 v=true:=by
 replace h:=Xk h;obtain⟨⟨ts,v⟩,h1,h⟩:=h;obtain⟨p,rfl⟩:=DT h1;replace h:=Xk h;obtain⟨g,h2,h⟩:=h;obtain rfl:=UE h2;replace h:=Xk h;obtain⟨es,h3,h⟩:=h;obtain⟨k,pt,rfl⟩:=DK h3;replace h:=Xg h;obtain⟨h,h6⟩:=h;replace h:=Xg h;obtain⟨h4,h5⟩:=h;exact⟨es,k,pt,v,p,rfl,h4,h5,h6⟩
theorem ZiD{o i e:IE}(h:chkS G sc N (.put o i e) st=true):∃a b pt v p,st=.Assign [.Subscript a b pt] v p/\chkE G o sc N a=true/\chkE G i sc N b=true/\Ar b=true/\chkE G e sc N v=true:=by
 replace h:=Xk h;obtain⟨⟨ts,v⟩,h1,h⟩:=h;obtain⟨p,rfl⟩:=DT h1;replace h:=Xk h;obtain⟨g,h2,h⟩:=h;obtain rfl:=UE h2;replace h:=Xk h;obtain⟨⟨a,b⟩,h3,h⟩:=h;obtain⟨pt,rfl⟩:=BZ h3;replace h:=Xg h;obtain⟨h,h7⟩:=h;replace h:=Xg h;obtain⟨h,h6⟩:=h;replace h:=Xg h;obtain⟨h4,h5⟩:=h;exact⟨a,b,pt,v,p,rfl,h4,h5,h6,h7⟩
theorem ZgL{e:IE}(h:chkS G sc N (.expr e) st=true):∃v p,st=.Expr v p/\chkE G e sc N v=true/\Ay v=true:=by
 replace h:=Xk h;obtain⟨v,h1,h⟩:=h;obtain⟨p,rfl⟩:=ZlO h1;exact⟨v,p,rfl,Xg h⟩
theorem ZiE{c:IE}{a b:ISs}(h:chkS G sc N (.ite c a b) st=true):∃t x y p,st=.If t x y p/\tok c=true/\chkE G c sc N t=true/\chkSs G sc N a x=true/\chkSs G sc N b y=true:=by
 replace h:=Xk h;obtain⟨⟨t,x,y⟩,h1,h⟩:=h;obtain⟨p,rfl⟩:=ZiV h1;replace h:=Xg h;obtain⟨h,h5⟩:=h;replace h:=Xg h;obtain⟨h,h4⟩:=h;replace h:=Xg h;obtain⟨h2,h3⟩:=h;exact⟨t,x,y,p,rfl,h2,h3,h4,h5⟩
theorem ZiF{t:ITg}{s:ISr}{b:ISs}(h:chkS G sc N (.for_ t s b) st=true):∃tg it body p,st=.For tg it body [] p/\Zd sc N N.length true t tg=true/\chkSr G s sc N it=true/\At it=true/\chkSs G sc N b body=true:=by
 replace h:=Xk h;obtain⟨⟨tg,it,body,els⟩,h1,h⟩:=h;obtain⟨p,rfl⟩:=ZiW h1;replace h:=Xg h;obtain⟨h,h6⟩:=h;replace h:=Xg h;obtain⟨h,h5⟩:=h;replace h:=Xg h;obtain⟨h,h4⟩:=h;replace h:=Xg h;obtain⟨h2,h3⟩:=h;obtain rfl:=YE h6;exact⟨tg,it,body,p,rfl,h2,h3,h4,h5⟩
theorem Zfg{c:IE}{b:ISs}(h:chkS G sc N (.while_ c b) st=true):∃t body p,st=.While t body [] p/\tok c=true/\chkE G c sc N t=true/\chkSs G sc N b body=true:=by
 replace h:=Xk h;obtain⟨⟨tg,body,els⟩,h1,h⟩:=h;obtain⟨p,rfl⟩:=ZlK h1;replace h:=Xg h;obtain⟨h,h5⟩:=h;replace h:=Xg h;obtain⟨h,h4⟩:=h;replace h:=Xg h;obtain⟨h2,h3⟩:=h;obtain rfl:=YE h5;exact⟨tg,body,p,rfl,h2,h3,h4⟩
theorem ZgK{sts:List Stmt}(h:chkSs G sc N .nil sts=true):sts=[]:=by
 exact YE h
theorem Zff{s:IS}{r:ISs}{sts:List Stmt}(h:chkSs G sc N (.cons s r) sts=true):∃x xs,sts=x::xs/\chkS G sc N s x=true/\chkSs G sc N r xs=true:=by
 replace h:=Xk h;obtain⟨⟨x,xs⟩,h1,h⟩:=h;exact⟨x,xs,Vj h1,Xg h⟩
end
mutual
theorem sS{G:GI}{Φ:List (Str×SpM)}:∀(is:IS) {X:Cx} {st:Stmt},Cok X G Φ->(∀x,X.fn x=true)->chkS G X.env.scope X.N is st=true->PS X st (liSt X.K (wS Φ is))
 |.pass,X,st,c,hf,h=>absurd h XF
 |.brk,X,st,c,hf,h=>absurd h XF
 |.cnt,X,st,c,hf,h=>absurd h XF
 |.never,X,st,c,hf,h=>by
  refine ps_never.weak λD σ H hw=>?_;obtain⟨σm,M,rs,rh,hw⟩:=hw;exact hw
 |.ret e,X,st,c,hf,h=>by
  obtain⟨v,p,rfl,h⟩:=ZiC h;refine(Qe (sE e c h).pe).weak λD σ H hw=>?_;obtain⟨σm,M,rs,rh,hw⟩:=hw;exact⟨σm,M,rs,rh,hw⟩
 |.retN,X,st,c,hf,h=>absurd h XF
 |.set i e,X,st,c,hf,h=>by
   obtain⟨x,px,v,p,rfl,h1,h2,h3⟩:=ZiB h;have rd:∀D σ H,liSt X.K (wS Φ (.set i e)) D σ H->liE X.K (wE Φ e) σ H λv H1=>D.nx (σ.set i (some v)) H1:=λD σ H hw=>by
    obtain⟨σm,M,rs,rh,hw⟩:=hw;refine⟨σm,M,rs,rh,Xc c.mon e (λv M1 q=>?_) hw⟩;intro u H1 k1 r1 rh1;exact q _ _ k1 ((rs.mono k1).set r1 i) rh1
   rcases ZlA h3 with hn|⟨own,fr,src,tg,test,elt,rfl⟩
   ·exact(GJ c.nd h1 (C0 h2) (sE e c h3).pe (ZfP hn) (.inl (hf _))).weak rd
   ·obtain⟨y,t,it,ifs,scope,p3,rfl,i1,i2,i3,i4,i5,i6,i7⟩:=IR h3;obtain⟨b,hb⟩:=ZfQ (elt:=y) (gs:=[⟨t,it,ifs,0⟩]) (scope:=scope) (pos:=p3) (p:=px) (x:=x) (ln:=p.line) (env:=X.env);cases b with
    |false=>exact(GJ c.nd h1 (C0 h2) (sE _ c h3).pe hb (.inl (hf _))).weak rd
    |true=>
     refine(Zde own fr (g:=gOf X.K tg) (te:=liE X.K (wE Φ elt)) (tt:=ttOf X.K Φ test) c.nd h1 (C0 h2) (λe s h=>by rw[c.nox]at h;exact h) c.calm i1 (sSr src (tg:=t) c i4)
      (λC fp s₃ H₃=>sTg (X:=cxC X scope own fr C fp s₃ H₃) (lim:=own.length) (all:=false) c.calm i3 (λz=>by cases z) tg i5) (λC fp s₃ H₃=>sI (X:=cxC X scope own fr C fp s₃ H₃) test (c.comp (Wu i1).kind i3) i6)
      (λC fp s₃ H₃=>(sE (X:=cxC X scope own fr C fp s₃ H₃) elt (c.comp (Wu i1).kind i3) i7).pe) hb (DS i2 _) (.inl (hf _))).thaw.weak λD σ H hw=>?_
     exact J0 c.mon i5 (rd D σ H hw)
 |.asg t e,X,st,c,hf,h=>by
   obtain⟨es,k,pt,v,p,rfl,h1,h2,h3⟩:=ZiG h;have hT:Zd X.env.scope X.N X.N.length true (.tup t) (.Tuple es k pt)=true:=h1;refine(GH (sE e c h2).pe (sTg (lim:=X.N.length) (all:=true) c.calm c.nd (λ_=>hf) (.tup t) hT) (ZhQ (e:=v) (es:=es) (k:=k) (p:=pt) (ln:=p.line) (env:=X.env)) (by cases v<;>first|rfl|cases h3) rfl).weak λD σ H hw=>?_
   obtain⟨σm,M,rs,rh,hw⟩:=hw;refine⟨σm,M,rs,rh,Xc c.mon e (λv M1 ⟨xs,e,q⟩=>?_) hw⟩;intro u H1 k1 r1 rh1;refine C2 (Ψ:=λ_=>True) (lim:=X.N.length) (λ_ _ _ _ z=>z) (.tup t) hT r1 (rs.mono k1) trivial (P:=λσ'=>(liD X.K H D).nx σ' M1) ⟨xs,e,q⟩ λσm' σ' q' rs' _=>?_;exact q' _ _ k1 rs' rh1
 |.put o i e,X,st,c,hf,h=>by
   obtain⟨a,b,pt,v,p,rfl,h1,h2,h3,h4⟩:=ZiD h;have hg:PG X (.Subscript a b pt) (gSub (liE X.K (wE Φ o)) (liE X.K (wE Φ i)) (IC X.K)):=Qk (sE o c h1).pe (sE i c h2).pe (TR (by have:=c.room;lia)) (by intro v;cases b<;>first|rfl|cases h3)
   refine(GH (sE e c h4).pe hg (ZhR (e:=v) (a:=a) (b:=b) (p:=pt) (ln:=p.line) (env:=X.env)) rfl rfl).weak λD σ H hw=>?_;obtain⟨σm,M,rs,rh,hw⟩:=hw;refine⟨σm,M,rs,rh,Xc c.mon e (λv M1 q1=>?_) hw⟩;intro u H1 k1 r1 rh1;refine⟨σm,M1,rs.mono k1,rh1,Xc c.mon o (λx M2 q2=>?_) q1⟩;intro u2 H2 k2 r2 rh2;refine⟨σm,M2,rs.mono (k1.trans k2),rh2,Xc c.mon i (λy M3 q3=>?_) q2⟩;intro u3 H3 k3 r3 rh3;refine⟨x,y,v,M3,r2.mono k3,r3,r1.mono (k2.trans k3),rh3,IB (λM4 q4=>?_) q3⟩;intro H4 k4 rh4;have kk:=k1.trans (k2.trans (k3.trans k4));exact q4 _ _ kk (rs.mono kk) rh4
 |.fset cn o f e,X,st,c,hf,h=>absurd h XF
 |.expr e,X,st,c,hf,h=>by
  obtain⟨v,p,rfl,h1,h2⟩:=ZgL h;refine(Qd (sE e c h1).pe (ZfO h2)).weak λD σ H hw=>?_;obtain⟨σm,M,rs,rh,hw⟩:=hw;refine⟨σm,M,rs,rh,Xc c.mon e (λv M1 q=>?_) hw⟩;intro u H1 k1 r1 rh1;exact q _ _ k1 (rs.mono k1) rh1
 |.ite d a b,X,st,c,hf,h=>by
  obtain⟨t,x,y,p,rfl,h1,h2,h3,h4⟩:=ZiE h;refine(Qf ((sE d c h2).pt h1) (sSs a c hf h3) (sSs b c hf h4)).weak λD σ H hw=>?_;obtain⟨σm,M,rs,rh,hw⟩:=hw;rw[J3]at hw;refine⟨σm,M,rs,rh,Xc c.mon d (λx M1 ⟨k,e,q⟩=>⟨k,e,λH1 k1 rh1=>?_⟩) hw⟩;exact YR (λq=>⟨σm,M1,rs.mono k1,rh1,mon_ss c.mon a (liD.on k1) q⟩) (λq=>⟨σm,M1,rs.mono k1,rh1,mon_ss c.mon b (liD.on k1) q⟩) q
 |.for_ t s b,X,st,c,hf,h=>by
   obtain⟨tg,it,body,p,rfl,h1,h2,h3,h4⟩:=ZiF h;refine(Qv (by rw[c.nox];exact PassesOwn.never) c.calm (sSr s (tg:=tg) c h2) (sTg (lim:=X.N.length) (all:=true) c.calm c.nd (λ_=>hf) t h1) (sSs b c hf h4) (DS h3 _)).thaw.weak λD σ H hw=>?_
   obtain⟨σm,M,rs,rh,hw⟩:=hw;refine⟨σm,M,rs,rh,mon_sr c.mon s (λS M1 ⟨J,j0,j1,j2,j3⟩=>?_) hw⟩;intro I H1 k1 rh1 sit;refine⟨λi m σ' H'=>m=S.len - i/\i≤S.len/\Kp H1 H'/\∃σm' M',RS X.K H' σm' σ'/\RH X.K M' H'/\J i σm' M',⟨_,rfl,YN _,Kp.refl _,σm,M1,rs.mono k1,rh1,j0⟩,?_⟩;rintro i m σ2 H2 ⟨rfl,hi,k2,σm2,M2,rs2,rh2,hj⟩;obtain⟨goes,stops⟩:=IZ sit k2 rh2 (j1 i σm2 M2 hj);by_cases hlt:i<S.len
   ·obtain⟨go,yld⟩:=goes i hlt;refine .inr ⟨go,λσ' H'=>Kp H1 H'/\∃σm' M',RS X.K H' σm' σ'/\RH X.K M' H'/\J (i+1) σm' M',λσ' H' ⟨a,z⟩=>⟨S.len - (i+1),by lia,rfl,hlt,a,z⟩,λx H' y=>?_⟩
    obtain⟨e,m,hm,rm⟩:=yld x H' y;subst e;refine C2 (Ψ:=λ_=>True) (lim:=X.N.length) (λ_ _ _ _ z=>z) t h1 rm rs2 trivial (j2 i m σm2 M2 hm hj) λσm3 σ3 q rs3 _=>?_;refine⟨σm3,M2,rs3,rh2,?_⟩;refine mon_ss c.mon b ?_ q;refine⟨λσ' M' z σv H3 k3 rs' rh'=>⟨k2.trans k3,σ',M',rs',rh',z⟩,λv M' z u H3 k3 r3 rh'=>?_,λσ' M' z σv H3 k3 rs' rh'=>?_,λσ' M' z σv H3 k3 rs' rh'=>⟨k2.trans k3,σ',M',rs',rh',z⟩⟩
    ·obtain⟨H4,th,k4,rh4⟩:=C1 sit rh' z.1;exact⟨H4,th,z.2 u H4 (k1.trans (k2.trans (k3.trans k4))) (r3.mono k4) rh4⟩
    ·obtain⟨H4,th,k4,rh4⟩:=C1 sit rh' z.1;exact⟨H4,th,z.2 σv H4 (k1.trans (k2.trans (k3.trans k4))) (rs'.mono k4) rh4⟩
   ·have e:i=S.len:=by lia
    subst e;obtain⟨H4,th,k4,rh4⟩:=C1 sit rh2 (IX (j1 _ σm2 M2 hj));exact .inl ⟨stops _ (Xl _),H4,th,j3 σm2 M2 hj _ _ (k1.trans (k2.trans k4)) (rs2.mono k4) rh4⟩
 |.while_ d b,X,st,c,hf,h=>by
   obtain⟨tst,body,p,rfl,h1,h2,h3⟩:=Zfg h;refine(Qm (by rw[c.nox];exact PassesOwn.never) ((sE d c h2).pt h1) (sSs b c hf h3)).weak λD σ H hw=>?_
   obtain⟨σm,M,rs,rh,hw⟩:=hw;obtain⟨J,⟨m0,j0⟩,j1⟩:=hw;refine⟨λm σ' H'=>Kp H H'/\∃σm' M',RS X.K H' σm' σ'/\RH X.K M' H'/\J m σm' M',⟨m0,Kp.refl _,σm,M,rs,rh,j0⟩,?_⟩;rintro m σ2 H2 ⟨k2,σm2,M2,rs2,rh2,hj⟩;refine⟨σm2,M2,rs2,rh2,Xc c.mon d (λx M1 ⟨k,e,q⟩=>⟨k,e,λH3 k3 rh3=>?_⟩) (j1 m σm2 M2 hj)⟩;refine YR (λq=>?_) (λq=>q _ _ (k2.trans k3) (rs2.mono k3) rh3) q;refine⟨λσ' H'=>∃m',m'<m/\Kp H H'/\∃σm' M',RS X.K H' σm' σ'/\RH X.K M' H'/\J m' σm' M',λσ' H' z=>z,σm2,M1,rs2.mono k3,rh3,?_⟩;refine mon_ss c.mon b ?_ q;refine⟨?_,λv M' z=>z.on (k2.trans k3),λσ' M' z σv H4 k4=>z σv H4 (k2.trans (k3.trans k4)),?_⟩
   ·rintro σ' M' ⟨m',hm,z⟩ σv H4 k4 rs' rh';exact⟨m',hm,k2.trans (k3.trans k4),σ',M',rs',rh',z⟩
   ·rintro σ' M' ⟨m',hm,z⟩ σv H4 k4 rs' rh';exact⟨m',hm,k2.trans (k3.trans k4),σ',M',rs',rh',z⟩
theorem sSs{G:GI}{Φ:List (Str×SpM)}:∀(is:ISs) {X:Cx} {sts:List Stmt},Cok X G Φ->(∀x,X.fn x=true)->chkSs G X.env.scope X.N is sts=true->PSs X sts (liSt X.K (wSs Φ is))
 |.nil,X,sts,c,hf,h=>by
   cases ZgK h;refine pss_nil.weak λD σ H hw=>?_;obtain⟨σm,M,rs,rh,hw⟩:=hw;exact hw σ H (Kp.refl _) rs rh
 |.cons s r,X,sts,c,hf,h=>by
   obtain⟨x,xs,rfl,h1,h2⟩:=Zff h;refine(Qb (sS s c hf h1) (sSs r c hf h2)).weak λD σ H hw=>?_;obtain⟨σm,M,rs,rh,hw⟩:=hw;refine⟨σm,M,rs,rh,?_⟩;refine J4 c.mon s ?_ hw;refine⟨λσ' M' z σv H1 k1 rs' rh'=>?_,λv M' z=>z,λσ' M' z=>z,λσ' M' z=>z⟩;exact⟨σ',M',rs',rh',mon_ss c.mon r (liD.on k1) z⟩
end
end L2
namespace L2
open PySem PySem.Spec PyProof.Rows
structure Fts (P:Xm) (w:Xj) (K:X6) (mg:Str->Option X0) (base:Heap) (k:Nat) (G:GI) (Φ:List (Str×SpM)):Prop where
 bls:∀x,G.bl.contains x=true->mg x=none
 gls:∀x i,G.gl.lookup x=some i->∃tk,mg x=some (.int i tk)
 fnn:∀(j:Nat) f,G.fns[j]?=some f->∃sp,Φ[j]?=some (f,sp)
 mon:∀(j:Nat) f sp,Φ[j]?=some (f,sp)->MonW sp
 fns:∀(j:Nat) f sp,G.fns[j]?=some f->Φ[j]?=some (f,sp)->∃fa fd ps,FnOk P w K mg base CX0 k fa fd ps (liSp K sp)/\mg f=some (.ref fa)/\Xq K (.ref fa)=true/\Binds K fd ps []
 mts:∀(j:Nat) c m,G.mts.contains (j,c,m)=true->∃f sp,Φ[j]?=some (f,sp)/\∃C fa fd ps,FnOk P w K mg base CX0 k fa fd ps (liSp K sp)/\Xi K Xf c=some (some (.ref C))/\Cls K C/\Meth K C m fa/\Binds K fd ps []
 mks:∀(j:Nat) c,G.mks.contains (j,c)=true->∃f sp,Φ[j]?=some (f,sp)/\∃k' C fa fd ps,k'+1≤k/\FnOk P w K mg base CX0 k' fa fd ps (liSp K sp)/\Xi K Xf c=some (some (.ref C))/\mg c=some (.ref C)/\Mk K C fa/\Binds K fd ps []
 cls:∀c f,G.cls.contains (c,f)=true->∃C,Xi K Xf c=some (some (.ref C))/\Cls K C/\Di K C f
noncomputable def Az(n:Nat)(vs:List MV):Sm:=vs.map some++Vw (n - vs.length) none
theorem ZhT{K:X6}{H:Hp}{N:List Str}{ms:List MV}{vs:List V}(r:RMs K H ms vs):RS K H (Az N.length ms) (start N vs):=by
 unfold Az start;have hl:=r.length;refine⟨by simp[hl],λi m e=>?_⟩
 by_cases hi:i<ms.length
 ·rw[Uc (by simpa using hi),Xo]at e
  cases q:ms[i]? with
  |none=>rw[q]at e;cases e
  |some x=>
   rw[q]at e;have ex:x=m:=Yg (Yg e);subst ex;obtain⟨u,hu,ru⟩:=r.get q;exact⟨u,by rw[Uc (by simpa [<- hl]using hi),Xo,hu];rfl,ru⟩
 ·rw[UL (by simpa using hi),FT]at e
  split at e<;>cases e
theorem Fun.okM{P:Xm}{w:Xj}{K:X6}{mg:Str->Option X0}{base:Heap}{G:GI}{Φ:List (Str×SpM)}{x qual:Str}{st:Stmt}{f:Addr}{fd:Xn}{N ps:List Str}{k:Nat}{sp:SpM}
  (F:Fun K x qual st f fd) (S:FnScope N ps (X2 st)) (T:Fts P w K mg base k G Φ) (ir:ISs) (hc:chkSs G (X2 st) N ir (X5 st)=true)
  (len:∀vs M Q,sp vs M Q->vs.length=ps.length) (h:∀vs M Q,sp vs M Q->wSs Φ ir {nx:=λ_ M'=>Q .non M',rt:=Q} (Az N.length vs) M):FnOk P w K mg base CX0 (k+1) f fd ps (liSp K sp):=by
 refine F.ok S (λvs H Q E hs=>?_) λcdv A outer s H vs Q E hr hs=>?_
 ·obtain⟨ms,M,r,rh,q⟩:=hs;rw[<- r.length];exact len _ _ _ q
 obtain⟨ms,M,r,rh,q⟩:=hs;have c:Cok (cxOf CX0 P w K mg base N qual (X2 st) f cdv A outer s H E).nox G Φ:=
  ⟨(by have:=hr.un;show(A.deeper _).units+70<cLine;lia),rfl,rfl,(by show(if(X2 st).kind.isAnnotationScope then Gs else(X2 st).kind)=.function;rw[S.kind];rfl),S.nd,T.bls,T.gls,T.fnn,T.mon,
   (λj f sp hg hj=>let⟨fa,fd,ps,F,hm,hk,hb⟩:=T.fns j f sp hg hj;⟨k,fa,fd,ps,hr,F,hm,hk,hb⟩),
   (λj c m h=>let⟨f,sp,hj,C,fa,fd,ps,F,hC,cl,hm,hb⟩:=T.mts j c m h;⟨f,sp,hj,k,C,fa,fd,ps,hr,F,hC,cl,hm,hb⟩),
   (λj c h=>let⟨f,sp,hj,k',C,fa,fd,ps,hk,F,hC,hm,mk1,hb⟩:=T.mks j c h;⟨f,sp,hj,k',C,fa,fd,ps,hr.mono hk,F,hC,hm,mk1,hb⟩),T.cls⟩
 refine⟨_,sSs ir c (λ_=>rfl) hc,Az N.length ms,M,ZhT r,rh,?_⟩;refine mon_ss T.mon ir ?_ (h ms M _ q);exact⟨λσ M' z σv H' k1 rs' rh'=>z _ _ k1 .non rh',λv M' z=>z,λ_ _ z=>z.elim,λ_ _ z=>z.elim⟩
noncomputable def Ja:SpM:=λvs M Q=>∃ns:List Int,vs=[.frl (ns.map .int)]/\ns.length≤63/\∀M',Q (.bl true) M'
noncomputable def C4(K:X6):Sp:=λvs H Q _=>∃(a:Addr) (ns:List Int),vs=[.ref a]/\FrL K H a (ns.map V.int)/\ns.length≤63/\∀H',Q (.bl true) H'
theorem Zl5{K:X6}{P:Xm}{w:Xj}{mg:Str->Option X0}{base:Heap}{k:Nat}{f:Addr}{fd:Xn}{ps:List Str}(F:FnOk P w K mg base CX0 k f fd ps (liSp K Ja)):FnOk P w K mg base CX0 k f fd ps (C4 K):=
 F.imp λvs H Q E ⟨a,ns,e,hs,hl,q⟩=>by
  subst e;refine⟨[.frl (ns.map .int)],λ_=>none,.cons (.frl hs (RMs.ints ns)) .nil,λ_ _ z=>(by cases z),ns,rfl,hl,λM'=>?_⟩
  intro v H' k r rh;cases r;exact q _
theorem ZnP{K:X6}{H:Hp}{a:Addr}{vs:List V}(o:Only H)(h:SqL K H a vs):FrL K H a vs:=by
 rcases h with(h|⟨ob,h⟩)|h
 ·rcases o a with z|⟨ob,xs,z⟩
  ·rw[h]at z;cases z
  ·rw[h]at z;cases z
 ·exact .inl ⟨ob,h⟩
 ·exact .inr h
theorem Znq{P:Xm}{w:Xj}{K:X6}{mg:Str->Option X0}{base:Heap}{k:Nat}{G:GI}{Φ Ψ:List (Str×SpM)}(hb:∀x∈G.bl,mg x=none)(hg:∀p∈G.gl,∃tk,mg p.1=some (.int p.2 tk))(hf:Φ.map (·.1)=G.fns)
  (hm:∀p∈Φ++Ψ,MonW p.2) (hF:∀p∈Φ,∃fa fd ps,FnOk P w K mg base CX0 k fa fd ps (liSp K p.2)/\mg p.1=some (.ref fa)/\Xq K (.ref fa)=true/\Binds K fd ps [])
  (ht:∀q∈G.mts,∃f sp,(Φ++Ψ)[q.1]?=some (f,sp)/\∃C fa fd ps,FnOk P w K mg base CX0 k fa fd ps (liSp K sp)/\Xi K Xf q.2.1=some (some (.ref C))/\Cls K C/\Meth K C q.2.2 fa/\Binds K fd ps [])
  (hk:∀q∈G.mks,∃f sp,(Φ++Ψ)[q.1]?=some (f,sp)/\∃k' C fa fd ps,k'+1≤k/\FnOk P w K mg base CX0 k' fa fd ps (liSp K sp)/\Xi K Xf q.2=some (some (.ref C))/\mg q.2=some (.ref C)/\Mk K C fa/\Binds K fd ps [])
  (hc:∀q∈G.cls,∃C,Xi K Xf q.1=some (some (.ref C))/\Cls K C/\Di K C q.2):Fts P w K mg base k G (Φ++Ψ)where
 bls:=λx h=>hb x (by simpa using h)
 gls:=λx i h=>hg (x,i) (Wn h)
 fnn:=λj f h=>by
  rw[<- hf,Xo]at h;cases e:Φ[j]? with
  |none=>rw[e]at h;cases h
  |some p=>rw[e]at h;cases h;exact⟨p.2,by rw[Uc (XE.mp e).1,e]⟩
 mon:=λj f sp h=>hm (f,sp) (XG h)
 fns:=λj f sp hj h=>by
  rw[<- hf,Xo]at hj;cases e:Φ[j]? with
  |none=>rw[e]at hj;cases hj
  |some p=>
   rw[Uc (XE.mp e).1,e]at h;cases h;exact hF (f,sp) (XG e)
 mts:=λj c m h=>ht (j,c,m) (by simpa using h)
 mks:=λj c h=>hk (j,c) (by simpa using h)
 cls:=λc f h=>hc (c,f) (by simpa using h)
theorem Xx{P:Xm}{w:Xj}{K:X6}{mg:Str->Option X0}{base:Heap}{k:Nat}{G:GI}{Φ:List (Str×SpM)}(hb:∀x∈G.bl,mg x=none)(hg:∀p∈G.gl,∃tk,mg p.1=some (.int p.2 tk))(hf:Φ.map (·.1)=G.fns)
  (hm:∀p∈Φ,MonW p.2) (hF:∀p∈Φ,∃fa fd ps,FnOk P w K mg base CX0 k fa fd ps (liSp K p.2)/\mg p.1=some (.ref fa)/\Xq K (.ref fa)=true/\Binds K fd ps []) (h1:G.mts=[]:=by rfl) (h2:G.mks=[]:=by rfl) (h3:G.cls=[]:=by rfl):Fts P w K mg base k G Φ:=by
 have:=Znq (Ψ:=[]) hb hg hf (by rw[Wc];exact hm) hF (by rw[h1];exact λ_ z=>nomatch z) (by rw[h2];exact λ_ z=>nomatch z) (by rw[h3];exact λ_ z=>nomatch z)
 rwa [Wc]at this
theorem us0{p:List X0->Prop}(h:p [])(us:List X0)(hl:us.length=0):p us:=by cases us with|nil=>exact h|cons _ _=>cases hl
theorem us1{p:List X0->Prop}(h:∀a0,p [a0])(us:List X0)(hl:us.length=1):p us:=by cases us with|nil=>cases hl|cons a r=>exact us0 (p:=λr=>p (a::r)) (h a) r (Ae hl)
theorem us2{p:List X0->Prop}(h:∀a0 a1,p [a0,a1])(us:List X0)(hl:us.length=2):p us:=by cases us with|nil=>cases hl|cons a r=>exact us1 (p:=λr=>p (a::r)) (h a) r (Ae hl)
theorem us3{p:List X0->Prop}(h:∀a0 a1 a2,p [a0,a1,a2])(us:List X0)(hl:us.length=3):p us:=by cases us with|nil=>cases hl|cons a r=>exact us2 (p:=λr=>p (a::r)) (h a) r (Ae hl)
theorem us4{p:List X0->Prop}(h:∀a0 a1 a2 a3,p [a0,a1,a2,a3])(us:List X0)(hl:us.length=4):p us:=by cases us with|nil=>cases hl|cons a r=>exact us3 (p:=λr=>p (a::r)) (h a) r (Ae hl)
theorem us5{p:List X0->Prop}(h:∀a0 a1 a2 a3 a4,p [a0,a1,a2,a3,a4])(us:List X0)(hl:us.length=5):p us:=by cases us with|nil=>cases hl|cons a r=>exact us4 (p:=λr=>p (a::r)) (h a) r (Ae hl)
section
variable{M:MH}{Q:QM}{i j:Int}{x y:MV}{a b:Addr}
theorem Zpi:wBin .Add (.int i) (.int j) M Q=Q (.int (i+j)) M:=rfl
theorem ZoE:wBin .Sub (.int i) (.int j) M Q=Q (.int (i - j)) M:=rfl
theorem Zp5:wBin .Mult (.int i) (.int j) M Q=(CMul i j/\Q (.int (i*j)) M):=rfl
theorem ZmQ:wBin .FloorDiv (.int i) (.int j) M Q=(Ak i j/\Q (.int (i/j)) M):=rfl
theorem Jb:wBin .Mod (.int i) (.int j) M Q=(0<j/\Q (.int (i%j)) M):=rfl
theorem ZoN:wBin .LShift (.int i) (.int j) M Q=(CPow i j/\Q (.int (i*2^j.toNat)) M):=rfl
theorem ZmU{x y:Str}:wBin .Add (.str x) (.str y) M Q=(x.length+y.length≤sizeLine/\Q (.str (x++y)) M):=rfl
theorem Zmz{x:Str}:wBin .Mult (.str x) (.int i) M Q=(x.length≤16/\ -1000≤i/\i≤1000/\Q (.str (Txt.mul x i)) M):=rfl
theorem ZmT{xs ys:List MV}:wBin .Add (.tup xs) (.tup ys) M Q=(xs≠ []/\xs.length+ys.length≤sizeLine/\Q (.tup (xs++ys)) M):=rfl
theorem q_lt:wCmp .Lt (.int i) (.int j) M Q=Q (.bl (decide (i<j))) M:=propext ⟨fun⟨_,_,e,f,h⟩=>by cases e;cases f;exact h,λh=>⟨i,j,rfl,rfl,h⟩⟩
theorem q_le:wCmp .LtE (.int i) (.int j) M Q=Q (.bl (decide (i≤j))) M:=propext ⟨λh=>Or.elim h (fun⟨_,_,e,f,h⟩=>by cases e;cases f;exact h) (fun⟨_,_,e,_⟩=>nomatch e),λh=>Or.inl ⟨i,j,rfl,rfl,h⟩⟩
theorem Zp6{x y:Str}:wCmp .LtE (.str x) (.str y) M Q=Q (.bl (!decide (y.cps.toList<x.cps.toList))) M:=propext ⟨λh=>Or.elim h (fun⟨_,_,e,_⟩=>nomatch e) (fun⟨_,_,e,f,h⟩=>by cases e;cases f;exact h),λh=>Or.inr ⟨x,y,rfl,rfl,h⟩⟩
theorem q_gt:wCmp .Gt (.int i) (.int j) M Q=Q (.bl (decide (j<i))) M:=propext ⟨fun⟨_,_,e,f,h⟩=>by cases e;cases f;exact h,λh=>⟨i,j,rfl,rfl,h⟩⟩
theorem Zpe:wCmp .Eq (.int i) (.int j) M Q=Q (.bl (decide (i=j))) M:=rfl
theorem Zp3:wCmp .NotEq (.int i) (.int j) M Q=Q (.bl (!decide (i=j))) M:=rfl
theorem Zpc{x y:Str}:wCmp .Eq (.str x) (.str y) M Q=Q (.bl (decide (x=y))) M:=rfl
theorem Zp1{x y:Str}:wCmp .NotEq (.str x) (.str y) M Q=Q (.bl (!decide (x=y))) M:=rfl
theorem Zpf{x y:Bool}:wCmp .Eq (.bl x) (.bl y) M Q=Q (.bl (decide (x=y))) M:=rfl
theorem Zp4{x y:Bool}:wCmp .NotEq (.bl x) (.bl y) M Q=Q (.bl (!decide (x=y))) M:=rfl
theorem q_is:wCmp .Is x .non M Q=Q (.bl (YX x)) M:=propext ⟨λh=>Or.elim h (λh=>h.2) (fun⟨_,e,_⟩=>nomatch e),λh=>Or.inl ⟨rfl,h⟩⟩
theorem Zkp:wCmp .IsNot x .non M Q=Q (.bl (!YX x)) M:=propext ⟨λh=>Or.elim h (λh=>h.2) (fun⟨_,e,_⟩=>nomatch e),λh=>Or.inl ⟨rfl,h⟩⟩
theorem Zpd{y:MV}:wCmp .Eq (.ref a) y M Q=wEq (.ref a) y M λb=>Q (.bl b) M:=rfl
theorem Zp2{y:MV}:wCmp .NotEq (.ref a) y M Q=wEq (.ref a) y M λb=>Q (.bl (!b)) M:=rfl
theorem Zpb{xs:List MV}{y:MV}:wCmp .Eq (.tup xs) y M Q=wEq (.tup xs) y M λb=>Q (.bl b) M:=rfl
theorem Zp0{xs:List MV}{y:MV}:wCmp .NotEq (.tup xs) y M Q=wEq (.tup xs) y M λb=>Q (.bl (!b)) M:=rfl
theorem q_in:wCmp .In x y M Q=wIn x y M λb=>Q (.bl b) M:=rfl
theorem ZoZ:wCmp .NotIn x y M Q=wIn x y M λb=>Q (.bl (!b)) M:=rfl
theorem VP{xs:List MV}{k:Bool->Prop}(h:M a=some (.lst xs))(hb:M b=some (.lst []))(q:k xs.isEmpty):wEq (.ref a) (.ref b) M k:=.inr (.inl ⟨a,b,xs,rfl,rfl,h,hb,q⟩)
theorem ZiL{k:Bool->Prop}{m:Nat}(n:eqS x y=none)(h:Alike M m x y)(le:m≤60)(q:k true):wEq x y M k:=by
 unfold wEq;rw[n];exact .inl ⟨m,le,h,q⟩
theorem Alike.flat{x:MV}(n:Nat)(f:Yv x=true):Alike M n x x:=by
 cases n<;>rw[Alike]
 ·exact⟨f,rfl⟩
 ·exact .inl ⟨f,rfl⟩
theorem Alike.tup{xs ys:List MV}{n:Nat}(e:xs.length=ys.length)(h:∀(i:Nat) u v,xs[i]?=some u->ys[i]?=some v->Alike M n u v):Alike M (n+1) (.tup xs) (.tup ys):=by
 rw[Alike];exact .inr (.inl ⟨xs,ys,rfl,rfl,e,h⟩)
theorem Alike.two{a b a' b':MV}{n:Nat}(h1:Alike M n a a')(h2:Alike M n b b'):Alike M (n+1) (.tup [a,b]) (.tup [a',b']):=by
 refine .tup rfl λi u v h h'=>?_
 match i with
 |0=>cases h;cases h';exact h1
 |1=>cases h;cases h';exact h2
 |i+2=>cases h
theorem Alike.lst{x y:MV}{xs ys:List MV}{n:Nat}(h1:LstM M x xs)(h2:LstM M y ys)(e:xs.length=ys.length)(h:∀(i:Nat) u v,xs[i]?=some u->ys[i]?=some v->Alike M n u v):Alike M (n+1) x y:=by
 rw[Alike];exact .inr (.inr (.inl ⟨xs,ys,h1,h2,e,h⟩))
theorem Alike.dic{a b:Addr}{ka kb:List (Key×MV)}{n:Nat}(h1:M a=some (.dic ka))(h2:M b=some (.dic kb))(e:ka.length=kb.length)(h:∀k u,(k,u)∈ka->∃v,valM kb k=some v/\Alike M n u v):Alike M (n+1) (.ref a) (.ref b):=by
 rw[Alike];exact .inr (.inr (.inr ⟨a,b,ka,kb,rfl,rfl,h1,h2,e,h⟩))
noncomputable def ixO(o:Option MO)(y:MV)(M:MH)(Q:QM):Prop:=match o with
 |some (.lst xs)=>∃i v,y=.int i/\atI xs i=some v/\Q v M
 |some (.dic kvs)=>∃kk v,keyM y=some kk/\valM kvs kk=some v/\Q v M
 |some (.fdic _ kvs)=>∃kk v,keyM y=some kk/\valM kvs kk=some v/\Q v M
 |_=>False
theorem Jc:wIx (.ref a) y M Q=ixO (M a) y M Q:=propext ⟨λh=>by
  rcases h with⟨xs,i,v,e,r⟩|⟨kvs,kk,v,e,r⟩|⟨o,kvs,kk,v,e,r⟩
  ·rw[e];exact⟨i,v,r⟩
  ·rw[e];exact⟨kk,v,r⟩
  ·rw[e];exact⟨kk,v,r⟩,λh=>by
  cases e:M a with
  |none=>rw[e]at h;exact h.elim
  |some o=>
   rw[e]at h;cases o with
   |lst xs=>obtain⟨i,v,r⟩:=h;exact .inl ⟨xs,i,v,e,r⟩
   |dic kvs=>obtain⟨kk,v,r⟩:=h;exact .inr (.inl ⟨kvs,kk,v,e,r⟩)
   |ins _ _=>exact h.elim
   |fdic o kvs=>obtain⟨kk,v,r⟩:=h;exact .inr (.inr ⟨o,kvs,kk,v,e,r⟩)⟩
theorem Jd{xs:List MV}:ixO (some (.lst xs)) (.int i) M Q=∃v,atI xs i=some v/\Q v M:=propext ⟨fun⟨_,v,e,h⟩=>by cases e;exact⟨v,h⟩,fun⟨v,h⟩=>⟨i,v,rfl,h⟩⟩
theorem Zkn{kvs:List (Key×MV)}{x:Str}:ixO (some (.dic kvs)) (.str x) M Q=∃v,valM kvs (XB x)=some v/\Q v M:=propext ⟨fun⟨_,v,e,h⟩=>by cases e;exact⟨v,h⟩,fun⟨v,h⟩=>⟨_,v,rfl,h⟩⟩
theorem Zkm{o:Obj}{kvs:List (Key×MV)}{x:Str}:ixO (some (.fdic o kvs)) (.str x) M Q=∃v,valM kvs (XB x)=some v/\Q v M:=propext ⟨fun⟨_,v,e,h⟩=>by cases e;exact⟨v,h⟩,fun⟨v,h⟩=>⟨_,v,rfl,h⟩⟩
theorem Je{xs:List MV}:wIx (.tup xs) (.int i) M Q=∃v,atI xs i=some v/\Q v M:=propext ⟨fun⟨_,v,e,h⟩=>by cases e;exact⟨v,h⟩,fun⟨v,h⟩=>⟨i,v,rfl,h⟩⟩
theorem Zp8{xs:List MV}:wIx (.frl xs) (.int i) M Q=∃v,atI xs i=some v/\Q v M:=propext ⟨fun⟨_,v,e,h⟩=>by cases e;exact⟨v,h⟩,fun⟨v,h⟩=>⟨i,v,rfl,h⟩⟩
theorem Zp7{z:Str}:wIx (.str z) (.int i) M Q=(z.length≤sizeLine/\∃c,atI z.cps.toList i=some c/\Q (.str ⟨#[c]⟩) M):=propext ⟨fun⟨_,c,e,h1,h2⟩=>by cases e;exact⟨h1,c,h2⟩,fun⟨h1,c,h2⟩=>⟨i,c,rfl,h1,h2⟩⟩
noncomputable def slO(o:Option MO)(lo hi:Option Int)(M:MH)(Q:QM):Prop:=match o with
 |some (.lst xs)=>∀p,M p=none->Q (.ref p) (updM M p (.lst (cutM xs lo hi)))
 |_=>False
theorem ZoL{lo hi:Option Int}:wSl (.ref a) lo hi M Q=slO (M a) lo hi M Q:=propext ⟨fun⟨xs,e,h⟩=>by rw[e];exact h,λh=>by
  cases e:M a with
  |none=>rw[e]at h;exact h.elim
  |some o=>
   rw[e]at h;cases o with
   |lst xs=>exact⟨xs,e,h⟩
   |dic kvs=>exact h.elim
   |ins _ _=>exact h.elim
   |fdic _ _=>exact h.elim⟩
theorem Zmt{lo hi:Option Int}{xs:List MV}:slO (some (.lst xs)) lo hi M Q=∀p,M p=none->Q (.ref p) (updM M p (.lst (cutM xs lo hi))):=rfl
theorem ZoM{lo hi:Option Int}{xs:List MV}:wSl (.frl xs) lo hi M Q=∀p,M p=none->Q (.ref p) (updM M p (.lst (cutM xs lo hi))):=rfl
theorem ZoK{lo hi:Option Int}{z:Str}:wSl (.str z) lo hi M Q=(z.length≤sizeLine/\Q (.str (cutS z lo hi)) M):=rfl
theorem ZoJ{lo hi:Option Int}{xs:List MV}:wSl (.tup xs) lo hi M Q=Q (.tup (cutM xs lo hi)) M:=rfl
theorem ZmF{xs:List MV}:wBi .len [.tup xs] M Q=Q (.int xs.length) M:=rfl
theorem ZmI{xs:List MV}:wBi .len [.frl xs] M Q=Q (.int xs.length) M:=rfl
theorem ZmG{z:Str}:wBi .len [.str z] M Q=(z.length≤sizeLine/\Q (.int z.length) M):=rfl
noncomputable def lenO(o:Option MO)(M:MH)(Q:QM):Prop:=match o with
 |some (.lst xs)=>Q (.int xs.length) M
 |some (.dic kvs)=>Q (.int kvs.length) M
 |_=>False
theorem ZmH:wBi .len [.ref a] M Q=lenO (M a) M Q:=propext ⟨λh=>by
  rcases h with⟨xs,e,h⟩|⟨kvs,e,h⟩<;>(rw[e];exact h),λh=>by
  cases e:M a with
  |none=>rw[e]at h;exact h.elim
  |some o=>
   rw[e]at h;cases o with
   |lst xs=>exact .inl ⟨xs,e,h⟩
   |dic kvs=>exact .inr ⟨kvs,e,h⟩
   |ins _ _=>exact h.elim
   |fdic _ _=>exact h.elim⟩
theorem Zkk{xs:List MV}:lenO (some (.lst xs)) M Q=Q (.int xs.length) M:=rfl
theorem Zkl{kvs:List (Key×MV)}:lenO (some (.dic kvs)) M Q=Q (.int kvs.length) M:=rfl
noncomputable def isO(o:Option Ty7)(c:Ty7)(M:MH)(Q:QM):Prop:=match o with
 |some T=>c≠.none/\Q (.bl (isTy T c)) M
 |none=>False
theorem Zp9{c:Ty7}:wBi .isinst [x,.ty c] M Q=isO (tyM M x) c M Q:=propext (by
 have e:wBi .isinst [x,.ty c] M Q=∃T,tyM M x=some T/\c≠.none/\Q (.bl (isTy T c)) M:=by cases x<;>rfl
 rw[e];exact⟨fun⟨T,e,h⟩=>by rw[e];exact h,λh=>by
  cases e:tyM M x with
  |none=>rw[e]at h;exact h.elim
  |some T=>rw[e]at h;exact⟨T,rfl,h⟩⟩)
noncomputable def isO2(o:Option Ty7)(c d:Ty7)(M:MH)(Q:QM):Prop:=match o with
 |some T=>c≠.none/\d≠.none/\Q (.bl (isTy T c||isTy T d)) M
 |none=>False
theorem ZmN{c d:Ty7}:wBi .isinst [x,.tup [.ty c,.ty d]] M Q=isO2 (tyM M x) c d M Q:=propext (by
 have e:wBi .isinst [x,.tup [.ty c,.ty d]] M Q=∃T,tyM M x=some T/\c≠.none/\d≠.none/\Q (.bl (isTy T c||isTy T d)) M:=by cases x<;>rfl
 rw[e];exact⟨fun⟨T,e,h⟩=>by rw[e];exact h,λh=>by
  cases e:tyM M x with
  |none=>rw[e]at h;exact h.elim
  |some T=>rw[e]at h;exact⟨T,rfl,h⟩⟩)
theorem Zko{T c d:Ty7}:isO2 (some T) c d M Q=(c≠.none/\d≠.none/\Q (.bl (isTy T c||isTy T d)) M):=rfl
theorem ZmM{T c:Ty7}:isO (some T) c M Q=(c≠.none/\Q (.bl (isTy T c)) M):=rfl
theorem Zos:tyM M (.int i)=some .int:=rfl
theorem Zot{k:Bool}:tyM M (.bl k)=some .bool:=rfl
theorem Zop{k:Str}:tyM M (.str k)=some .str:=rfl
theorem Zor:tyM M .non=some .none:=rfl
theorem Zoo{xs:List MV}:tyM M (.tup xs)=some .tuple:=rfl
noncomputable def tyO:Option MO->Option Ty7
 |some (.lst _)=>some .list
 |some (.dic _)=>some .dict
 |_=>none
theorem Zoq:tyM M (.ref a)=tyO (M a):=by
 cases e:M a with
 |none=>simp[tyM,tyO,e]
 |some o=>cases o<;>simp[tyM,tyO,e]
theorem Zmn{xs:List MV}:tyO (some (.lst xs))=some .list:=rfl
theorem Zmo{kvs:List (Key×MV)}:tyO (some (.dic kvs))=some .dict:=rfl
theorem ZmE:wBi .max [.ref a] M Q=∃ns:List Int,M a=some (.lst (ns.map MV.int))/\0<ns.length/\∀m,m∈ns->(∀x∈ns,x≤m)->Q (.int m) M:=rfl
theorem ZmC:wBi .min [.ref a] M Q=∃ns:List Int,M a=some (.lst (ns.map MV.int))/\0<ns.length/\∀m,m∈ns->(∀x∈ns,m≤x)->Q (.int m) M:=rfl
theorem Zph:wBi .all [.ref a] M Q=∃bs:List Bool,M a=some (.lst (bs.map MV.bl))/\Q (.bl (bs.all id)) M:=rfl
theorem Zkr:wBi .dictL [.ref a] M Q=∃ps:List (Key×MV),M a=some (.lst (ps.map prM))/\∀p,M p=none->Q (.ref p) (updM M p (.dic (US ps))):=rfl
theorem Zkh{xs:List MV}:wBi .list [.tup xs] M Q=∀p,M p=none->Q (.ref p) (updM M p (.lst xs)):=rfl
theorem Zkj{xs:List MV}:wBi .list [.frl xs] M Q=∀p,M p=none->Q (.ref p) (updM M p (.lst xs)):=rfl
theorem Zki:wBi .list [.ref a] M Q=∃xs,M a=some (.lst xs)/\∀p,M p=none->Q (.ref p) (updM M p (.lst xs)):=rfl
theorem Zmp{xs:List MV}:wBi .tuple [.tup xs] M Q=Q (.tup xs) M:=rfl
theorem Zmq:wBi .tuple [.ref a] M Q=∃xs,M a=some (.lst xs)/\Q (.tup xs) M:=rfl
theorem Zkq{xs:List MV}:wBi .dict [.tup xs] M Q=∃ps:List (Key×MV),xs=ps.map prM/\∀p,M p=none->Q (.ref p) (updM M p (.dic (US ps))):=rfl
theorem ZmR:wBi .dict [.ref a] M Q=∃kvs,M a=some (.dic kvs)/\∀p,M p=none->Q (.ref p) (updM M p (.dic kvs)):=rfl
noncomputable def apO(o:Option MO)(a:Addr)(y:MV)(M:MH)(Q:QM):Prop:=match o with
 |some (.lst xs)=>xs.length<sizeLine/\Q .non (updM M a (.lst (xs++[y])))
 |_=>False
theorem Zpg:wMts .append (.ref a) [y] M Q=apO (M a) a y M Q:=propext ⟨fun⟨xs,e,h⟩=>by rw[e];exact h,λh=>by
  cases e:M a with
  |none=>rw[e]at h;exact h.elim
  |some o=>
   rw[e]at h;cases o with
   |lst xs=>exact⟨xs,e,h⟩
   |dic kvs=>exact h.elim
   |ins _ _=>exact h.elim
   |fdic _ _=>exact h.elim⟩
theorem ZmS{xs:List MV}:apO (some (.lst xs)) a y M Q=(xs.length<sizeLine/\Q .non (updM M a (.lst (xs++[y])))):=rfl
theorem Zpa:wMts .extend (.ref a) [.ref b] M Q=∃xs,M a=some (.lst xs)/\∃ys,M b=some (.lst ys)/\xs.length+ys.length≤sizeLine/\Q .non (updM M a (.lst (xs++ys))):=rfl
theorem Zmy:mtOk .append x M=(∃a xs,x=.ref a/\M a=some (.lst xs)):=rfl
theorem Zmx:mtOk .extend x M=(∃a xs,x=.ref a/\M a=some (.lst xs)):=rfl
theorem ZoY{z:Str}:mtOk .join (.str z) M=True:=propext ⟨λ_=>trivial,λ_=>⟨z,rfl⟩⟩
theorem ZmJ{sep:Str}:wMts .join (.str sep) [.ref b] M Q=(∃ss,M b=some (.lst (ss.map MV.str))/\ss.toArray.foldl (λn z=>n+z.length+sep.length) 0≤sizeLine/\(Uw sep ss).length≤sizeLine/\Q (.str (Uw sep ss)) M):=
 propext ⟨fun⟨_,_,ss,e,e',h⟩=>by cases e;cases e';exact⟨ss,h⟩,fun⟨ss,h⟩=>⟨sep,b,ss,rfl,rfl,h⟩⟩
noncomputable def puO(o:Option MO)(a:Addr)(i v:MV)(M:MH)(Q:MH->Prop):Prop:=match o with
 |some (.lst xs)=>∃k j,i=.int k/\ixN xs.length k=some j/\Q (updM M a (.lst (xs.set j v)))
 |some (.dic kvs)=>∃kk,keyM i=some kk/\kvs.length<sizeLine/\Q (updM M a (.dic (putM kvs kk v)))
 |_=>False
theorem ZoR{v:MV}{R:MH->Prop}:wPut (.ref a) x v M R=puO (M a) a x v M R:=propext ⟨λh=>by
  rcases h with⟨xs,k,j,e,r⟩|⟨kvs,kk,e,r⟩
  ·rw[e];exact⟨k,j,r⟩
  ·rw[e];exact⟨kk,r⟩,λh=>by
  cases e:M a with
  |none=>rw[e]at h;exact h.elim
  |some o=>
   rw[e]at h;cases o with
   |lst xs=>obtain⟨k,j,r⟩:=h;exact .inl ⟨xs,k,j,e,r⟩
   |dic kvs=>obtain⟨kk,r⟩:=h;exact .inr ⟨kvs,kk,e,r⟩
   |ins _ _=>exact h.elim
   |fdic _ _=>exact h.elim⟩
theorem Zkg{kvs:List (Key×MV)}{z:Str}{v:MV}{R:MH->Prop}:puO (some (.dic kvs)) a (.str z) v M R=(kvs.length<sizeLine/\R (updM M a (.dic (putM kvs (XB z) v)))):=propext ⟨fun⟨_,e,h⟩=>by cases e;exact h,λh=>⟨_,rfl,h⟩⟩
noncomputable def srO(o:Option MO)(a:Addr)(M:MH)(Q:Src->MH->Prop):Prop:=match o with
 |some (.lst xs)=>Q (.lst a xs) M
 |some (.dic kvs)=>∀o,Q (.dic a o kvs) (updM M a (.fdic o kvs))
 |_=>False
noncomputable def srV(v:MV)(M:MH)(Q:Src->MH->Prop):Prop:=(∃xs,(v=.tup xs\/v=.frl xs)/\Q (.tup xs) M)\/(∃a xs,v=.ref a/\M a=some (.lst xs)/\Q (.lst a xs) M)\/(∃a kvs,v=.ref a/\M a=some (.dic kvs)/\∀o,Q (.dic a o kvs) (updM M a (.fdic o kvs)))\/∃z,v=.str z/\Q (.str z) M
theorem ZoO{Φ:List (Str×SpM)}{e:IE}{σ:Sm}{R:Src->MH->Prop}:wSr Φ (.seq e) σ M R=wE Φ e σ M λv M1=>srV v M1 R:=rfl
theorem ZoI{R:Src->MH->Prop}:srV (.ref a) M R=srO (M a) a M R:=propext ⟨λh=>by
  rcases h with⟨xs,e,h⟩|⟨b,xs,e,f,h⟩|⟨b,xs,e,f,h⟩|⟨z,e,_⟩
  ·rcases e with e|e<;>cases e
  ·cases e;rw[f];exact h
  ·cases e;rw[f];exact h
  ·exact(nomatch e),λh=>by
  cases e:M a with
  |none=>rw[e]at h;exact h.elim
  |some o=>
   rw[e]at h;cases o with
   |lst xs=>exact .inr (.inl ⟨a,xs,rfl,e,h⟩)
   |dic kvs=>exact .inr (.inr (.inl ⟨a,kvs,rfl,e,h⟩))
   |ins _ _=>exact h.elim
   |fdic _ _=>exact h.elim⟩
theorem Zms{kvs:List (Key×MV)}{R:Src->MH->Prop}:srO (some (.dic kvs)) a M R=∀o,R (.dic a o kvs) (updM M a (.fdic o kvs)):=rfl
theorem ZoH{z:Str}{R:Src->MH->Prop}:srV (.str z) M R=R (.str z) M:=propext ⟨λh=>by
  rcases h with⟨xs,e,h⟩|⟨_,_,e,_⟩|⟨_,_,e,_⟩|⟨_,e,h⟩
  ·rcases e with e|e<;>exact(nomatch e)
  ·exact(nomatch e)
  ·exact(nomatch e)
  ·cases e;exact h,λh=>.inr (.inr (.inr ⟨z,rfl,h⟩))⟩
theorem Zov{x:Str}:Src.thaw M (.str x)=M:=rfl
theorem ZoT{x:Str}:Src.okT M (.str x)=True:=rfl
theorem Zoz{xs:List MV}:Src.thaw M (.tup xs)=M:=rfl
theorem Zoy{xs:List MV}:Src.thaw M (.lst a xs)=M:=rfl
theorem Zox{n:Nat}:Src.thaw M (.rng i n)=M:=rfl
theorem Zow{o:Obj}{kvs:List (Key×MV)}:Src.thaw M (.dic a o kvs)=updM M a (.dic kvs):=rfl
theorem ZoX{xs:List MV}:Src.okT M (.tup xs)=True:=rfl
theorem ZoW{xs:List MV}:Src.okT M (.lst a xs)=True:=rfl
theorem ZoV{n:Nat}:Src.okT M (.rng i n)=True:=rfl
theorem ZoU{o:Obj}{kvs:List (Key×MV)}:Src.okT M (.dic a o kvs)=(M a=some (.fdic o kvs)):=rfl
theorem Zmr{xs:List MV}{R:Src->MH->Prop}:srO (some (.lst xs)) a M R=R (.lst a xs) M:=rfl
theorem ZoG{zs:List MV}{R:Src->MH->Prop}:srV (.tup zs) M R=R (.tup zs) M:=propext ⟨λh=>by
  rcases h with⟨xs,e,h⟩|h
  ·rcases e with e|e
   ·cases e;exact h
   ·exact nomatch e
  ·rcases h with⟨_,_,e,_⟩|⟨_,_,e,_⟩|⟨_,e,_⟩<;>exact(nomatch e),λh=>.inl ⟨zs,.inl rfl,h⟩⟩
noncomputable def rgV(v:MV)(M:MH)(Q:Src->MH->Prop):Prop:=∃j,v=.int j/\ -(2^62)≤j/\j<2^62/\Q (.rng 0 j.toNat) M
theorem ZoP{Φ:List (Str×SpM)}{e:IE}{σ:Sm}{R:Src->MH->Prop}:wSr Φ (.rng e) σ M R=wE Φ e σ M λv M1=>rgV v M1 R:=rfl
theorem ZoQ{R:Src->MH->Prop}:rgV (.int i) M R=(-(2^62)≤i/\i<2^62/\R (.rng 0 i.toNat) M):=propext ⟨fun⟨_,e,h⟩=>by cases e;exact h,λh=>⟨i,rfl,h⟩⟩
noncomputable def rgV2(x y:MV)(M:MH)(Q:Src->MH->Prop):Prop:=∃i j,x=.int i/\y=.int j/\(-(2^62)≤i/\i<2^62/\ -(2^62)≤j/\j<2^62)/\Q (.rng i (j - i).toNat) M
theorem Zmu{Φ:List (Str×SpM)}{e f g:IE}{σ:Sm}{R:Src->MH->Prop}:wSr Φ (.rng3 e f g) σ M R=wE Φ e σ M λx M1=>wE Φ f σ M1 λy M2=>wE Φ g σ M2 λz M3=>∃i j,x=.int i/\y=.int j/\z=.int 2/\(0≤i/\i<2^60/\0≤j/\j<2^60)/\R (.rst i 2 (len2 i j)) M3:=rfl
theorem Zou{n:Nat}{st:Int}:Src.thaw M (.rst i st n)=M:=rfl
theorem ZoS{n:Nat}{st:Int}:Src.okT M (.rst i st n)=True:=rfl
theorem Zmv{Φ:List (Str×SpM)}{e f:IE}{σ:Sm}{R:Src->MH->Prop}:wSr Φ (.rng2 e f) σ M R=wE Φ e σ M λx M1=>wE Φ f σ M1 λy M2=>rgV2 x y M2 R:=rfl
theorem Zmw{R:Src->MH->Prop}:rgV2 (.int i) (.int j) M R=((-(2^62)≤i/\i<2^62/\ -(2^62)≤j/\j<2^62)/\R (.rng i (j - i).toNat) M):=propext ⟨fun⟨_,_,e,f,h⟩=>by cases e;cases f;exact h,λh=>⟨i,j,rfl,rfl,h⟩⟩
theorem ZmD:wBi .max [.int i,.int j] M Q=Q (.int (if j>i then j else i)) M:=rfl
theorem ZmB:wBi .min [.int i,.int j] M Q=Q (.int (if j<i then j else i)) M:=rfl
theorem ZmO:wBi .int [.int i] M Q=Q (.int i) M:=rfl
theorem ZmP{k:Bool}:wBi .int [.bl k] M Q=Q (.int (if k then 1 else 0)) M:=rfl
end
theorem v_s{v:MV}{k:MV->Prop}:onV (some (some v)) k=k v:=rfl
theorem b_0{b:Bool}{k:Bool->Prop}:onB (.bl b) k=k b:=rfl
theorem f_s{f:Str}{sp:SpM}{k:SpM->Prop}:onF (some (f,sp)) k=k sp:=rfl
theorem ZpC{Φ:List (Str×SpM)}{σ:Sm}{M:MH}{Q:QM}{i:Nat}:wE Φ (.var i) σ M Q=onV σ[i]? (λv=>Q v M):=rfl
theorem ZpK{Φ:List (Str×SpM)}{σ:Sm}{M:MH}{Q:QM}{i:Int}:wE Φ (.int i) σ M Q=(Q (.int i) M):=rfl
theorem ZpE{Φ:List (Str×SpM)}{σ:Sm}{M:MH}{Q:QM}{x:Str}:wE Φ (.str x) σ M Q=(Q (.str x) M):=rfl
theorem e_bl{Φ:List (Str×SpM)}{σ:Sm}{M:MH}{Q:QM}{b:Bool}:wE Φ (.bl b) σ M Q=(Q (.bl b) M):=rfl
theorem ZpH{Φ:List (Str×SpM)}{σ:Sm}{M:MH}{Q:QM}:wE Φ (.non) σ M Q=(Q .non M):=rfl
theorem ZpM{Φ:List (Str×SpM)}{σ:Sm}{M:MH}{Q:QM}{x:Str}{i:Int}:wE Φ (.glb x i) σ M Q=(Q (.int i) M):=rfl
theorem e_ty{Φ:List (Str×SpM)}{σ:Sm}{M:MH}{Q:QM}{c:Ty7}:wE Φ (.ty c) σ M Q=(Q (.ty c) M):=rfl
theorem ZpP{Φ:List (Str×SpM)}{σ:Sm}{M:MH}{Q:QM}{op:UJ}{a b:IE}:wE Φ (.bin op a b) σ M Q=(wE Φ a σ M λx M1=>wE Φ b σ M1 λy M2=>wBin op x y M2 Q):=rfl
theorem ZpI{Φ:List (Str×SpM)}{σ:Sm}{M:MH}{Q:QM}{a:IE}:wE Φ (.neg a) σ M Q=(wE Φ a σ M λx M1=>∃i,x=.int i/\Q (.int (-i)) M1):=rfl
theorem ZpG{Φ:List (Str×SpM)}{σ:Sm}{M:MH}{Q:QM}{a:IE}:wE Φ (.not a) σ M Q=(wE Φ a σ M λx M1=>onB x λb=>Q (.bl (!b)) M1):=rfl
theorem ZpN{Φ:List (Str×SpM)}{σ:Sm}{M:MH}{Q:QM}{op:Yw}{a b:IE}:wE Φ (.cmp op a b) σ M Q=(wE Φ a σ M λx M1=>wE Φ b σ M1 λy M2=>wCmp op x y M2 Q):=rfl
theorem ZpO{Φ:List (Str×SpM)}{σ:Sm}{M:MH}{Q:QM}{op op':Yw}{a b c:IE}:wE Φ (.chn op op' a b c) σ M Q=(wE Φ a σ M λx M1=>wE Φ b σ M1 λy M2=>wCmp op x y M2 λz M3=>onB z λk=>(if k=true then wE Φ c σ M3 λw M4=>wCmp op' y w M4 Q else Q (.bl false) M3)):=rfl
theorem ZpQ{Φ:List (Str×SpM)}{σ:Sm}{M:MH}{Q:QM}{a b:IE}:wE Φ (.and a b) σ M Q=(wE Φ a σ M λx M1=>onB x λc=>(if c=true then wE Φ b σ M1 Q else Q (.bl false) M1)):=rfl
theorem e_or{Φ:List (Str×SpM)}{σ:Sm}{M:MH}{Q:QM}{a b:IE}:wE Φ (.or a b) σ M Q=(wE Φ a σ M λx M1=>onB x λc=>(if c=true then Q (.bl true) M1 else wE Φ b σ M1 Q)):=rfl
theorem ZpL{Φ:List (Str×SpM)}{σ:Sm}{M:MH}{Q:QM}{a b c:IE}:wE Φ (.ife c a b) σ M Q=(wE Φ c σ M λx M1=>onB x λk=>(if k=true then wE Φ a σ M1 Q else wE Φ b σ M1 Q)):=rfl
theorem ZpD{Φ:List (Str×SpM)}{σ:Sm}{M:MH}{Q:QM}{es:IEs}:wE Φ (.tup es) σ M Q=(wEs Φ es σ M λvs M1=>vs.length≤sizeLine/\Q (.tup vs) M1):=rfl
theorem ZpJ{Φ:List (Str×SpM)}{σ:Sm}{M:MH}{Q:QM}{es:IEs}:wE Φ (.lst es) σ M Q=(wEs Φ es σ M λvs M1=>vs.length≤sizeLine/\∀p,M1 p=none->Q (.ref p) (updM M1 p (.lst vs))):=rfl
theorem e_ix{Φ:List (Str×SpM)}{σ:Sm}{M:MH}{Q:QM}{a b:IE}:wE Φ (.ix a b) σ M Q=(wE Φ a σ M λx M1=>wE Φ b σ M1 λy M2=>wIx x y M2 Q):=rfl
theorem e_sl{Φ:List (Str×SpM)}{σ:Sm}{M:MH}{Q:QM}{a:IE}{lo hi:IO}:wE Φ (.sl a lo hi) σ M Q=(wE Φ a σ M λx M1=>wO Φ lo σ M1 λl M2=>wO Φ hi σ M2 λh M3=>wSl x l h M3 Q):=rfl
theorem ZnR{Φ:List (Str×SpM)}{σ:Sm}{M:MH}{Q:QM}{j:Nat}{e:IE}{es:IEs}:wE Φ (.call j e es) σ M Q=(wE Φ e σ M λv M1=>wEs Φ es σ M1 λvs M2=>onF Φ[j]? λsp=>sp (v::vs) M2 Q):=rfl
theorem e_b2{Φ:List (Str×SpM)}{σ:Sm}{M:MH}{Q:QM}{f:B2}{e:IE}:wE Φ (.b2 f e) σ M Q=(wE Φ e σ M λv M1=>wB2 f v M1 Q):=rfl
theorem ZpF{Φ:List (Str×SpM)}{σ:Sm}{M:MH}{Q:QM}{e:IE}:wE Φ (.st3 e) σ M Q=(wE Φ e σ M λv M1=>wSt3 v M1 Q):=rfl
theorem ZoF{a:Addr}{M:MH}{Q:QM}:wSt3 (.ref a) M Q=(∃xs,M a=some (.lst xs)/\∀p,M p=none->Q (.ref p) (updM M p (.lst (st3 xs)))):=propext ⟨fun⟨_,xs,e,h⟩=>by cases e;exact⟨xs,h⟩,fun⟨xs,h⟩=>⟨a,xs,rfl,h⟩⟩
theorem e_bi{Φ:List (Str×SpM)}{σ:Sm}{M:MH}{Q:QM}{f:BI}{e:IE}{es:IEs}:wE Φ (.bi f e es) σ M Q=(wE Φ e σ M λv M1=>wEs Φ es σ M1 λvs M2=>wBi f (v::vs) M2 Q):=rfl
theorem e_mt{Φ:List (Str×SpM)}{σ:Sm}{M:MH}{Q:QM}{m:MT}{o:IE}{es:IEs}:wE Φ (.mt m o es) σ M Q=(wE Φ o σ M λx M1=>mtOk m x M1/\wEs Φ es σ M1 λvs M2=>wMts m x vs M2 Q):=rfl
theorem AA{Φ:List (Str×SpM)}{σ:Sm}{M:MH}{Q:QM}{own:List Str}{fr:List Nat}{src:ISr}{tg:ITg}{test:IO}{elt:IE}:wE Φ (.comp own fr src tg test elt) σ M Q=(wSr Φ src σ M λS M1=>S.len<sizeLine/\∀D,M1 D=none->∃J:Nat->List MV->MH->Prop,J 0 [] (updM M1 D (.lst []))/\
   (∀i ys M2,J i ys M2->M2 D=some (.lst ys)/\ys.length≤i/\S.ok M2)/\
   (∀i x ys M2,S.items[i]?=some x->J i ys M2->wTg tg x (sCm own fr σ) λσ2=>wI Φ test σ2 M2 λb M4=>
    if b=true then wE Φ elt σ2 M4 λy M5=>M5 D=some (.lst ys)/\J (i+1) (ys++[y]) (updM M5 D (.lst (ys++[y])))else J (i+1) ys M4)/\
   ∀ys M2,J S.len ys M2->Q (.ref D) (S.thaw M2)):=rfl
theorem AB{M M':MH}{S:Src}(h:S.okF M):S.thaw M'=M':=by
 cases S<;>first|rfl|exact h.elim
theorem UU{Φ:List (Str×SpM)}{own:List Str}{fr:List Nat}{src:ISr}{tg:ITg}{elt:IE}{σ:Sm}{M:MH}{Q:QM}{α:Type}(xs:List α)(f g:α->MV)
  (hs:wSr Φ src σ M λS M1=>S.items=xs.map f/\xs.length<sizeLine/\S.okF M1/\M1=M)
  (ht:∀x∈xs,∀M',(∀a o,M a=some o->M' a=some o)->wTg tg (f x) (sCm own fr σ) λσ2=>wE Φ elt σ2 M' λy M2=>y=g x/\M2=M')
  (hΦ:∀(j:Nat) f sp,Φ[j]?=some (f,sp)->MonW sp) (q:∀D,M D=none->Q (.ref D) (updM M D (.lst (xs.map g)))):wE Φ (.comp own fr src tg .none elt) σ M Q:=by
 rw[AA];refine mon_sr hΦ src (λS M1 ⟨h1,h2,h3,h4⟩=>?_) hs;subst h4;have hl:S.len=xs.length:=by rw[<- S.items_len,h1,X7]
 refine⟨by rw[hl];exact h2,λD hD=>⟨λi ys M2=>M2=updM M1 D (.lst ys)/\ys=(xs.take i).map g,⟨rfl,by simp⟩,?_,?_,?_⟩⟩
 ·rintro i ys M2 ⟨rfl,rfl⟩;refine⟨Xh,by rw[X7,Yz];lia,?_⟩
  cases S with
  |tup _=>trivial
  |rng _ _=>trivial
  |rst _ _ _=>trivial
  |dic _ _ _=>exact h3.elim
  |str _=>trivial
  |lst a zs=>
   have:a≠D:=by intro e;subst e;have h3:M1 a=some (.lst zs):=h3;rw[h3]at hD;cases hD
   show updM M1 D _ a=_;rw[XD this];exact h3
 ·rintro i x ys M2 hx ⟨rfl,rfl⟩;rw[h1]at hx;have hi:i<xs.length:=by have:=(XE.mp hx).1;rw[X7]at this;exact this
  rw[Xo,X8 hi]at hx;cases hx;refine Vh tg (λσ2 h=>?_) (ht xs[i] (XY hi) (updM M1 D (.lst ((xs.take i).map g))) (λa o e=>by
   rw[XD (by intro z;subst z;rw[e]at hD;cases hD)];exact e))
  rw[wI,if_pos rfl];refine Xc hΦ elt (λy M2 ⟨e1,e2⟩=>?_) h;subst e1 e2;refine⟨Xh,BV,?_⟩;rw[UM,X8 hi,YD]
  rfl
 ·rintro ys M2 ⟨rfl,rfl⟩;rw[hl,V7 (Xl _),AB h3];exact q D hD
theorem Jf{Φ:List (Str×SpM)}{own:List Str}{fr:List Nat}{src:ISr}{tg:ITg}{elt:IE}{σ:Sm}{M:MH}{Q:QM}{α:Type}(xs:List α)(f g:α->MV)
  (hs:wSr Φ src σ M λS M1=>S.items=xs.map f/\xs.length<sizeLine/\S.okF M1/\∀a o,M a=some o->M1 a=some o)
  (ht:∀x∈xs,∀M',(∀a o,M a=some o->M' a=some o)->wTg tg (f x) (sCm own fr σ) λσ2=>wE Φ elt σ2 M' λy M2=>y=g x/\∀a o,M' a=some o->M2 a=some o)
  (hΦ:∀(j:Nat) f sp,Φ[j]?=some (f,sp)->MonW sp) (q:∀D M',M D=none->(∀a o,M a=some o->M' a=some o)->M' D=some (.lst (xs.map g))->Q (.ref D) M'):wE Φ (.comp own fr src tg .none elt) σ M Q:=by
 rw[AA];refine mon_sr hΦ src (λS M1 ⟨h1,h2,h3,h4⟩=>?_) hs;have hl:S.len=xs.length:=by rw[<- S.items_len,h1,X7]
 have fre:∀D,M1 D=none->M D=none:=λD hD=>by
  cases e:M D with
  |none=>rfl
  |some o=>rw[h4 _ _ e]at hD;cases hD
 have ne:∀{a D:Addr} {o:MO},M1 a=some o->M1 D=none->a≠D:=λh h' z=>by subst z;rw[h]at h';cases h'
 refine⟨by rw[hl];exact h2,λD hD=>⟨λi ys M2=>(∀a o,M1 a=some o->M2 a=some o)/\M2 D=some (.lst ys)/\ys=(xs.take i).map g,⟨λa o e=>by rw[XD (ne e hD)];exact e,Xh,by simp⟩,?_,?_,?_⟩⟩
 ·rintro i ys M2 ⟨s2,d2,rfl⟩;refine⟨d2,by rw[X7,Yz];lia,?_⟩
  cases S with
  |tup _=>trivial
  |rng _ _=>trivial
  |rst _ _ _=>trivial
  |dic _ _ _=>exact h3.elim
  |str _=>trivial
  |lst a zs=>exact s2 _ _ h3
 ·rintro i x ys M2 hx ⟨s2,d2,rfl⟩;rw[h1]at hx;have hi:i<xs.length:=by have:=(XE.mp hx).1;rw[X7]at this;exact this
  rw[Xo,X8 hi]at hx;cases hx;refine Vh tg (λσ2 h=>?_) (ht xs[i] (XY hi) M2 (λa o e=>s2 _ _ (h4 _ _ e)));rw[wI,if_pos rfl];refine Xc hΦ elt (λy M3 ⟨e1,e2⟩=>?_) h;subst e1;refine⟨e2 _ _ d2,λa o e=>by rw[XD (ne e hD)];exact e2 _ _ (s2 _ _ e),Xh,?_⟩
  rw[UM,X8 hi,YD]
  rfl
 ·rintro ys M2 ⟨s2,d2,rfl⟩;rw[hl,V7 (Xl _)]at d2;rw[AB h3];exact q D M2 (fre D hD) (λa o e=>s2 _ _ (h4 _ _ e)) d2
theorem ZoD{i:Nat}{v:MV}{σ:Sm}{R:Sm->Prop}:wTg (.nm i) v σ R=R (σ.set i (some v)):=rfl
theorem ZoA{ts:ITgs}{xs:List MV}{σ:Sm}{R:Sm->Prop}:wTg (.tup ts) (.tup xs) σ R=wTgs ts xs σ R:=by
 exact propext ⟨fun⟨_,e,h⟩=>by cases e;exact h,λh=>⟨_,rfl,h⟩⟩
theorem ZoC{t:ITg}{ts:ITgs}{v:MV}{r:List MV}{σ:Sm}{R:Sm->Prop}:wTgs (.cons t ts) (v::r) σ R=wTg t v σ λσ'=>wTgs ts r σ' R:=by
 exact propext ⟨fun⟨_,_,e,h⟩=>by cases e;exact h,λh=>⟨_,_,rfl,h⟩⟩
theorem ZoB{σ:Sm}{R:Sm->Prop}:wTgs .nil [] σ R=R σ:=propext ⟨λh=>h.2,λh=>⟨rfl,h⟩⟩
theorem Jg{κ:Type} [DecidableEq κ] {k:κ}{v:MV}:∀{kvs:List (κ×MV)},(kvs.map (·.1)).Nodup->(k,v)∈kvs->valM kvs k=some v
 |(j,u)::r,nd,h=>by
  rw[XA,YH]at nd;unfold valM;rcases Xu.mp h with e|h
  ·cases e;rw[if_pos rfl]
  ·rw[if_neg (λe=>nd.1 (by subst e;exact XU.mpr ⟨(j,v),h,rfl⟩)),Jg nd.2 h]
section
variable{M:MH}
theorem Alike.dicFlat{a b:Addr}{kvs:List (Key×MV)}(n:Nat)(h1:M a=some (.dic kvs))(h2:M b=some (.dic kvs))(nd:(kvs.map (·.1)).Nodup)(f:∀p∈kvs,Yv p.2=true):Alike M (n+1) (.ref a) (.ref b):=
 .dic h1 h2 rfl λk u m=>⟨u,Jg nd m,.flat n (f _ m)⟩
theorem Alike.lstFlat{x y:MV}{xs:List MV}(n:Nat)(h1:LstM M x xs)(h2:LstM M y xs)(f:∀v∈xs,Yv v=true):Alike M (n+1) x y:=
 .lst h1 h2 rfl λi u v e e'=>by
  rw[e]at e';cases e';exact .flat n (f u (XG e))
end
section
variable{Φ:List (Str×SpM)}{D:EndM}{σ:Sm}{M:MH}
theorem Zof:wSs Φ .nil D σ M=D.nx σ M:=rfl
theorem Zmf{s:IS}{r:ISs}:wSs Φ (.cons s r) D σ M=wS Φ s {nx:=λσ M=>wSs Φ r D σ M,rt:=D.rt,bk:=D.bk,ct:=D.ct} σ M:=rfl
theorem Zmd:wS Φ .pass D σ M=D.nx σ M:=rfl
theorem Zoj:wS Φ .brk D σ M=D.bk σ M:=rfl
theorem Zoi:wS Φ .cnt D σ M=D.ct σ M:=rfl
theorem Zkc:wS Φ .never D σ M=False:=rfl
theorem Zod{e:IE}:wS Φ (.ret e) D σ M=wE Φ e σ M D.rt:=rfl
theorem Zmc:wS Φ .retN D σ M=D.rt .non M:=rfl
theorem Zoc{i:Nat}{e:IE}:wS Φ (.set i e) D σ M=wE Φ e σ M λv M1=>D.nx (σ.set i (some v)) M1:=rfl
theorem Zok{t:ITgs}{e:IE}:wS Φ (.asg t e) D σ M=wE Φ e σ M λv M1=>∃xs,v=.tup xs/\wTgs t xs σ λσ'=>D.nx σ' M1:=rfl
theorem Zoe{o i e:IE}:wS Φ (.put o i e) D σ M=wE Φ e σ M λv M1=>wE Φ o σ M1 λx M2=>wE Φ i σ M2 λy M3=>wPut x y v M3 λM4=>D.nx σ M4:=rfl
theorem Zme{e:IE}:wS Φ (.expr e) D σ M=wE Φ e σ M λ_ M1=>D.nx σ M1:=rfl
theorem Zog{c:IE}{a b:ISs}:wS Φ (.ite c a b) D σ M=wE Φ c σ M λx M1=>onB x λk=>(if k=true then wSs Φ a D σ M1 else wSs Φ b D σ M1):=rfl
theorem Zoh{t:ITg}{s:ISr}{b:ISs}:wS Φ (.for_ t s b) D σ M=wSr Φ s σ M λS M1=>∃J:Nat->Sm->MH->Prop,J 0 σ M1/\(∀i σ M,J i σ M->S.ok M)/\
   (∀i x σ M,S.items[i]?=some x->J i σ M->wTg t x σ λσ2=>wSs Φ b {nx:=J (i+1),rt:=λv M=>S.okT M/\D.rt v (S.thaw M),bk:=λσ M=>S.okT M/\D.nx σ (S.thaw M),ct:=J (i+1)} σ2 M)/\∀σ M,J S.len σ M->D.nx σ (S.thaw M):=rfl
theorem Zkb{c:IE}{b:ISs}:wS Φ (.while_ c b) D σ M=∃J:Nat->Sm->MH->Prop,(∃m,J m σ M)/\∀m σ M,J m σ M->wE Φ c σ M λx M1=>∃k,x=.bl k/\
   (if k=true then wSs Φ b {nx:=λσ' M'=>∃m',m'<m/\J m' σ' M',rt:=D.rt,bk:=D.nx,ct:=λσ' M'=>∃m',m'<m/\J m' σ' M'} σ M1 else D.nx σ M1):=rfl
theorem Znk{Q:Option Int->MH->Prop}:wO Φ .none σ M Q=Q none M:=rfl
theorem Znj{e:IE}{Q:Option Int->MH->Prop}:wO Φ (.some e) σ M Q=wE Φ e σ M λv M1=>∃i,v=.int i/\Q (some i) M1:=rfl
theorem ZnN{Q:Bool->MH->Prop}:wI Φ .none σ M Q=Q true M:=rfl
theorem ZnM{e:IE}{Q:Bool->MH->Prop}:wI Φ (.some e) σ M Q=wE Φ e σ M λv M1=>∃b,v=.bl b/\Q b M1:=rfl
theorem ZnQ{Q:List MV->MH->Prop}:wEs Φ .nil σ M Q=Q [] M:=rfl
theorem Zlx{e:IE}{es:IEs}{Q:List MV->MH->Prop}:wEs Φ (.cons e es) σ M Q=wE Φ e σ M λv M1=>wEs Φ es σ M1 λvs M2=>Q (v::vs) M2:=rfl
theorem ZmY{Q:List (Key×MV)->MH->Prop}:wPs Φ .nil σ M Q=Q [] M:=rfl
theorem Zku{k v:IE}{r:IPs}{Q:List (Key×MV)->MH->Prop}:wPs Φ (.cons k v r) σ M Q=wE Φ k σ M λx M1=>∃kk,keyM x=some kk/\wE Φ v σ M1 λy M2=>wPs Φ r σ M2 λl M3=>Q ((kk,y)::l) M3:=rfl
end
section
variable{Φ:List (Str×SpM)}{σ σ':Sm}{M M':MH}{Q:QM}{x x' y y' z z':MV}{o o':Option MO}{vs vs':List MV}
end
end L2
namespace My
open PySem L2
noncomputable def top(i:Nat):Stmt:=PySem.Challenge.pw_bellferry_k28_whole_standing_still.main.body.getD i (.Pass ⟨0,0,0,0⟩)
noncomputable abbrev Ze:Stmt:=top 2
noncomputable abbrev Zf:Stmt:=top 3
noncomputable abbrev Zg:Stmt:=top 4
noncomputable abbrev Zh:Stmt:=top 5
noncomputable abbrev Zi:Stmt:=top 6
noncomputable abbrev Zj:Stmt:=top 8
noncomputable abbrev Zk:Stmt:=top 9
noncomputable abbrev Zl:Stmt:=top 10
noncomputable abbrev Zm:Stmt:=top 11
noncomputable abbrev Zn:Stmt:=top 12
noncomputable abbrev Zo:Stmt:=top 13
noncomputable abbrev Zp:Stmt:=top 15
noncomputable abbrev Zq:Stmt:=top 16
noncomputable abbrev Zr:Stmt:=top 17
noncomputable abbrev Zs:Stmt:=top 18
noncomputable abbrev Zt:Stmt:=top 39
noncomputable abbrev Zu:Stmt:=top 40
noncomputable abbrev Zv:Stmt:=top 41
noncomputable abbrev Zw:Stmt:=top 42
noncomputable abbrev Zx:Stmt:=top 43
noncomputable abbrev Zy:Stmt:=top 44
noncomputable abbrev Zz:Stmt:=top 45
noncomputable abbrev ZA:Stmt:=top 46
noncomputable abbrev ZB:Stmt:=top 47
noncomputable abbrev ZC:Stmt:=top 48
noncomputable abbrev ZD:Stmt:=top 49
noncomputable abbrev ZE:Stmt:=top 50
noncomputable abbrev ZF:Stmt:=top 51
noncomputable abbrev ZG:Stmt:=top 52
noncomputable abbrev ZH:Stmt:=top 53
noncomputable abbrev ZI:Stmt:=top 54
noncomputable abbrev ZJ:Stmt:=top 55
noncomputable abbrev ZK:Stmt:=top 57
noncomputable abbrev ZL:Stmt:=top 58
noncomputable abbrev ZM:Stmt:=top 59
noncomputable abbrev ZN:Stmt:=top 60
noncomputable abbrev ZO:Stmt:=top 61
noncomputable abbrev ZP:Stmt:=top 62
noncomputable abbrev ZQ:Stmt:=top 63
noncomputable abbrev ZR:Stmt:=top 64
noncomputable abbrev ZS:Stmt:=top 65
noncomputable abbrev ZT:Stmt:=top 67
noncomputable abbrev ZU:Stmt:=top 68
noncomputable abbrev ZV:Stmt:=top 69
noncomputable abbrev ZW:Stmt:=top 70
noncomputable abbrev ZX:Stmt:=top 71
noncomputable abbrev ZY:Stmt:=top 72
noncomputable abbrev ZZ:Stmt:=top 73
noncomputable abbrev U0:Stmt:=top 74
noncomputable abbrev U4:Stmt:=top 75
noncomputable abbrev U5:Stmt:=top 76
noncomputable abbrev YS:Stmt:=top 77
set_option genInjectivity false in
set_option genSizeOf false in
structure Adr where
 f_is_whole:Addr
 d_is_whole:Xn
 f_is_width:Addr
 d_is_width:Xn
 f_two_to:Addr
 d_two_to:Xn
 f_fits:Addr
 d_fits:Xn
 f_cut:Addr
 d_cut:Xn
 f_parts_within:Addr
 d_parts_within:Xn
 f_size_of:Addr
 d_size_of:Xn
 f_names_read:Addr
 d_names_read:Xn
 f_vars_in:Addr
 d_vars_in:Xn
 f_worth_of_two:Addr
 d_worth_of_two:Xn
 f_worth:Addr
 d_worth:Xn
 f_wish:Addr
 d_wish:Xn
 f_number_after:Addr
 d_number_after:Xn
 f_words_after:Addr
 d_words_after:Xn
 f_after:Addr
 d_after:Xn
 f_is_name:Addr
 d_is_name:Xn
 f_refuse_name:Addr
 d_refuse_name:Xn
 f_refuse_unknown:Addr
 d_refuse_unknown:Xn
 f_refuse_ferry_names:Addr
 d_refuse_ferry_names:Xn
 f_refuse_variables:Addr
 d_refuse_variables:Xn
 f_refuse_term:Addr
 d_refuse_term:Xn
 f_refuse_step:Addr
 d_refuse_step:Xn
 f_refuse_island:Addr
 d_refuse_island:Xn
 f_refuse_islands:Addr
 d_refuse_islands:Xn
 f_refuse_ferry:Addr
 d_refuse_ferry:Xn
 f_refuse_wrong_end:Addr
 d_refuse_wrong_end:Xn
 f_refuse_wrong_ends:Addr
 d_refuse_wrong_ends:Xn
 f_frozen:Addr
 d_frozen:Xn
 f_made:Addr
 d_made:Xn
 f_one_called:Addr
 d_one_called:Xn
 f_island_of:Addr
 d_island_of:Xn
 f_ferry_of:Addr
 d_ferry_of:Xn
 f_first_stand:Addr
 d_first_stand:Xn
 f_copy_of:Addr
 d_copy_of:Xn
 f_wish_of:Addr
 d_wish_of:Xn
 f_can_be:Addr
 d_can_be:Xn
 f_do_step:Addr
 d_do_step:Xn
 f_round_of:Addr
 d_round_of:Xn
 f_run_plain:Addr
 d_run_plain:Xn
 f_waits_for:Addr
 d_waits_for:Xn
 f_chain:Addr
 d_chain:Xn
 f__law_cell:Addr
 d__law_cell:Xn
 f__law_mix:Addr
 d__law_mix:Xn
 f__law_names:Addr
 d__law_names:Xn
 f__law_word:Addr
 d__law_word:Xn
 f__law_term:Addr
 d__law_term:Xn
 f__law_step:Addr
 d__law_step:Xn
 f__law_ferries:Addr
 d__law_ferries:Xn
 f__law_world:Addr
 d__law_world:Xn
 f__law_made:Addr
 d__law_made:Xn
 f__law_ends_well:Addr
 d__law_ends_well:Xn
 f_law:Addr
 d_law:Xn
structure Txt (K:X6) (mg:Str->Option X0) (t:Adr):Prop where
 F_is_whole:Fun K "is_whole" "is_whole" Ze t.f_is_whole t.d_is_whole
 b_is_whole:Binds K t.d_is_whole ["value"] []
 m_is_whole:mg "is_whole"=some (.ref t.f_is_whole)
 F_is_width:Fun K "is_width" "is_width" Zf t.f_is_width t.d_is_width
 b_is_width:Binds K t.d_is_width ["number"] []
 m_is_width:mg "is_width"=some (.ref t.f_is_width)
 F_two_to:Fun K "two_to" "two_to" Zg t.f_two_to t.d_two_to
 b_two_to:Binds K t.d_two_to ["exponent"] []
 m_two_to:mg "two_to"=some (.ref t.f_two_to)
 F_fits:Fun K "fits" "fits" Zh t.f_fits t.d_fits
 b_fits:Binds K t.d_fits ["width","number"] []
 m_fits:mg "fits"=some (.ref t.f_fits)
 F_cut:Fun K "cut" "cut" Zi t.f_cut t.d_cut
 b_cut:Binds K t.d_cut ["width","number"] []
 m_cut:mg "cut"=some (.ref t.f_cut)
 F_parts_within:Fun K "parts_within" "parts_within" Zj t.f_parts_within t.d_parts_within
 b_parts_within:Binds K t.d_parts_within ["T"] []
 m_parts_within:mg "parts_within"=some (.ref t.f_parts_within)
 F_size_of:Fun K "size_of" "size_of" Zk t.f_size_of t.d_size_of
 b_size_of:Binds K t.d_size_of ["T"] []
 m_size_of:mg "size_of"=some (.ref t.f_size_of)
 F_names_read:Fun K "names_read" "names_read" Zl t.f_names_read t.d_names_read
 b_names_read:Binds K t.d_names_read ["T"] []
 m_names_read:mg "names_read"=some (.ref t.f_names_read)
 F_vars_in:Fun K "vars_in" "vars_in" Zm t.f_vars_in t.d_vars_in
 b_vars_in:Binds K t.d_vars_in ["T"] []
 m_vars_in:mg "vars_in"=some (.ref t.f_vars_in)
 F_worth_of_two:Fun K "worth_of_two" "worth_of_two" Zn t.f_worth_of_two t.d_worth_of_two
 b_worth_of_two:Binds K t.d_worth_of_two ["form","left","right","width"] []
 m_worth_of_two:mg "worth_of_two"=some (.ref t.f_worth_of_two)
 F_worth:Fun K "worth" "worth" Zo t.f_worth t.d_worth
 b_worth:Binds K t.d_worth ["T","width","words"] []
 m_worth:mg "worth"=some (.ref t.f_worth)
 F_wish:Fun K "wish" "wish" Zp t.f_wish t.d_wish
 b_wish:Binds K t.d_wish ["width","steps","number","words"] []
 m_wish:mg "wish"=some (.ref t.f_wish)
 F_number_after:Fun K "number_after" "number_after" Zq t.f_number_after t.d_number_after
 b_number_after:Binds K t.d_number_after ["width","steps","number","words"] []
 m_number_after:mg "number_after"=some (.ref t.f_number_after)
 F_words_after:Fun K "words_after" "words_after" Zr t.f_words_after t.d_words_after
 b_words_after:Binds K t.d_words_after ["width","step","words","word"] []
 m_words_after:mg "words_after"=some (.ref t.f_words_after)
 F_after:Fun K "after" "after" Zs t.f_after t.d_after
 b_after:Binds K t.d_after ["width","steps","number","words","word"] []
 m_after:mg "after"=some (.ref t.f_after)
 F_is_name:Fun K "is_name" "is_name" Zt t.f_is_name t.d_is_name
 b_is_name:Binds K t.d_is_name ["text"] []
 m_is_name:mg "is_name"=some (.ref t.f_is_name)
 F_refuse_name:Fun K "refuse_name" "refuse_name" Zu t.f_refuse_name t.d_refuse_name
 b_refuse_name:Binds K t.d_refuse_name ["text","earlier"] []
 m_refuse_name:mg "refuse_name"=some (.ref t.f_refuse_name)
 F_refuse_unknown:Fun K "refuse_unknown" "refuse_unknown" Zv t.f_refuse_unknown t.d_refuse_unknown
 b_refuse_unknown:Binds K t.d_refuse_unknown ["name","known"] []
 m_refuse_unknown:mg "refuse_unknown"=some (.ref t.f_refuse_unknown)
 F_refuse_ferry_names:Fun K "refuse_ferry_names" "refuse_ferry_names" Zw t.f_refuse_ferry_names t.d_refuse_ferry_names
 b_refuse_ferry_names:Binds K t.d_refuse_ferry_names ["ferries"] []
 m_refuse_ferry_names:mg "refuse_ferry_names"=some (.ref t.f_refuse_ferry_names)
 F_refuse_variables:Fun K "refuse_variables" "refuse_variables" Zx t.f_refuse_variables t.d_refuse_variables
 b_refuse_variables:Binds K t.d_refuse_variables ["width","pairs"] []
 m_refuse_variables:mg "refuse_variables"=some (.ref t.f_refuse_variables)
 F_refuse_term:Fun K "refuse_term" "refuse_term" Zy t.f_refuse_term t.d_refuse_term
 b_refuse_term:Binds K t.d_refuse_term ["T","known"] []
 m_refuse_term:mg "refuse_term"=some (.ref t.f_refuse_term)
 F_refuse_step:Fun K "refuse_step" "refuse_step" Zz t.f_refuse_step t.d_refuse_step
 b_refuse_step:Binds K t.d_refuse_step ["step","known","count","ferry_names"] []
 m_refuse_step:mg "refuse_step"=some (.ref t.f_refuse_step)
 F_refuse_island:Fun K "refuse_island" "refuse_island" ZA t.f_refuse_island t.d_refuse_island
 b_refuse_island:Binds K t.d_refuse_island ["width","island","ferry_names"] []
 m_refuse_island:mg "refuse_island"=some (.ref t.f_refuse_island)
 F_refuse_islands:Fun K "refuse_islands" "refuse_islands" ZB t.f_refuse_islands t.d_refuse_islands
 b_refuse_islands:Binds K t.d_refuse_islands ["width","islands","ferry_names"] []
 m_refuse_islands:mg "refuse_islands"=some (.ref t.f_refuse_islands)
 F_refuse_ferry:Fun K "refuse_ferry" "refuse_ferry" ZC t.f_refuse_ferry t.d_refuse_ferry
 b_refuse_ferry:Binds K t.d_refuse_ferry ["ferry","island_names"] []
 m_refuse_ferry:mg "refuse_ferry"=some (.ref t.f_refuse_ferry)
 F_refuse_wrong_end:Fun K "refuse_wrong_end" "refuse_wrong_end" ZD t.f_refuse_wrong_end t.d_refuse_wrong_end
 b_refuse_wrong_end:Binds K t.d_refuse_wrong_end ["name","step","givers","takers"] []
 m_refuse_wrong_end:mg "refuse_wrong_end"=some (.ref t.f_refuse_wrong_end)
 F_refuse_wrong_ends:Fun K "refuse_wrong_ends" "refuse_wrong_ends" ZE t.f_refuse_wrong_ends t.d_refuse_wrong_ends
 b_refuse_wrong_ends:Binds K t.d_refuse_wrong_ends ["islands","ferries"] []
 m_refuse_wrong_ends:mg "refuse_wrong_ends"=some (.ref t.f_refuse_wrong_ends)
 F_frozen:Fun K "frozen" "frozen" ZF t.f_frozen t.d_frozen
 b_frozen:Binds K t.d_frozen ["value"] []
 m_frozen:mg "frozen"=some (.ref t.f_frozen)
 F_made:Fun K "made" "made" ZG t.f_made t.d_made
 b_made:Binds K t.d_made ["width","islands","ferries"] []
 m_made:mg "made"=some (.ref t.f_made)
 F_one_called:Fun K "one_called" "one_called" ZH t.f_one_called t.d_one_called
 b_one_called:Binds K t.d_one_called ["row","name"] []
 m_one_called:mg "one_called"=some (.ref t.f_one_called)
 F_island_of:Fun K "island_of" "island_of" ZI t.f_island_of t.d_island_of
 b_island_of:Binds K t.d_island_of ["world","name"] []
 m_island_of:mg "island_of"=some (.ref t.f_island_of)
 F_ferry_of:Fun K "ferry_of" "ferry_of" ZJ t.f_ferry_of t.d_ferry_of
 b_ferry_of:Binds K t.d_ferry_of ["world","name"] []
 m_ferry_of:mg "ferry_of"=some (.ref t.f_ferry_of)
 F_first_stand:Fun K "first_stand" "first_stand" ZK t.f_first_stand t.d_first_stand
 b_first_stand:Binds K t.d_first_stand ["world"] []
 m_first_stand:mg "first_stand"=some (.ref t.f_first_stand)
 F_copy_of:Fun K "copy_of" "copy_of" ZL t.f_copy_of t.d_copy_of
 b_copy_of:Binds K t.d_copy_of ["stand"] []
 m_copy_of:mg "copy_of"=some (.ref t.f_copy_of)
 F_wish_of:Fun K "wish_of" "wish_of" ZM t.f_wish_of t.d_wish_of
 b_wish_of:Binds K t.d_wish_of ["world","stand","name"] []
 m_wish_of:mg "wish_of"=some (.ref t.f_wish_of)
 F_can_be:Fun K "can_be" "can_be" ZN t.f_can_be t.d_can_be
 b_can_be:Binds K t.d_can_be ["world","stand","asked"] []
 m_can_be:mg "can_be"=some (.ref t.f_can_be)
 F_do_step:Fun K "do_step" "do_step" ZO t.f_do_step t.d_do_step
 b_do_step:Binds K t.d_do_step ["world","stand","name","asked","behind"] []
 m_do_step:mg "do_step"=some (.ref t.f_do_step)
 F_round_of:Fun K "round_of" "round_of" ZP t.f_round_of t.d_round_of
 b_round_of:Binds K t.d_round_of ["world","stand"] []
 m_round_of:mg "round_of"=some (.ref t.f_round_of)
 F_run_plain:Fun K "run_plain" "run_plain" ZQ t.f_run_plain t.d_run_plain
 b_run_plain:Binds K t.d_run_plain ["world","n"] []
 m_run_plain:mg "run_plain"=some (.ref t.f_run_plain)
 F_waits_for:Fun K "waits_for" "waits_for" ZR t.f_waits_for t.d_waits_for
 b_waits_for:Binds K t.d_waits_for ["world","stand","name"] []
 m_waits_for:mg "waits_for"=some (.ref t.f_waits_for)
 F_chain:Fun K "chain" "chain" ZS t.f_chain t.d_chain
 b_chain:Binds K t.d_chain ["world","stand","name"] []
 m_chain:mg "chain"=some (.ref t.f_chain)
 F__law_cell:Fun K "_law_cell" "_law_cell" ZT t.f__law_cell t.d__law_cell
 b__law_cell:Binds K t.d__law_cell ["script","k"] []
 m__law_cell:mg "_law_cell"=some (.ref t.f__law_cell)
 F__law_mix:Fun K "_law_mix" "_law_mix" ZU t.f__law_mix t.d__law_mix
 b__law_mix:Binds K t.d__law_mix ["number","salt"] []
 m__law_mix:mg "_law_mix"=some (.ref t.f__law_mix)
 F__law_names:Fun K "_law_names" "_law_names" ZV t.f__law_names t.d__law_names
 b__law_names:Binds K t.d__law_names ["number","many"] []
 m__law_names:mg "_law_names"=some (.ref t.f__law_names)
 F__law_word:Fun K "_law_word" "_law_word" ZW t.f__law_word t.d__law_word
 b__law_word:Binds K t.d__law_word ["number","width"] []
 m__law_word:mg "_law_word"=some (.ref t.f__law_word)
 F__law_term:Fun K "_law_term" "_law_term" ZX t.f__law_term t.d__law_term
 b__law_term:Binds K t.d__law_term ["number","own","deep"] []
 m__law_term:mg "_law_term"=some (.ref t.f__law_term)
 F__law_step:Fun K "_law_step" "_law_step" ZY t.f__law_step t.d__law_step
 b__law_step:Binds K t.d__law_step ["number","name","ferries","own","many"] []
 m__law_step:mg "_law_step"=some (.ref t.f__law_step)
 F__law_ferries:Fun K "_law_ferries" "_law_ferries" ZZ t.f__law_ferries t.d__law_ferries
 b__law_ferries:Binds K t.d__law_ferries ["number","names","many"] []
 m__law_ferries:mg "_law_ferries"=some (.ref t.f__law_ferries)
 F__law_world:Fun K "_law_world" "_law_world" U0 t.f__law_world t.d__law_world
 b__law_world:Binds K t.d__law_world ["script","start"] []
 m__law_world:mg "_law_world"=some (.ref t.f__law_world)
 F__law_made:Fun K "_law_made" "_law_made" U4 t.f__law_made t.d__law_made
 b__law_made:Binds K t.d__law_made ["parts"] []
 m__law_made:mg "_law_made"=some (.ref t.f__law_made)
 F__law_ends_well:Fun K "_law_ends_well" "_law_ends_well" U5 t.f__law_ends_well t.d__law_ends_well
 b__law_ends_well:Binds K t.d__law_ends_well ["row","idle","names"] []
 m__law_ends_well:mg "_law_ends_well"=some (.ref t.f__law_ends_well)
 F_law:Fun K "law" "law" YS t.f_law t.d_law
 b_law:Binds K t.d_law ["script"] []
 m_law:mg "law"=some (.ref t.f_law)
 z_all:mg "all"=none
 z_bool:mg "bool"=none
 z_dict:mg "dict"=none
 z_int:mg "int"=none
 z_isinstance:mg "isinstance"=none
 z_len:mg "len"=none
 z_list:mg "list"=none
 z_max:mg "max"=none
 z_min:mg "min"=none
 z_range:mg "range"=none
 z_set:mg "set"=none
 z_sorted:mg "sorted"=none
 z_tuple:mg "tuple"=none
 c_MOST_WIDTH:∃tk,mg "MOST_WIDTH"=some (.int 64 tk)
 c_MOST_LETTERS:∃tk,mg "MOST_LETTERS"=some (.int 8 tk)
 c_MOST_ISLANDS:∃tk,mg "MOST_ISLANDS"=some (.int 5 tk)
 c_MOST_FERRIES:∃tk,mg "MOST_FERRIES"=some (.int 6 tk)
 c_MOST_VARS:∃tk,mg "MOST_VARS"=some (.int 6 tk)
 c_MOST_STEPS:∃tk,mg "MOST_STEPS"=some (.int 12 tk)
 c_MOST_PARTS:∃tk,mg "MOST_PARTS"=some (.int 30 tk)
 c_MOST_DEPTH:∃tk,mg "MOST_DEPTH"=some (.int 8 tk)
 c_MOST_K:∃tk,mg "MOST_K"=some (.int 3 tk)
 c_MOST_STAGES:∃tk,mg "MOST_STAGES"=some (.int 3 tk)
theorem Zdb:FnScope ["value"] ["value"] (X2 Ze):=mkSc
theorem Zda:FnScope ["number"] ["number"] (X2 Zf):=mkSc
theorem Zg0:FnScope ["exponent","answer","k"] ["exponent"] (X2 Zg):=mkSc
theorem Zka:FnScope ["width","number"] ["width","number"] (X2 Zh):=mkSc
theorem Zmb:FnScope ["width","number"] ["width","number"] (X2 Zi):=mkSc
theorem Z8P:FnScope ["T"] ["T"] (X2 Zj):=mkSc
theorem ZeR:FnScope ["T","parts","deepest","part","size"] ["T"] (X2 Zk):=mkSc
theorem Zba:FnScope ["T","names","part"] ["T"] (X2 Zl):=mkSc
theorem ZeQ:FnScope ["T"] ["T"] (X2 Zm):=mkSc
theorem Z8N:FnScope ["form","left","right","width"] ["form","left","right","width"] (X2 Zn):=mkSc
theorem ZhZ:FnScope ["T","width","words","first"] ["T","width","words"] (X2 Zo):=mkSc
theorem Zk8:FnScope ["width","steps","number","words","step"] ["width","steps","number","words"] (X2 Zp):=mkSc
theorem Z8Q:FnScope ["width","steps","number","words","step"] ["width","steps","number","words"] (X2 Zq):=mkSc
theorem Z9T:FnScope ["width","step","words","word","behind"] ["width","step","words","word"] (X2 Zr):=mkSc
theorem Zi1:FnScope ["width","steps","number","words","word"] ["width","steps","number","words","word"] (X2 Zs):=mkSc
theorem ZeS:FnScope ["text"] ["text"] (X2 Zt):=mkSc
theorem Z9W:FnScope ["text","earlier"] ["text","earlier"] (X2 Zu):=mkSc
theorem Z7m:FnScope ["name","known"] ["name","known"] (X2 Zv):=mkSc
theorem Z4h:FnScope ["ferries","earlier","ferry"] ["ferries"] (X2 Zw):=mkSc
theorem Z66:FnScope ["width","pairs","earlier","pair","name"] ["width","pairs"] (X2 Zx):=mkSc
theorem Z9U:FnScope ["T","known","size","name"] ["T","known"] (X2 Zy):=mkSc
theorem Z9V:FnScope ["step","known","count","ferry_names"] ["step","known","count","ferry_names"] (X2 Zz):=mkSc
theorem Z8t:FnScope ["width","island","ferry_names","known","step"] ["width","island","ferry_names"] (X2 ZA):=mkSc
theorem Z7n:FnScope ["width","islands","ferry_names","earlier","island"] ["width","islands","ferry_names"] (X2 ZB):=mkSc
theorem Z8O:FnScope ["ferry","island_names"] ["ferry","island_names"] (X2 ZC):=mkSc
theorem Z65:FnScope ["name","step","givers","takers"] ["name","step","givers","takers"] (X2 ZD):=mkSc
theorem Z5g:FnScope ["islands","ferries","givers","takers","island","step"] ["islands","ferries"] (X2 ZE):=mkSc
theorem Jh:FnScope ["value"] ["value"] (X2 ZF):=mkSc
theorem Zk9:FnScope ["width","islands","ferries","island_names","ferry"] ["width","islands","ferries"] (X2 ZG):=mkSc
theorem Zb9:FnScope ["row","name","one"] ["row","name"] (X2 ZH):=mkSc
theorem ZbP:FnScope ["world","name"] ["world","name"] (X2 ZI):=mkSc
theorem Zdc:FnScope ["world","name"] ["world","name"] (X2 ZJ):=mkSc
theorem Z9X:FnScope ["world","numbers","words","given","taken"] ["world"] (X2 ZK):=mkSc
theorem ZeU:FnScope ["stand","words","given"] ["stand"] (X2 ZL):=mkSc
theorem ZeP:FnScope ["world","stand","name"] ["world","stand","name"] (X2 ZM):=mkSc
theorem Zg1:FnScope ["world","stand","asked","under_way"] ["world","stand","asked"] (X2 ZN):=mkSc
theorem ZeT:FnScope ["world","stand","name","asked","behind","word","ferry","steps","went"] ["world","stand","name","asked","behind"] (X2 ZO):=mkSc
theorem Zd9:FnScope ["world","stand","behind","names","island","asked"] ["world","stand"] (X2 ZP):=mkSc
theorem ZbO:FnScope ["world","n","stands","k"] ["world","n"] (X2 ZQ):=mkSc
theorem ZbN:FnScope ["world","stand","name","asked","ferry"] ["world","stand","name"] (X2 ZR):=mkSc
theorem Zi0:FnScope ["world","stand","name","names","ahead","seen_before"] ["world","stand","name"] (X2 ZS):=mkSc
theorem ZbV:FnScope ["script","k"] ["script","k"] (X2 ZT):=mkSc
theorem Zdd:FnScope ["number","salt","mixed"] ["number","salt"] (X2 ZU):=mkSc
theorem Zbc:FnScope ["number","many","letters","first","step","size","at","stem","names","k","sign"] ["number","many"] (X2 ZV):=mkSc
theorem ZbR:FnScope ["number","width","far"] ["number","width"] (X2 ZW):=mkSc
theorem ZbS:FnScope ["number","own","deep","way","more","far","one","two"] ["number","own","deep"] (X2 ZX):=mkSc
theorem ZbT:FnScope ["number","name","ferries","own","many","takes","gives","way","more","term"] ["number","name","ferries","own","many"] (X2 ZY):=mkSc
theorem Z8R:FnScope ["number","names","many","ferries","j","more","giver","taker","ends"] ["number","names","many"] (X2 ZZ):=mkSc
theorem Zbb:FnScope ["script","start","head","many","names","size","width","ferries","islands","i","more","own","cells","long","pairs","steps"] ["script","start"] (X2 U0):=mkSc
theorem ZbU:FnScope ["parts","islands"] ["parts"] (X2 U4):=mkSc
theorem Z7o:FnScope ["row","idle","names","name","last"] ["row","idle","names"] (X2 U5):=mkSc
theorem Zma:FnScope ["script","parts","world","stands","stand","behind","names","idle","island","row"] ["script"] (X2 YS):=mkSc
noncomputable def GB:List Str:=["all","bool","dict","int","isinstance","len","list","max","min","range","set","sorted","tuple"]
noncomputable def GL:List (Str×Int):=[("MOST_WIDTH",64),("MOST_LETTERS",8),("MOST_ISLANDS",5),("MOST_FERRIES",6),("MOST_VARS",6),("MOST_STEPS",12),("MOST_PARTS",30),("MOST_DEPTH",8),("MOST_K",3),("MOST_STAGES",3)]
theorem Xy{K:X6}{mg:Str->Option X0}{t:Adr}(T:Txt K mg t):∀x∈GB,mg x=none:=(fMc ⟨T.z_all,(fMc ⟨T.z_bool,(fMc ⟨T.z_dict,(fMc ⟨T.z_int,(fMc ⟨T.z_isinstance,(fMc ⟨T.z_len,(fMc ⟨T.z_list,(fMc ⟨T.z_max,(fMc ⟨T.z_min,(fMc ⟨T.z_range,(fMc ⟨T.z_set,(fMc ⟨T.z_sorted,(fMc ⟨T.z_tuple,nl0⟩)⟩)⟩)⟩)⟩)⟩)⟩)⟩)⟩)⟩)⟩)⟩)⟩)
theorem Xz{K:X6}{mg:Str->Option X0}{t:Adr}(T:Txt K mg t):∀p∈GL,∃tk,mg p.1=some (.int p.2 tk):=(fMc ⟨T.c_MOST_WIDTH,(fMc ⟨T.c_MOST_LETTERS,(fMc ⟨T.c_MOST_ISLANDS,(fMc ⟨T.c_MOST_FERRIES,(fMc ⟨T.c_MOST_VARS,(fMc ⟨T.c_MOST_STEPS,(fMc ⟨T.c_MOST_PARTS,(fMc ⟨T.c_MOST_DEPTH,(fMc ⟨T.c_MOST_K,(fMc ⟨T.c_MOST_STAGES,nl0⟩)⟩)⟩)⟩)⟩)⟩)⟩)⟩)⟩)⟩)
noncomputable def Ji:ISs:=.cons (.ret (.and (.bi .isinst (.var 0) (.cons (.ty .int) .nil)) (.not (.bi .isinst (.var 0) (.cons (.ty .bool) .nil))))) .nil
noncomputable abbrev DU:ISs:=Ji
noncomputable def Jj:GI:={bl:=GB,gl:=GL,fns:=[]}
theorem ZdN:chkSs Jj (X2 Ze) ["value"] DU (X5 Ze)=true:=by decide+kernel
noncomputable def Jk:ISs:=.cons (.ret (.and (.call 0 (.var 0) .nil) (.chn .LtE .LtE (.int 1) (.var 0) (.glb "MOST_WIDTH" 64)))) .nil
noncomputable abbrev DV:ISs:=Jk
noncomputable def Jl:GI:={bl:=GB,gl:=GL,fns:=["is_whole"]}
theorem ZdM:chkSs Jl (X2 Zf) ["number"] DV (X5 Zf)=true:=by decide+kernel
noncomputable def Jn:ISs:=.cons (.ret (.var 1)) .nil
noncomputable def Jo:ISs:=.cons (.set 1 (.bin .Mult (.var 1) (.int 2))) .nil
noncomputable def Jp:ISs:=.cons (.for_ (.nm 2) (.rng (.var 0)) Jo) Jn
noncomputable def Jq:ISs:=.cons (.set 1 (.int 1)) Jp
noncomputable abbrev DW:ISs:=Jq
noncomputable def Jr:GI:={bl:=GB,gl:=GL,fns:=[]}
theorem Zhf:chkSs Jr (X2 Zg) ["exponent","answer","k"] DW (X5 Zg)=true:=by decide+kernel
noncomputable def Js:ISs:=.cons (.ret (.and (.call 0 (.var 1) .nil) (.chn .LtE .Lt (.int 0) (.var 1) (.call 1 (.var 0) .nil)))) .nil
noncomputable abbrev DX:ISs:=Js
noncomputable def Jt:GI:={bl:=GB,gl:=GL,fns:=["is_whole","two_to"]}
theorem ZlD:chkSs Jt (X2 Zh) ["width","number"] DX (X5 Zh)=true:=by decide+kernel
noncomputable def Ju:ISs:=.cons (.ret (.bin .Mod (.var 1) (.call 0 (.var 0) .nil))) .nil
noncomputable abbrev DY:ISs:=Ju
noncomputable def Jv:GI:={bl:=GB,gl:=GL,fns:=["two_to"]}
theorem ZnV:chkSs Jv (X2 Zi) ["width","number"] DY (X5 Zi)=true:=by decide+kernel
noncomputable def DZ:ISs:=.cons (.ret (.bi .list (.sl (.var 0) (.some (.int 1)) .none) .nil)) .nil
noncomputable def E1:ISs:=.cons (.ret (.lst .nil)) .nil
noncomputable def Jw:ISs:=.cons (.ite (.or (.cmp .Eq (.ix (.var 0) (.int 0)) (.str "num")) (.cmp .Eq (.ix (.var 0) (.int 0)) (.str "var"))) E1 .nil) DZ
noncomputable abbrev E2:ISs:=Jw
noncomputable def Jx:GI:={bl:=GB,gl:=GL,fns:=[]}
theorem Z9G:chkSs Jx (X2 Zj) ["T"] E2 (X5 Zj)=true:=by decide+kernel
noncomputable def Jy:ISs:=.cons (.ret (.tup (.cons (.var 1) (.cons (.bin .Add (.var 2) (.int 1)) .nil)))) .nil
noncomputable def Jz:ISs:=.cons (.set 2 (.bi .max (.var 2) (.cons (.ix (.var 4) (.int 1)) .nil))) .nil
noncomputable def JA:ISs:=.cons (.set 1 (.bin .Add (.var 1) (.ix (.var 4) (.int 0)))) Jz
noncomputable def JB:ISs:=.cons (.set 4 (.call 1 (.var 3) .nil)) JA
noncomputable def JC:ISs:=.cons (.for_ (.nm 3) (.seq (.call 0 (.var 0) .nil)) JB) Jy
noncomputable def JD:ISs:=.cons (.set 2 (.int 0)) JC
noncomputable def JE:ISs:=.cons (.set 1 (.int 1)) JD
noncomputable abbrev E3:ISs:=JE
noncomputable def JF:GI:={bl:=GB,gl:=GL,fns:=["parts_within","size_of"]}
theorem Zfn:chkSs JF (X2 Zk) ["T","parts","deepest","part","size"] E3 (X5 Zk)=true:=by decide+kernel
noncomputable def JG:ISs:=.cons (.ret (.var 1)) .nil
noncomputable def JH:ISs:=.cons (.expr (.mt .extend (.var 1) (.cons (.call 0 (.var 2) .nil) .nil))) .nil
noncomputable def JI:ISs:=.cons (.for_ (.nm 2) (.seq (.call 1 (.var 0) .nil)) JH) JG
noncomputable def E4:ISs:=.cons (.set 1 (.lst .nil)) JI
noncomputable def JJ:ISs:=.cons (.ret (.lst (.cons (.ix (.var 0) (.int 1)) .nil))) .nil
noncomputable def JK:ISs:=.cons (.ite (.cmp .Eq (.ix (.var 0) (.int 0)) (.str "var")) JJ .nil) E4
noncomputable abbrev E5:ISs:=JK
noncomputable def JL:GI:={bl:=GB,gl:=GL,fns:=["names_read","parts_within"]}
theorem Zby:chkSs JL (X2 Zl) ["T","names","part"] E5 (X5 Zl)=true:=by decide+kernel
noncomputable def JM:ISs:=.cons (.ret (.b2 .ssrt (.call 0 (.var 0) .nil))) .nil
noncomputable abbrev E6:ISs:=JM
noncomputable def JN:GI:={bl:=GB,gl:=GL,fns:=["names_read"]}
theorem Zfm:chkSs JN (X2 Zm) ["T"] E6 (X5 Zm)=true:=by decide+kernel
noncomputable def JO:ISs:=.cons (.ret (.ife (.cmp .Eq (.var 1) (.var 2)) (.int 1) (.int 0))) .nil
noncomputable def JP:ISs:=.cons (.ret (.ife (.cmp .Lt (.var 1) (.var 2)) (.int 1) (.int 0))) .nil
noncomputable def E7:ISs:=.cons (.ite (.cmp .Eq (.var 0) (.str "less")) JP .nil) JO
noncomputable def JQ:ISs:=.cons (.ret (.call 0 (.var 3) (.cons (.bin .Mult (.var 1) (.var 2)) .nil))) .nil
noncomputable def C5:ISs:=.cons (.ite (.cmp .Eq (.var 0) (.str "times")) JQ .nil) E7
noncomputable def JR:ISs:=.cons (.ret (.call 0 (.var 3) (.cons (.bin .Sub (.var 1) (.var 2)) .nil))) .nil
noncomputable def AC:ISs:=.cons (.ite (.cmp .Eq (.var 0) (.str "minus")) JR .nil) C5
noncomputable def JS:ISs:=.cons (.ret (.call 0 (.var 3) (.cons (.bin .Add (.var 1) (.var 2)) .nil))) .nil
noncomputable def JT:ISs:=.cons (.ite (.cmp .Eq (.var 0) (.str "plus")) JS .nil) AC
noncomputable abbrev E8:ISs:=JT
noncomputable def JU:GI:={bl:=GB,gl:=GL,fns:=["cut"]}
theorem Z9E:chkSs JU (X2 Zn) ["form","left","right","width"] E8 (X5 Zn)=true:=by decide+kernel
noncomputable def JV:ISs:=.cons (.ret (.call 2 (.ix (.var 0) (.int 0)) (.cons (.var 3) (.cons (.call 1 (.ix (.var 0) (.int 2)) (.cons (.var 1) (.cons (.var 2) .nil))) (.cons (.var 1) .nil))))) .nil
noncomputable def JW:ISs:=.cons (.ret (.call 1 (.ife (.cmp .NotEq (.var 3) (.int 0)) (.ix (.var 0) (.int 2)) (.ix (.var 0) (.int 3))) (.cons (.var 1) (.cons (.var 2) .nil)))) .nil
noncomputable def E9:ISs:=.cons (.ite (.cmp .Eq (.ix (.var 0) (.int 0)) (.str "pick")) JW .nil) JV
noncomputable def Ea:ISs:=.cons (.set 3 (.call 1 (.ix (.var 0) (.int 1)) (.cons (.var 1) (.cons (.var 2) .nil)))) E9
noncomputable def JX:ISs:=.cons (.ret (.ix (.var 2) (.ix (.var 0) (.int 1)))) .nil
noncomputable def C6:ISs:=.cons (.ite (.cmp .Eq (.ix (.var 0) (.int 0)) (.str "var")) JX .nil) Ea
noncomputable def JY:ISs:=.cons (.ret (.call 0 (.var 1) (.cons (.ix (.var 0) (.int 1)) .nil))) .nil
noncomputable def JZ:ISs:=.cons (.ite (.cmp .Eq (.ix (.var 0) (.int 0)) (.str "num")) JY .nil) C6
noncomputable abbrev Eb:ISs:=JZ
noncomputable def K0:GI:={bl:=GB,gl:=GL,fns:=["cut","worth","worth_of_two"]}
theorem ZiP:chkSs K0 (X2 Zo) ["T","width","words","first"] Eb (X5 Zo)=true:=by decide+kernel
noncomputable def Ec:ISs:=.cons (.ret (.tup (.cons (.str "own") .nil))) .nil
noncomputable def K1:ISs:=.cons (.ret (.tup (.cons (.str "give") (.cons (.ix (.var 4) (.int 1)) (.cons (.call 0 (.ix (.var 4) (.int 2)) (.cons (.var 0) (.cons (.var 3) .nil))) .nil))))) .nil
noncomputable def C7:ISs:=.cons (.ite (.cmp .Eq (.ix (.var 4) (.int 0)) (.str "give")) K1 .nil) Ec
noncomputable def K2:ISs:=.cons (.ret (.tup (.cons (.str "take") (.cons (.ix (.var 4) (.int 1)) .nil)))) .nil
noncomputable def Ed:ISs:=.cons (.ite (.cmp .Eq (.ix (.var 4) (.int 0)) (.str "take")) K2 .nil) C7
noncomputable def Ee:ISs:=.cons (.set 4 (.ix (.var 1) (.var 2))) Ed
noncomputable def Ef:ISs:=.cons (.ret .non) .nil
noncomputable def K3:ISs:=.cons (.ite (.cmp .Eq (.var 2) (.bi .len (.var 1) .nil)) Ef .nil) Ee
noncomputable abbrev Eg:ISs:=K3
noncomputable def K4:GI:={bl:=GB,gl:=GL,fns:=["worth"]}
theorem ZlB:chkSs K4 (X2 Zp) ["width","steps","number","words","step"] Eg (X5 Zp)=true:=by decide+kernel
noncomputable def AD:ISs:=.cons (.ret (.bin .Add (.var 2) (.int 1))) .nil
noncomputable def K5:ISs:=.cons (.ret (.ix (.var 4) (.int 2))) .nil
noncomputable def K6:ISs:=.cons (.ite (.and (.cmp .Eq (.ix (.var 4) (.int 0)) (.str "jump")) (.cmp .NotEq (.call 0 (.ix (.var 4) (.int 1)) (.cons (.var 0) (.cons (.var 3) .nil))) (.int 0))) K5 .nil) AD
noncomputable def K7:ISs:=.cons (.set 4 (.ix (.var 1) (.var 2))) K6
noncomputable abbrev Eh:ISs:=K7
noncomputable def K8:GI:={bl:=GB,gl:=GL,fns:=["worth"]}
theorem Z9H:chkSs K8 (X2 Zq) ["width","steps","number","words","step"] Eh (X5 Zq)=true:=by decide+kernel
noncomputable def AE:ISs:=.cons (.ret (.var 4)) .nil
noncomputable def K9:ISs:=.cons (.put (.var 4) (.ix (.var 1) (.int 1)) (.call 0 (.ix (.var 1) (.int 2)) (.cons (.var 0) (.cons (.var 2) .nil)))) .nil
noncomputable def AF:ISs:=.cons (.ite (.cmp .Eq (.ix (.var 1) (.int 0)) (.str "put")) K9 .nil) AE
noncomputable def Ka:ISs:=.cons (.put (.var 4) (.ix (.var 1) (.int 2)) (.var 3)) .nil
noncomputable def Kb:ISs:=.cons (.ite (.cmp .Eq (.ix (.var 1) (.int 0)) (.str "take")) Ka .nil) AF
noncomputable def Kc:ISs:=.cons (.set 4 (.bi .dict (.var 2) .nil)) Kb
noncomputable abbrev Ei:ISs:=Kc
noncomputable def Kd:GI:={bl:=GB,gl:=GL,fns:=["worth"]}
theorem Zac:chkSs Kd (X2 Zr) ["width","step","words","word","behind"] Ei (X5 Zr)=true:=by decide+kernel
noncomputable def Ke:ISs:=.cons (.ret (.tup (.cons (.call 0 (.var 0) (.cons (.var 1) (.cons (.var 2) (.cons (.var 3) .nil)))) (.cons (.call 1 (.var 0) (.cons (.ix (.var 1) (.var 2)) (.cons (.var 3) (.cons (.var 4) .nil)))) .nil)))) .nil
noncomputable abbrev Ej:ISs:=Ke
noncomputable def Kf:GI:={bl:=GB,gl:=GL,fns:=["number_after","words_after"]}
theorem ZiR:chkSs Kf (X2 Zs) ["width","steps","number","words","word"] Ej (X5 Zs)=true:=by decide+kernel
noncomputable def Kg:ISs:=.cons (.ret (.and (.chn .LtE .LtE (.int 1) (.bi .len (.var 0) .nil) (.glb "MOST_LETTERS" 8)) (.bi .all (.comp ["sign"] [] (.seq (.var 0)) (.nm 0) .none (.chn .LtE .LtE (.str "a") (.var 0) (.str "z"))) .nil))) .nil
noncomputable abbrev Ek:ISs:=Kg
noncomputable def Kh:GI:={bl:=GB,gl:=GL,fns:=[]}
theorem Zfo:chkSs Kh (X2 Zt) ["text"] Ek (X5 Zt)=true:=by decide+kernel
noncomputable def Za8:ISs:=.cons .never .nil
noncomputable def Ki:ISs:=.cons (.ite (.cmp .In (.var 0) (.var 1)) Za8 .nil) .nil
noncomputable def Za9:ISs:=.cons .never .nil
noncomputable def Kj:ISs:=.cons (.ite (.not (.call 0 (.var 0) .nil)) Za9 .nil) Ki
noncomputable abbrev El:ISs:=Kj
noncomputable def Kk:GI:={bl:=GB,gl:=GL,fns:=["is_name"]}
theorem Zaf:chkSs Kk (X2 Zu) ["text","earlier"] El (X5 Zu)=true:=by decide+kernel
noncomputable def Z7u:ISs:=.cons .never .nil
noncomputable def Kl:ISs:=.cons (.ite (.cmp .NotIn (.var 0) (.var 1)) Z7u .nil) .nil
noncomputable abbrev Em:ISs:=Kl
noncomputable def Km:GI:={bl:=GB,gl:=GL,fns:=[]}
theorem Z7E:chkSs Km (X2 Zv) ["name","known"] Em (X5 Zv)=true:=by decide+kernel
noncomputable def Kn:ISs:=.cons (.expr (.mt .append (.var 1) (.cons (.ix (.var 2) (.int 0)) .nil))) .nil
noncomputable def Ko:ISs:=.cons (.expr (.call 0 (.ix (.var 2) (.int 0)) (.cons (.var 1) .nil))) Kn
noncomputable def Kq:ISs:=.cons (.for_ (.nm 2) (.seq (.var 0)) Ko) .nil
noncomputable def Kr:ISs:=.cons (.set 1 (.lst .nil)) Kq
noncomputable abbrev En:ISs:=Kr
noncomputable def Ks:GI:={bl:=GB,gl:=GL,fns:=["refuse_name"]}
theorem Z53:chkSs Ks (X2 Zw) ["ferries","earlier","ferry"] En (X5 Zw)=true:=by decide+kernel
noncomputable def Z6e:ISs:=.cons .never .nil
noncomputable def Kt:ISs:=.cons (.ite (.not (.call 0 (.var 0) (.cons (.ix (.var 3) (.int 1)) .nil))) Z6e .nil) .nil
noncomputable def Ku:ISs:=.cons (.expr (.mt .append (.var 2) (.cons (.var 4) .nil))) Kt
noncomputable def Kv:ISs:=.cons (.expr (.call 1 (.var 4) (.cons (.var 2) .nil))) Ku
noncomputable def Kw:ISs:=.cons (.set 4 (.ix (.var 3) (.int 0))) Kv
noncomputable def Kx:ISs:=.cons (.for_ (.nm 3) (.seq (.var 1)) Kw) .nil
noncomputable def Ky:ISs:=.cons (.set 2 (.lst .nil)) Kx
noncomputable abbrev Eo:ISs:=Ky
noncomputable def Kz:GI:={bl:=GB,gl:=GL,fns:=["fits","refuse_name"]}
theorem Z6l:chkSs Kz (X2 Zx) ["width","pairs","earlier","pair","name"] Eo (X5 Zx)=true:=by decide+kernel
noncomputable def KA:ISs:=.cons (.expr (.call 0 (.var 3) (.cons (.var 1) .nil))) .nil
noncomputable def KB:ISs:=.cons (.for_ (.nm 3) (.seq (.call 2 (.var 0) .nil)) KA) .nil
noncomputable def Za7:ISs:=.cons .never .nil
noncomputable def KC:ISs:=.cons (.ite (.or (.cmp .Gt (.ix (.var 2) (.int 0)) (.glb "MOST_PARTS" 30)) (.cmp .Gt (.ix (.var 2) (.int 1)) (.glb "MOST_DEPTH" 8))) Za7 .nil) KB
noncomputable def KD:ISs:=.cons (.set 2 (.call 1 (.var 0) .nil)) KC
noncomputable abbrev Ep:ISs:=KD
noncomputable def KE:GI:={bl:=GB,gl:=GL,fns:=["refuse_unknown","size_of","vars_in"]}
theorem Zad:chkSs KE (X2 Zy) ["T","known","size","name"] Ep (X5 Zy)=true:=by decide+kernel
noncomputable def KF:ISs:=.cons (.expr (.call 1 (.ix (.var 0) (.int 2)) (.cons (.var 1) .nil))) .nil
noncomputable def KG:ISs:=.cons (.expr (.call 1 (.ix (.var 0) (.int 1)) (.cons (.var 3) .nil))) KF
noncomputable def KH:ISs:=.cons (.expr (.call 0 (.ix (.var 0) (.int 2)) (.cons (.var 1) .nil))) .nil
noncomputable def KI:ISs:=.cons (.expr (.call 1 (.ix (.var 0) (.int 1)) (.cons (.var 3) .nil))) KH
noncomputable def KJ:ISs:=.cons (.expr (.call 0 (.ix (.var 0) (.int 2)) (.cons (.var 1) .nil))) .nil
noncomputable def KK:ISs:=.cons (.expr (.call 1 (.ix (.var 0) (.int 1)) (.cons (.var 1) .nil))) KJ
noncomputable def Z9i:ISs:=.cons .never .nil
noncomputable def KL:ISs:=.cons (.ite (.not (.chn .LtE .LtE (.int 0) (.ix (.var 0) (.int 2)) (.var 2))) Z9i .nil) .nil
noncomputable def KM:ISs:=.cons (.expr (.call 0 (.ix (.var 0) (.int 1)) (.cons (.var 1) .nil))) KL
noncomputable def Er:ISs:=.cons (.ite (.cmp .Eq (.ix (.var 0) (.int 0)) (.str "put")) KK KM) .nil
noncomputable def C8:ISs:=.cons (.ite (.cmp .Eq (.ix (.var 0) (.int 0)) (.str "give")) KI Er) .nil
noncomputable def KN:ISs:=.cons (.ite (.cmp .Eq (.ix (.var 0) (.int 0)) (.str "take")) KG C8) .nil
noncomputable abbrev Es:ISs:=KN
noncomputable def KO:GI:={bl:=GB,gl:=GL,fns:=["refuse_term","refuse_unknown"]}
theorem Zae:chkSs KO (X2 Zz) ["step","known","count","ferry_names"] Es (X5 Zz)=true:=by decide+kernel
noncomputable def KP:ISs:=.cons (.expr (.call 0 (.var 4) (.cons (.var 3) (.cons (.bi .len (.ix (.var 1) (.int 2)) .nil) (.cons (.var 2) .nil))))) .nil
noncomputable def KQ:ISs:=.cons (.for_ (.nm 4) (.seq (.ix (.var 1) (.int 2))) KP) .nil
noncomputable def KR:ISs:=.cons (.set 3 (.comp ["pair"] [] (.seq (.ix (.var 1) (.int 1))) (.nm 0) .none (.ix (.var 0) (.int 0)))) KQ
noncomputable def KS:ISs:=.cons (.expr (.call 1 (.var 0) (.cons (.ix (.var 1) (.int 1)) .nil))) KR
noncomputable def Z8x:ISs:=.cons .never .nil
noncomputable def KU:ISs:=.cons (.ite (.cmp .Gt (.bi .len (.ix (.var 1) (.int 2)) .nil) (.glb "MOST_STEPS" 12)) Z8x .nil) KS
noncomputable def Z8y:ISs:=.cons .never .nil
noncomputable def KW:ISs:=.cons (.ite (.cmp .Gt (.bi .len (.ix (.var 1) (.int 1)) .nil) (.glb "MOST_VARS" 6)) Z8y .nil) KU
noncomputable abbrev Et:ISs:=KW
noncomputable def KY:GI:={bl:=GB,gl:=GL,fns:=["refuse_step","refuse_variables"]}
theorem Z8A:chkSs KY (X2 ZA) ["width","island","ferry_names","known","step"] Et (X5 ZA)=true:=by decide+kernel
noncomputable def KZ:ISs:=.cons (.expr (.call 0 (.var 0) (.cons (.var 4) (.cons (.var 2) .nil)))) .nil
noncomputable def L0:ISs:=.cons (.expr (.mt .append (.var 3) (.cons (.ix (.var 4) (.int 0)) .nil))) KZ
noncomputable def L1:ISs:=.cons (.expr (.call 1 (.ix (.var 4) (.int 0)) (.cons (.var 3) .nil))) L0
noncomputable def L3:ISs:=.cons (.for_ (.nm 4) (.seq (.var 1)) L1) .nil
noncomputable def L4:ISs:=.cons (.set 3 (.bi .list (.var 2) .nil)) L3
noncomputable abbrev Eu:ISs:=L4
noncomputable def L5:GI:={bl:=GB,gl:=GL,fns:=["refuse_island","refuse_name"]}
theorem Z7F:chkSs L5 (X2 ZB) ["width","islands","ferry_names","earlier","island"] Eu (X5 ZB)=true:=by decide+kernel
noncomputable def Z9j:ISs:=.cons .never .nil
noncomputable def L6:ISs:=.cons (.ite (.not (.chn .LtE .LtE (.int 1) (.ix (.var 0) (.int 4)) (.glb "MOST_STAGES" 3))) Z9j .nil) .nil
noncomputable def Z9k:ISs:=.cons .never .nil
noncomputable def L7:ISs:=.cons (.ite (.not (.chn .LtE .LtE (.int 0) (.ix (.var 0) (.int 3)) (.glb "MOST_K" 3))) Z9k .nil) L6
noncomputable def Z9l:ISs:=.cons .never .nil
noncomputable def L8:ISs:=.cons (.ite (.cmp .Eq (.ix (.var 0) (.int 1)) (.ix (.var 0) (.int 2))) Z9l .nil) L7
noncomputable def L9:ISs:=.cons (.expr (.call 0 (.ix (.var 0) (.int 2)) (.cons (.var 1) .nil))) L8
noncomputable def La:ISs:=.cons (.expr (.call 0 (.ix (.var 0) (.int 1)) (.cons (.var 1) .nil))) L9
noncomputable abbrev Ev:ISs:=La
noncomputable def Lb:GI:={bl:=GB,gl:=GL,fns:=["refuse_unknown"]}
theorem Z9F:chkSs Lb (X2 ZC) ["ferry","island_names"] Ev (X5 ZC)=true:=by decide+kernel
noncomputable def Z6c:ISs:=.cons .never .nil
noncomputable def AG:ISs:=.cons (.ite (.and (.cmp .Eq (.ix (.var 1) (.int 0)) (.str "give")) (.cmp .NotEq (.ix (.var 2) (.ix (.var 1) (.int 1))) (.var 0))) Z6c .nil) .nil
noncomputable def Z6d:ISs:=.cons .never .nil
noncomputable def Lc:ISs:=.cons (.ite (.and (.cmp .Eq (.ix (.var 1) (.int 0)) (.str "take")) (.cmp .NotEq (.ix (.var 3) (.ix (.var 1) (.int 1))) (.var 0))) Z6d .nil) AG
noncomputable abbrev Ew:ISs:=Lc
noncomputable def Ld:GI:={bl:=GB,gl:=GL,fns:=[]}
theorem Z6k:chkSs Ld (X2 ZD) ["name","step","givers","takers"] Ew (X5 ZD)=true:=by decide+kernel
noncomputable def Lf:ISs:=.cons (.expr (.call 0 (.ix (.var 4) (.int 0)) (.cons (.var 5) (.cons (.var 2) (.cons (.var 3) .nil))))) .nil
noncomputable def Lg:ISs:=.cons (.for_ (.nm 5) (.seq (.ix (.var 4) (.int 2))) Lf) .nil
noncomputable def Lh:ISs:=.cons (.for_ (.nm 4) (.seq (.var 0)) Lg) .nil
noncomputable def Li:ISs:=.cons (.set 3 (.bi .dictL (.comp ["ferry"] [] (.seq (.var 1)) (.nm 0) .none (.tup (.cons (.ix (.var 0) (.int 0)) (.cons (.ix (.var 0) (.int 2)) .nil)))) .nil)) Lh
noncomputable def Lj:ISs:=.cons (.set 2 (.bi .dictL (.comp ["ferry"] [] (.seq (.var 1)) (.nm 0) .none (.tup (.cons (.ix (.var 0) (.int 0)) (.cons (.ix (.var 0) (.int 1)) .nil)))) .nil)) Li
noncomputable abbrev Ex:ISs:=Lj
noncomputable def Lk:GI:={bl:=GB,gl:=GL,fns:=["refuse_wrong_end"]}
theorem Z5k:chkSs Lk (X2 ZE) ["islands","ferries","givers","takers","island","step"] Ex (X5 ZE)=true:=by decide+kernel
noncomputable def WF:ISs:=.cons (.ret (.var 0)) .nil
noncomputable def Ey:ISs:=.cons (.ret (.bi .tuple (.comp ["part"] [] (.seq (.var 0)) (.nm 0) .none (.call 0 (.var 0) .nil)) .nil)) .nil
noncomputable def Ez:ISs:=.cons (.ite (.bi .isinst (.var 0) (.cons (.tup (.cons (.ty .list) (.cons (.ty .tuple) .nil))) .nil)) Ey .nil) WF
noncomputable abbrev WG:ISs:=Ez
noncomputable def EA:GI:={bl:=GB,gl:=GL,fns:=["frozen"]}
theorem Ll:chkSs EA (X2 ZF) ["value"] WG (X5 ZF)=true:=by decide+kernel
noncomputable def Lm:ISs:=.cons (.ret (.call 0 (.tup (.cons (.var 0) (.cons (.var 1) (.cons (.var 2) .nil)))) .nil)) .nil
noncomputable def Ln:ISs:=.cons (.expr (.call 5 (.var 1) (.cons (.var 2) .nil))) Lm
noncomputable def Lo:ISs:=.cons (.expr (.call 2 (.var 4) (.cons (.var 3) .nil))) .nil
noncomputable def Lp:ISs:=.cons (.for_ (.nm 4) (.seq (.var 2)) Lo) Ln
noncomputable def Lq:ISs:=.cons (.set 3 (.comp ["island"] [] (.seq (.var 1)) (.nm 0) .none (.ix (.var 0) (.int 0)))) Lp
noncomputable def Lr:ISs:=.cons (.expr (.call 4 (.var 0) (.cons (.var 1) (.cons (.comp ["ferry"] [] (.seq (.var 2)) (.nm 0) .none (.ix (.var 0) (.int 0))) .nil)))) Lq
noncomputable def Ls:ISs:=.cons (.expr (.call 3 (.var 2) .nil)) Lr
noncomputable def Zlp:ISs:=.cons .never .nil
noncomputable def Lu:ISs:=.cons (.ite (.cmp .Gt (.bi .len (.var 2) .nil) (.glb "MOST_FERRIES" 6)) Zlp .nil) Ls
noncomputable def Zlq:ISs:=.cons .never .nil
noncomputable def Lv:ISs:=.cons (.ite (.cmp .Gt (.bi .len (.var 1) .nil) (.glb "MOST_ISLANDS" 5)) Zlq .nil) Lu
noncomputable def Zlr:ISs:=.cons .never .nil
noncomputable def Lw:ISs:=.cons (.ite (.not (.call 1 (.var 0) .nil)) Zlr .nil) Lv
noncomputable abbrev EB:ISs:=Lw
noncomputable def Lx:GI:={bl:=GB,gl:=GL,fns:=["frozen","is_width","refuse_ferry","refuse_ferry_names","refuse_islands","refuse_wrong_ends"]}
theorem ZlC:chkSs Lx (X2 ZG) ["width","islands","ferries","island_names","ferry"] EB (X5 ZG)=true:=by decide+kernel
noncomputable def Zbr:ISs:=.cons .never .nil
noncomputable def Ly:ISs:=.cons (.ret (.var 2)) .nil
noncomputable def Lz:ISs:=.cons (.ite (.cmp .Eq (.ix (.var 2) (.int 0)) (.var 1)) Ly .nil) .nil
noncomputable def LA:ISs:=.cons (.for_ (.nm 2) (.seq (.var 0)) Lz) Zbr
noncomputable abbrev EC:ISs:=LA
noncomputable def LB:GI:={bl:=GB,gl:=GL,fns:=[]}
theorem Zbx:chkSs LB (X2 ZH) ["row","name","one"] EC (X5 ZH)=true:=by decide+kernel
noncomputable def LC:ISs:=.cons (.ret (.call 0 (.ix (.var 0) (.int 1)) (.cons (.var 1) .nil))) .nil
noncomputable abbrev ED:ISs:=LC
noncomputable def LD:GI:={bl:=GB,gl:=GL,fns:=["one_called"]}
theorem ZcA:chkSs LD (X2 ZI) ["world","name"] ED (X5 ZI)=true:=by decide+kernel
noncomputable def LE:ISs:=.cons (.ret (.call 0 (.ix (.var 0) (.int 2)) (.cons (.var 1) .nil))) .nil
noncomputable abbrev EE:ISs:=LE
noncomputable def LF:GI:={bl:=GB,gl:=GL,fns:=["one_called"]}
theorem ZdO:chkSs LF (X2 ZJ) ["world","name"] EE (X5 ZJ)=true:=by decide+kernel
noncomputable def LG:ISs:=.cons (.ret (.tup (.cons (.var 1) (.cons (.var 2) (.cons (.var 3) (.cons (.var 4) .nil)))))) .nil
noncomputable def LH:ISs:=.cons (.set 4 (.bi .dictL (.comp ["ferry"] [] (.seq (.ix (.var 0) (.int 2))) (.nm 0) .none (.tup (.cons (.ix (.var 0) (.int 0)) (.cons (.int 0) .nil)))) .nil)) LG
noncomputable def LI:ISs:=.cons (.set 3 (.bi .dictL (.comp ["ferry"] [] (.seq (.ix (.var 0) (.int 2))) (.nm 0) .none (.tup (.cons (.ix (.var 0) (.int 0)) (.cons (.lst .nil) .nil)))) .nil)) LH
noncomputable def LJ:ISs:=.cons (.set 2 (.bi .dictL (.comp ["island"] [] (.seq (.ix (.var 0) (.int 1))) (.nm 0) .none (.tup (.cons (.ix (.var 0) (.int 0)) (.cons (.bi .dict (.ix (.var 0) (.int 1)) .nil) .nil)))) .nil)) LI
noncomputable def LK:ISs:=.cons (.set 1 (.bi .dictL (.comp ["island"] [] (.seq (.ix (.var 0) (.int 1))) (.nm 0) .none (.tup (.cons (.ix (.var 0) (.int 0)) (.cons (.int 0) .nil)))) .nil)) LJ
noncomputable abbrev EF:ISs:=LK
noncomputable def LL:GI:={bl:=GB,gl:=GL,fns:=[]}
theorem Zag:chkSs LL (X2 ZK) ["world","numbers","words","given","taken"] EF (X5 ZK)=true:=by decide+kernel
noncomputable def LM:ISs:=.cons (.ret (.tup (.cons (.bi .dict (.ix (.var 0) (.int 0)) .nil) (.cons (.var 1) (.cons (.var 2) (.cons (.bi .dict (.ix (.var 0) (.int 3)) .nil) .nil)))))) .nil
noncomputable def LN:ISs:=.cons (.set 2 (.bi .dictL (.comp ["name"] [0] (.seq (.ix (.var 0) (.int 2))) (.nm 0) .none (.tup (.cons (.var 0) (.cons (.bi .list (.ix (.ix (.var 1) (.int 2)) (.var 0)) .nil) .nil)))) .nil)) LM
noncomputable def LO:ISs:=.cons (.set 1 (.bi .dictL (.comp ["name"] [0] (.seq (.ix (.var 0) (.int 1))) (.nm 0) .none (.tup (.cons (.var 0) (.cons (.bi .dict (.ix (.ix (.var 1) (.int 1)) (.var 0)) .nil) .nil)))) .nil)) LN
noncomputable abbrev EG:ISs:=LO
noncomputable def LP:GI:={bl:=GB,gl:=GL,fns:=[]}
theorem Zfq:chkSs LP (X2 ZL) ["stand","words","given"] EG (X5 ZL)=true:=by decide+kernel
noncomputable def LQ:ISs:=.cons (.ret (.call 1 (.ix (.var 0) (.int 0)) (.cons (.ix (.call 0 (.var 0) (.cons (.var 2) .nil)) (.int 2)) (.cons (.ix (.ix (.var 1) (.int 0)) (.var 2)) (.cons (.ix (.ix (.var 1) (.int 1)) (.var 2)) .nil))))) .nil
noncomputable abbrev EH:ISs:=LQ
noncomputable def LR:GI:={bl:=GB,gl:=GL,fns:=["island_of","wish"]}
theorem Zfl:chkSs LR (X2 ZM) ["world","stand","name"] EH (X5 ZM)=true:=by decide+kernel
noncomputable def LS:ISs:=.cons (.ret (.cmp .Lt (.var 3) (.call 1 (.ix (.call 0 (.var 0) (.cons (.ix (.var 2) (.int 1)) .nil)) (.int 3)) .nil))) .nil
noncomputable def LT:ISs:=.cons (.ret (.cmp .Gt (.var 3) (.int 0))) .nil
noncomputable def EI:ISs:=.cons (.ite (.cmp .Eq (.ix (.var 2) (.int 0)) (.str "take")) LT .nil) LS
noncomputable def EJ:ISs:=.cons (.set 3 (.bin .Sub (.bi .len (.ix (.ix (.var 1) (.int 2)) (.ix (.var 2) (.int 1))) .nil) (.ix (.ix (.var 1) (.int 3)) (.ix (.var 2) (.int 1))))) EI
noncomputable def EK:ISs:=.cons (.ret (.bl true)) .nil
noncomputable def LU:ISs:=.cons (.ite (.cmp .Eq (.ix (.var 2) (.int 0)) (.str "own")) EK .nil) EJ
noncomputable abbrev EL:ISs:=LU
noncomputable def LV:GI:={bl:=GB,gl:=GL,fns:=["ferry_of","two_to"]}
theorem Zhg:chkSs LV (X2 ZN) ["world","stand","asked","under_way"] EL (X5 ZN)=true:=by decide+kernel
noncomputable def LW:ISs:=.cons (.put (.ix (.var 4) (.int 1)) (.var 2) (.ix (.var 8) (.int 1))) .nil
noncomputable def LX:ISs:=.cons (.put (.ix (.var 4) (.int 0)) (.var 2) (.ix (.var 8) (.int 0))) LW
noncomputable def LY:ISs:=.cons (.set 8 (.call 0 (.ix (.var 0) (.int 0)) (.cons (.var 7) (.cons (.ix (.ix (.var 1) (.int 0)) (.var 2)) (.cons (.ix (.ix (.var 1) (.int 1)) (.var 2)) (.cons (.var 5) .nil)))))) LX
noncomputable def EM:ISs:=.cons (.set 7 (.ix (.call 1 (.var 0) (.cons (.var 2) .nil)) (.int 2))) LY
noncomputable def LZ:ISs:=.cons (.expr (.mt .append (.ix (.ix (.var 4) (.int 2)) (.ix (.var 3) (.int 1))) (.cons (.ix (.var 3) (.int 2)) .nil))) .nil
noncomputable def AH:ISs:=.cons (.ite (.cmp .Eq (.ix (.var 3) (.int 0)) (.str "give")) LZ .nil) EM
noncomputable def Mb:ISs:=.cons (.put (.ix (.var 4) (.int 3)) (.var 6) (.bin .Add (.ix (.ix (.var 1) (.int 3)) (.var 6)) (.int 1))) .nil
noncomputable def Mc:ISs:=.cons (.set 5 (.ix (.ix (.ix (.var 1) (.int 2)) (.var 6)) (.ix (.ix (.var 1) (.int 3)) (.var 6)))) Mb
noncomputable def Md:ISs:=.cons (.set 6 (.ix (.var 3) (.int 1))) Mc
noncomputable def Me:ISs:=.cons (.ite (.cmp .Eq (.ix (.var 3) (.int 0)) (.str "take")) Md .nil) AH
noncomputable def Mf:ISs:=.cons (.set 5 .non) Me
noncomputable abbrev EN:ISs:=Mf
noncomputable def Mg:GI:={bl:=GB,gl:=GL,fns:=["after","island_of"]}
theorem Zfp:chkSs Mg (X2 ZO) ["world","stand","name","asked","behind","word","ferry","steps","went"] EN (X5 ZO)=true:=by decide+kernel
noncomputable def Mh:ISs:=.cons (.ret (.tup (.cons (.var 2) (.cons (.var 3) .nil)))) .nil
noncomputable def Mi:ISs:=.cons (.expr (.mt .append (.var 3) (.cons (.ix (.var 4) (.int 0)) .nil))) .nil
noncomputable def Mj:ISs:=.cons (.expr (.call 2 (.var 0) (.cons (.var 1) (.cons (.ix (.var 4) (.int 0)) (.cons (.var 5) (.cons (.var 2) .nil)))))) Mi
noncomputable def Ml:ISs:=.cons (.ite (.and (.cmp .IsNot (.var 5) .non) (.call 0 (.var 0) (.cons (.var 1) (.cons (.var 5) .nil)))) Mj .nil) .nil
noncomputable def Mm:ISs:=.cons (.set 5 (.call 3 (.var 0) (.cons (.var 1) (.cons (.ix (.var 4) (.int 0)) .nil)))) Ml
noncomputable def Mn:ISs:=.cons (.for_ (.nm 4) (.seq (.ix (.var 0) (.int 1))) Mm) Mh
noncomputable def Mo:ISs:=.cons (.set 3 (.lst .nil)) Mn
noncomputable def Mp:ISs:=.cons (.set 2 (.call 1 (.var 1) .nil)) Mo
noncomputable abbrev EO:ISs:=Mp
noncomputable def Mq:GI:={bl:=GB,gl:=GL,fns:=["can_be","copy_of","do_step","wish_of"]}
theorem ZdL:chkSs Mq (X2 ZP) ["world","stand","behind","names","island","asked"] EO (X5 ZP)=true:=by decide+kernel
noncomputable def Mr:ISs:=.cons (.ret (.var 2)) .nil
noncomputable def Ms:ISs:=.cons (.expr (.mt .append (.var 2) (.cons (.ix (.call 1 (.var 0) (.cons (.ix (.var 2) (.neg (.int 1))) .nil)) (.int 0)) .nil))) .nil
noncomputable def Mt:ISs:=.cons (.for_ (.nm 3) (.rng (.var 1)) Ms) Mr
noncomputable def Mu:ISs:=.cons (.set 2 (.lst (.cons (.call 0 (.var 0) .nil) .nil))) Mt
noncomputable abbrev EQ:ISs:=Mu
noncomputable def Mv:GI:={bl:=GB,gl:=GL,fns:=["first_stand","round_of"]}
theorem Zcz:chkSs Mv (X2 ZQ) ["world","n","stands","k"] EQ (X5 ZQ)=true:=by decide+kernel
noncomputable def ER:ISs:=.cons (.ret (.ife (.cmp .Eq (.ix (.var 3) (.int 0)) (.str "take")) (.ix (.var 4) (.int 1)) (.ix (.var 4) (.int 2)))) .nil
noncomputable def Mw:ISs:=.cons (.set 4 (.call 1 (.var 0) (.cons (.ix (.var 3) (.int 1)) .nil))) ER
noncomputable def ES:ISs:=.cons (.ret .non) .nil
noncomputable def Mx:ISs:=.cons (.ite (.or (.cmp .Is (.var 3) .non) (.call 0 (.var 0) (.cons (.var 1) (.cons (.var 3) .nil)))) ES .nil) Mw
noncomputable def Mz:ISs:=.cons (.set 3 (.call 2 (.var 0) (.cons (.var 1) (.cons (.var 2) .nil)))) Mx
noncomputable abbrev ET:ISs:=Mz
noncomputable def MA:GI:={bl:=GB,gl:=GL,fns:=["can_be","ferry_of","wish_of"]}
theorem Zcy:chkSs MA (X2 ZR) ["world","stand","name","asked","ferry"] ET (X5 ZR)=true:=by decide+kernel
noncomputable def MB:ISs:=.cons (.ret (.var 3)) .nil
noncomputable def MC:ISs:=.cons (.set 4 (.call 0 (.var 0) (.cons (.var 1) (.cons (.var 4) .nil)))) .nil
noncomputable def MD:ISs:=.cons (.ret (.var 3)) .nil
noncomputable def ME:ISs:=.cons (.ite (.var 5) MD .nil) MC
noncomputable def MF:ISs:=.cons (.expr (.mt .append (.var 3) (.cons (.var 4) .nil))) ME
noncomputable def MG:ISs:=.cons (.set 5 (.cmp .In (.var 4) (.var 3))) MF
noncomputable def MI:ISs:=.cons (.while_ (.cmp .IsNot (.var 4) .non) MG) MB
noncomputable def MJ:ISs:=.cons (.set 4 (.call 0 (.var 0) (.cons (.var 1) (.cons (.var 2) .nil)))) MI
noncomputable def MK:ISs:=.cons (.set 3 (.lst (.cons (.var 2) .nil))) MJ
noncomputable abbrev EU:ISs:=MK
noncomputable def ML:GI:={bl:=GB,gl:=GL,fns:=["waits_for"]}
theorem ZiQ:chkSs ML (X2 ZS) ["world","stand","name","names","ahead","seen_before"] EU (X5 ZS)=true:=by decide+kernel
noncomputable def MM:ISs:=.cons (.ret (.bin .Mod (.bin .Mult (.bin .Mult (.var 1) (.var 1)) (.int 7919)) (.int 1000003))) .nil
noncomputable def MN:ISs:=.cons (.ret (.bin .Mod (.ix (.var 0) (.var 1)) (.int 1000000007))) .nil
noncomputable def MP:ISs:=.cons (.ite (.cmp .Lt (.var 1) (.bi .len (.var 0) .nil)) MN .nil) MM
noncomputable abbrev EV:ISs:=MP
noncomputable def MQ:GI:={bl:=GB,gl:=GL,fns:=[]}
theorem ZcG:chkSs MQ (X2 ZT) ["script","k"] EV (X5 ZT)=true:=by decide+kernel
noncomputable def MR:ISs:=.cons (.ret (.bin .Mod (.bin .Mult (.var 2) (.var 2)) (.int 2147483629))) .nil
noncomputable def MS:ISs:=.cons (.set 2 (.bin .Mod (.bin .Add (.bin .Add (.bin .Mult (.var 0) (.int 69621)) (.bin .Mult (.var 1) (.int 16807))) (.int 1013)) (.int 2147483647))) MR
noncomputable abbrev EW:ISs:=MS
noncomputable def MU:GI:={bl:=GB,gl:=GL,fns:=[]}
theorem ZdP:chkSs MU (X2 ZU) ["number","salt","mixed"] EW (X5 ZU)=true:=by decide+kernel
noncomputable def MW:ISs:=.cons (.ret (.var 8)) .nil
noncomputable def MX:ISs:=.cons (.expr (.mt .append (.var 8) (.cons (.bin .Add (.bin .Add (.sl (.var 7) .none (.some (.var 6))) (.var 10)) (.sl (.var 7) (.some (.bin .Add (.var 6) (.int 1))) .none)) .nil))) .nil
noncomputable def MY:ISs:=.cons (.expr (.mt .append (.var 8) (.cons (.bin .Add (.bin .Mult (.ix (.var 2) (.var 3)) (.bin .Mod (.var 9) (.int 4))) (.var 10)) .nil))) .nil
noncomputable def MZ:ISs:=.cons (.ite (.cmp .Eq (.bin .Mod (.bin .FloorDiv (.var 0) (.int 13312)) (.int 2)) (.int 0)) MX MY) .nil
noncomputable def N0:ISs:=.cons (.set 10 (.ix (.var 2) (.bin .Mod (.bin .Add (.var 3) (.bin .Mult (.var 9) (.var 4))) (.int 26)))) MZ
noncomputable def N2:ISs:=.cons (.for_ (.nm 9) (.rng (.var 1)) N0) MW
noncomputable def N3:ISs:=.cons (.set 8 (.lst .nil)) N2
noncomputable def N5:ISs:=.cons (.set 7 (.mt .join (.str "") (.cons (.comp ["k"] [2,0] (.rng (.var 5)) (.nm 0) .none (.ix (.var 1) (.bin .Mod (.call 0 (.var 2) (.cons (.bin .Add (.int 20) (.var 0)) .nil)) (.int 26)))) .nil))) N3
noncomputable def N6:ISs:=.cons (.set 6 (.bin .Mod (.bin .FloorDiv (.var 0) (.int 1664)) (.var 5))) N5
noncomputable def N7:ISs:=.cons (.set 5 (.bin .Add (.int 1) (.bin .Mod (.bin .FloorDiv (.var 0) (.int 208)) (.int 8)))) N6
noncomputable def N8:ISs:=.cons (.set 4 (.ix (.lst (.cons (.int 1) (.cons (.int 3) (.cons (.int 5) (.cons (.int 7) (.cons (.int 9) (.cons (.int 11) (.cons (.int 15) (.cons (.int 17) .nil))))))))) (.bin .Mod (.bin .FloorDiv (.var 0) (.int 26)) (.int 8)))) N7
noncomputable def N9:ISs:=.cons (.set 3 (.bin .Mod (.var 0) (.int 26))) N8
noncomputable def Na:ISs:=.cons (.set 2 (.str "abcdefghijklmnopqrstuvwxyz")) N9
noncomputable abbrev EX:ISs:=Na
noncomputable def Nb:GI:={bl:=GB,gl:=GL,fns:=["_law_mix"]}
theorem ZbA:chkSs Nb (X2 ZV) ["number","many","letters","first","step","size","at","stem","names","k","sign"] EX (X5 ZV)=true:=by decide+kernel
noncomputable def Nc:ISs:=.cons (.ret (.bin .Mod (.ix (.lst (.cons (.var 2) (.cons (.var 2) (.cons (.int 0) (.cons (.bin .Sub (.bin .LShift (.int 1) (.var 1)) (.int 1)) .nil))))) (.bin .Mod (.bin .FloorDiv (.var 0) (.int 8)) (.int 4))) (.bin .LShift (.int 1) (.var 1)))) .nil
noncomputable def Nd:ISs:=.cons (.set 2 (.bin .Add (.bin .Mult (.bin .Add (.bin .Mult (.call 0 (.var 0) (.cons (.int 7) .nil)) (.int 2147483629)) (.call 0 (.var 0) (.cons (.int 8) .nil))) (.int 8)) (.bin .Mod (.var 0) (.int 8)))) Nc
noncomputable abbrev EY:ISs:=Nd
noncomputable def Nf:GI:={bl:=GB,gl:=GL,fns:=["_law_mix"]}
theorem ZcC:chkSs Nf (X2 ZW) ["number","width","far"] EY (X5 ZW)=true:=by decide+kernel
noncomputable def Ng:ISs:=.cons (.ret (.tup (.cons (.ix (.lst (.cons (.str "plus") (.cons (.str "minus") (.cons (.str "times") (.cons (.str "less") (.cons (.str "same") (.cons (.str "minus") .nil))))))) (.bin .Sub (.var 3) (.int 2))) (.cons (.var 6) (.cons (.var 7) .nil))))) .nil
noncomputable def Nh:ISs:=.cons (.ret (.tup (.cons (.str "pick") (.cons (.call 1 (.call 0 (.var 0) (.cons (.int 4) .nil)) (.cons (.var 1) (.cons (.bin .Sub (.var 2) (.int 1)) .nil))) (.cons (.var 6) (.cons (.var 7) .nil)))))) .nil
noncomputable def Ni:ISs:=.cons (.ite (.cmp .Eq (.var 3) (.int 8)) Nh .nil) Ng
noncomputable def Nj:ISs:=.cons (.set 7 (.call 1 (.call 0 (.var 0) (.cons (.int 3) .nil)) (.cons (.var 1) (.cons (.bin .Sub (.var 2) (.int 1)) .nil)))) Ni
noncomputable def Nk:ISs:=.cons (.set 6 (.call 1 (.call 0 (.var 0) (.cons (.int 2) .nil)) (.cons (.var 1) (.cons (.bin .Sub (.var 2) (.int 1)) .nil)))) Nj
noncomputable def Nl:ISs:=.cons (.ret (.tup (.cons (.str "num") (.cons (.ix (.lst (.cons (.bin .Sub (.bin .Mod (.bin .FloorDiv (.var 4) (.int 8)) (.int 9)) (.int 4)) (.cons (.var 5) (.cons (.bin .Sub (.int 0) (.var 5)) (.cons (.bin .Mod (.bin .FloorDiv (.var 4) (.int 8)) (.int 2)) .nil))))) (.bin .Mod (.bin .FloorDiv (.var 4) (.int 128)) (.int 4))) .nil)))) .nil
noncomputable def EZ:ISs:=.cons (.set 5 (.call 2 (.var 4) (.cons (.int 64) .nil))) Nl
noncomputable def Nm:ISs:=.cons (.ret (.tup (.cons (.str "var") (.cons (.ix (.var 1) (.bin .Mod (.bin .FloorDiv (.var 4) (.int 3)) (.bi .len (.var 1) .nil))) .nil)))) .nil
noncomputable def F0:ISs:=.cons (.ite (.and (.cmp .NotEq (.var 1) (.lst .nil)) (.cmp .Gt (.bin .Mod (.var 4) (.int 3)) (.int 0))) Nm .nil) EZ
noncomputable def Nn:ISs:=.cons (.ite (.or (.cmp .Eq (.var 2) (.int 0)) (.cmp .Lt (.var 3) (.int 2))) F0 .nil) Nk
noncomputable def No:ISs:=.cons (.set 4 (.call 0 (.var 0) (.cons (.int 1) .nil))) Nn
noncomputable def Np:ISs:=.cons (.set 3 (.bin .Mod (.var 0) (.int 9))) No
noncomputable abbrev F1:ISs:=Np
noncomputable def Nq:GI:={bl:=GB,gl:=GL,fns:=["_law_mix","_law_term","_law_word"]}
theorem ZcD:chkSs Nq (X2 ZX) ["number","own","deep","way","more","far","one","two"] F1 (X5 ZX)=true:=by decide+kernel
noncomputable def F2:ISs:=.cons (.ret (.tup (.cons (.str "put") (.cons (.ix (.var 3) (.bin .Mod (.bin .FloorDiv (.var 8) (.int 8)) (.bi .len (.var 3) .nil))) (.cons (.var 9) .nil))))) .nil
noncomputable def F3:ISs:=.cons (.ret (.tup (.cons (.str "jump") (.cons (.var 9) (.cons (.bin .Mod (.bin .FloorDiv (.var 8) (.int 512)) (.bin .Add (.var 4) (.int 1))) .nil))))) .nil
noncomputable def F4:ISs:=.cons (.ite (.or (.cmp .Eq (.var 7) (.int 7)) (.cmp .Eq (.var 3) (.lst .nil))) F3 .nil) F2
noncomputable def Nr:ISs:=.cons (.ret (.tup (.cons (.str "give") (.cons (.ix (.var 6) (.bin .Mod (.var 8) (.bi .len (.var 6) .nil))) (.cons (.var 9) .nil))))) .nil
noncomputable def F5:ISs:=.cons (.ite (.and (.cmp .Lt (.var 7) (.int 6)) (.cmp .NotEq (.var 6) (.lst .nil))) Nr .nil) F4
noncomputable def F6:ISs:=.cons (.set 9 (.call 1 (.call 0 (.var 0) (.cons (.int 6) .nil)) (.cons (.var 3) (.cons (.bin .Mod (.bin .FloorDiv (.var 8) (.int 64)) (.int 3)) .nil)))) F5
noncomputable def Nt:ISs:=.cons (.ret (.tup (.cons (.str "take") (.cons (.ix (.var 5) (.bin .Mod (.var 8) (.bi .len (.var 5) .nil))) (.cons (.ix (.var 3) (.bin .Mod (.bin .FloorDiv (.var 8) (.int 8)) (.bi .len (.var 3) .nil))) .nil))))) .nil
noncomputable def Nu:ISs:=.cons (.ite (.and (.cmp .Lt (.var 7) (.int 3)) (.and (.cmp .NotEq (.var 5) (.lst .nil)) (.cmp .NotEq (.var 3) (.lst .nil)))) Nt .nil) F6
noncomputable def Nv:ISs:=.cons (.set 8 (.call 0 (.var 0) (.cons (.int 5) .nil))) Nu
noncomputable def Nw:ISs:=.cons (.set 7 (.bin .Mod (.var 0) (.int 8))) Nv
noncomputable def Ny:ISs:=.cons (.set 6 (.comp ["ferry"] [1] (.seq (.var 2)) (.nm 0) (.some (.cmp .Eq (.ix (.var 0) (.int 1)) (.var 1))) (.ix (.var 0) (.int 0)))) Nw
noncomputable def Nz:ISs:=.cons (.set 5 (.comp ["ferry"] [1] (.seq (.var 2)) (.nm 0) (.some (.cmp .Eq (.ix (.var 0) (.int 2)) (.var 1))) (.ix (.var 0) (.int 0)))) Ny
noncomputable abbrev F7:ISs:=Nz
noncomputable def NA:GI:={bl:=GB,gl:=GL,fns:=["_law_mix","_law_term"]}
theorem ZcE:chkSs NA (X2 ZY) ["number","name","ferries","own","many","takes","gives","way","more","term"] F7 (X5 ZY)=true:=by decide+kernel
noncomputable def F8:ISs:=.cons (.ret (.var 3)) .nil
noncomputable def NB:ISs:=.cons (.expr (.mt .append (.var 3) (.cons (.bin .Add (.var 8) (.tup (.cons (.bin .Mod (.bin .FloorDiv (.var 5) (.int 64)) (.int 4)) (.cons (.bin .Add (.int 1) (.bin .Mod (.bin .FloorDiv (.var 5) (.int 256)) (.int 3))) .nil)))) .nil))) .nil
noncomputable def NC:ISs:=.cons (.set 8 (.tup (.cons (.ix (.var 1) (.bin .Add (.int 5) (.var 4))) (.cons (.ix (.var 1) (.var 6)) (.cons (.ix (.var 1) (.var 7)) .nil))))) NB
noncomputable def ND:ISs:=.cons (.set 7 (.bin .Mod (.bin .Add (.bin .Add (.var 6) (.int 1)) (.bin .Mod (.bin .FloorDiv (.var 5) (.int 8)) (.bin .Sub (.var 2) (.int 1)))) (.var 2))) NC
noncomputable def NE:ISs:=.cons (.set 6 (.bin .Mod (.var 5) (.var 2))) ND
noncomputable def NF:ISs:=.cons (.set 5 (.call 0 (.var 0) (.cons (.bin .Add (.int 10) (.var 4)) .nil))) NE
noncomputable def NG:ISs:=.cons (.for_ (.nm 4) (.rng (.bin .Mod (.bin .FloorDiv (.var 0) (.int 8)) (.int 7))) NF) .nil
noncomputable def NH:ISs:=.cons (.ite (.cmp .Gt (.var 2) (.int 1)) NG .nil) F8
noncomputable def NI:ISs:=.cons (.set 3 (.lst .nil)) NH
noncomputable abbrev F9:ISs:=NI
noncomputable def NJ:GI:={bl:=GB,gl:=GL,fns:=["_law_mix"]}
theorem Z9I:chkSs NJ (X2 ZZ) ["number","names","many","ferries","j","more","giver","taker","ends"] F9 (X5 ZZ)=true:=by decide+kernel
noncomputable def NK:ISs:=.cons (.ret (.tup (.cons (.var 6) (.cons (.var 8) (.cons (.var 7) .nil))))) .nil
noncomputable def NL:ISs:=.cons (.expr (.mt .append (.var 8) (.cons (.tup (.cons (.ix (.var 4) (.var 9)) (.cons (.var 14) (.cons (.var 15) .nil)))) .nil))) .nil
noncomputable def NM:ISs:=.cons (.set 15 (.comp ["cell"] [7,11,13,4,9] (.seq (.sl (.var 12) .none (.some (.int 12)))) (.nm 0) .none (.call 4 (.call 2 (.var 0) (.cons (.int 4) .nil)) (.cons (.ix (.var 4) (.var 5)) (.cons (.var 1) (.cons (.var 2) (.cons (.var 3) .nil))))))) NL
noncomputable def NN:ISs:=.cons (.set 14 (.comp ["j"] [11,6,10] (.rng (.bi .len (.var 11) .nil)) (.nm 0) .none (.tup (.cons (.ix (.var 1) (.var 0)) (.cons (.call 5 (.call 2 (.var 3) (.cons (.var 0) .nil)) (.cons (.var 2) .nil)) .nil))))) NM
noncomputable def NO:ISs:=.cons (.set 13 (.bi .min (.bi .len (.var 12) .nil) (.cons (.int 12) .nil))) NN
noncomputable def NP:ISs:=.cons (.set 12 (.comp ["k"] [0,9,3,1] (.rng2 (.var 1) (.bi .len (.var 0) .nil)) (.nm 0) (.some (.cmp .Eq (.bin .Mod (.bin .Sub (.var 0) (.var 4)) (.var 3)) (.var 2))) (.bin .Mod (.ix (.var 1) (.var 0)) (.int 1000000007)))) NO
noncomputable def NQ:ISs:=.cons (.set 11 (.sl (.var 4) (.some (.int 11)) (.some (.bin .Add (.int 11) (.bin .Mod (.var 10) (.int 5)))))) NP
noncomputable def NR:ISs:=.cons (.set 10 (.call 2 (.var 5) (.cons (.bin .Add (.int 20) (.var 9)) .nil))) NQ
noncomputable def NS:ISs:=.cons (.for_ (.nm 9) (.rng (.var 3)) NR) NK
noncomputable def NT:ISs:=.cons (.set 8 (.lst .nil)) NS
noncomputable def NU:ISs:=.cons (.set 7 (.call 1 (.var 2) (.cons (.var 4) (.cons (.var 3) .nil)))) NT
noncomputable def NV:ISs:=.cons (.set 6 (.ix (.lst (.cons (.bin .Add (.int 1) (.bin .Mod (.bin .FloorDiv (.var 5) (.int 4)) (.int 64))) (.cons (.int 64) (.cons (.bin .Add (.int 1) (.bin .Mod (.bin .FloorDiv (.var 5) (.int 4)) (.int 5))) (.cons (.int 8) .nil))))) (.bin .Mod (.var 5) (.int 4)))) NU
noncomputable def NW:ISs:=.cons (.set 5 (.call 2 (.call 0 (.var 0) (.cons (.int 2) .nil)) (.cons (.int 3) .nil))) NV
noncomputable def NX:ISs:=.cons (.set 4 (.call 3 (.call 2 (.call 0 (.var 0) (.cons (.int 1) .nil)) (.cons (.int 2) .nil)) (.cons (.int 15) .nil))) NW
noncomputable def NY:ISs:=.cons (.set 3 (.ix (.lst (.cons (.int 2) (.cons (.int 3) (.cons (.int 4) (.cons (.int 5) (.cons (.int 2) (.cons (.int 3) (.cons (.int 1) (.cons (.int 0) .nil))))))))) (.bin .Mod (.var 2) (.int 8)))) NX
noncomputable def NZ:ISs:=.cons (.set 2 (.call 2 (.call 0 (.var 0) (.cons (.int 0) .nil)) (.cons (.int 1) .nil))) NY
noncomputable abbrev Fa:ISs:=NZ
noncomputable def O0:GI:={bl:=GB,gl:=GL,fns:=["_law_cell","_law_ferries","_law_mix","_law_names","_law_step","_law_word"]}
theorem Zbz:chkSs O0 (X2 U0) ["script","start","head","many","names","size","width","ferries","islands","i","more","own","cells","long","pairs","steps"] Fa (X5 U0)=true:=by decide+kernel
noncomputable def O1:ISs:=.cons (.ret (.call 0 (.ix (.var 0) (.int 0)) (.cons (.var 1) (.cons (.bi .list (.ix (.var 0) (.int 2)) .nil) .nil)))) .nil
noncomputable def O2:ISs:=.cons (.set 1 (.comp ["name","pairs","steps"] [] (.seq (.ix (.var 0) (.int 1))) (.tup (.cons (.nm 0) (.cons (.nm 1) (.cons (.nm 2) .nil)))) .none (.tup (.cons (.var 0) (.cons (.bi .list (.var 1) .nil) (.cons (.bi .list (.var 2) .nil) .nil)))))) O1
noncomputable abbrev Fb:ISs:=O2
noncomputable def O3:GI:={bl:=GB,gl:=GL,fns:=["made"]}
theorem ZcF:chkSs O3 (X2 U4) ["parts","islands"] Fb (X5 U4)=true:=by decide+kernel
noncomputable def O4:ISs:=.cons (.ret (.and (.cmp .Eq (.b2 .tset (.var 0)) (.bi .len (.var 0) .nil)) (.or (.cmp .In (.var 4) (.var 1)) (.cmp .In (.var 4) (.var 2))))) .nil
noncomputable def O5:ISs:=.cons (.ret (.cmp .Eq (.b2 .tset (.var 0)) (.bin .Sub (.bi .len (.var 0) .nil) (.int 1)))) .nil
noncomputable def O6:ISs:=.cons (.ite (.cmp .In (.var 4) (.sl (.var 0) .none (.some (.neg (.int 1))))) O5 .nil) O4
noncomputable def O7:ISs:=.cons (.set 4 (.ix (.var 0) (.neg (.int 1)))) O6
noncomputable def Z7D:ISs:=.cons (.ret (.bl false)) .nil
noncomputable def O8:ISs:=.cons (.ite (.or (.cmp .In (.var 3) (.var 1)) (.cmp .In (.var 3) (.var 2))) Z7D .nil) .nil
noncomputable def O9:ISs:=.cons (.for_ (.nm 3) (.seq (.sl (.var 0) .none (.some (.neg (.int 1))))) O8) O7
noncomputable abbrev Fc:ISs:=O9
noncomputable def Oa:GI:={bl:=GB,gl:=GL,fns:=[]}
theorem Z7G:chkSs Oa (X2 U5) ["row","idle","names","name","last"] Fc (X5 U5)=true:=by decide+kernel
noncomputable def Fd:ISs:=.cons (.ret (.bl true)) .nil
noncomputable def Zls:ISs:=.cons (.ret (.bl false)) .nil
noncomputable def Ob:ISs:=.cons (.ite (.and (.cmp .Eq (.var 6) (.lst .nil)) (.and (.cmp .Lt (.bi .len (.var 9) .nil) (.int 2)) (.cmp .NotIn (.ix (.var 8) (.int 0)) (.var 7)))) Zls .nil) .nil
noncomputable def Zlt:ISs:=.cons (.ret (.bl false)) .nil
noncomputable def Oc:ISs:=.cons (.ite (.or (.cmp .NotEq (.ix (.var 9) (.int 0)) (.ix (.var 8) (.int 0))) (.not (.call 0 (.var 9) (.cons (.var 7) (.cons (.var 6) .nil))))) Zlt .nil) Ob
noncomputable def Od:ISs:=.cons (.set 9 (.call 3 (.var 2) (.cons (.var 4) (.cons (.ix (.var 8) (.int 0)) .nil)))) Oc
noncomputable def Fe:ISs:=.cons (.for_ (.nm 8) (.seq (.ix (.var 1) (.int 1))) Od) .nil
noncomputable def ZnL:ISs:=.cons (.ret (.bl false)) .nil
noncomputable def Oe:ISs:=.cons (.ite (.and (.cmp .Eq (.var 6) (.lst .nil)) (.cmp .NotEq (.var 5) (.var 4))) ZnL .nil) Fe
noncomputable def Of:ISs:=.cons (.set 7 (.comp ["island"] [4] (.seq (.ix (.var 1) (.int 1))) (.nm 0) (.some (.cmp .Eq (.ix (.ix (.var 1) (.int 0)) (.ix (.var 0) (.int 0))) (.bi .len (.ix (.var 0) (.int 2)) .nil))) (.ix (.var 0) (.int 0)))) Oe
noncomputable def Og:ISs:=.cons (.asg (.cons (.nm 5) (.cons (.nm 6) .nil)) (.call 4 (.var 2) (.cons (.var 4) .nil))) Of
noncomputable def Oh:ISs:=.cons (.for_ (.nm 4) (.seq (.st3 (.var 3))) Og) Fd
noncomputable def Oi:ISs:=.cons (.set 3 (.call 5 (.var 2) (.cons (.int 30) .nil))) Oh
noncomputable def Oj:ISs:=.cons (.set 2 (.call 1 (.var 1) .nil)) Oi
noncomputable def Ol:ISs:=.cons (.set 1 (.call 2 (.var 0) (.cons (.int 3) .nil))) Oj
noncomputable abbrev Ff:ISs:=Ol
noncomputable def Om:GI:={bl:=GB,gl:=GL,fns:=["_law_ends_well","_law_made","_law_world","chain","round_of","run_plain"]}
theorem ZnU:chkSs Om (X2 YS) ["script","parts","world","stands","stand","behind","names","idle","island","row"] Ff (X5 YS)=true:=by decide+kernel
theorem szl:sizeLine=16777216:=by decide
theorem na10:Int.natAbs 10=10:=rfl
theorem na1:Int.natAbs 1=1:=rfl
theorem na2:Int.natAbs 2=2:=rfl
theorem at0{α:Type}{x:α}{xs:List α}:atI (x::xs) 0=some x:=by unfold atI ixN;simp
theorem at1{α:Type}{x y:α}{xs:List α}:atI (x::y::xs) 1=some y:=XQ (j:=1) (by rfl)
theorem at2{α:Type}{x y z:α}{xs:List α}:atI (x::y::z::xs) 2=some z:=XQ (j:=2) (by rfl)
theorem at3{α:Type}{x y z u:α}{xs:List α}:atI (x::y::z::u::xs) 3=some u:=XQ (j:=3) (by rfl)
theorem at4{α:Type}{x y z u v:α}{xs:List α}:atI (x::y::z::u::v::xs) 4=some v:=XQ (j:=4) (by rfl)
theorem Zoa{a b:String}:(XX a=XX b)↔a=b:=by
 constructor
 ·intro h;rw[Str.ofString_eq_toList,Str.ofString_eq_toList]at h;have h1:a.toList.map BM=b.toList.map BM:=by
   have:=congrArg (λs:Str=>s.cps.toList) h
   simpa using this
  have inj:∀(xs ys:List Char),xs.map BM=ys.map BM->xs=ys:=by
   intro xs
   induction xs with
   |nil=>
    intro ys e;cases ys with
    |nil=>rfl
    |cons _ _=>cases e
   |cons x r ih=>
    intro ys e;cases ys with
    |nil=>cases e
    |cons y s=>
     rw[XA,XA]at e;injection e with e1 e2;rw[ih s e2,Char.toNat_inj.mp e1]
  exact String.toList_inj.mp (inj _ _ h1)
 ·intro h;rw[h]
theorem Yb{c A B:Prop} [Decidable c] (h1:c->A)(h2:¬c->B):if c then A else B:=by
 split
 ·exact h1 ‹_›
 ·exact h2 ‹_›
theorem isN0:YX .non=true:=rfl
theorem isN1{b:Bool}:YX (.bl b)=false:=rfl
theorem isN2{b:Int}:YX (.int b)=false:=rfl
theorem isN3{b:Str}:YX (.str b)=false:=rfl
theorem isN4{b:List MV}:YX (.tup b)=false:=rfl
theorem isN5{b:Addr}:YX (.ref b)=false:=rfl
theorem isN6{b:List MV}:YX (.frl b)=false:=rfl
theorem isB0{c:Bool}:isBl c .non=false:=rfl
theorem isB1{b c:Bool}:isBl c (.bl b)=decide (b=c):=rfl
theorem isB2{c:Bool}{b:Int}:isBl c (.int b)=false:=rfl
theorem isB3{c:Bool}{b:Str}:isBl c (.str b)=false:=rfl
theorem isB4{c:Bool}{b:List MV}:isBl c (.tup b)=false:=rfl
theorem isB5{c:Bool}{b:Addr}:isBl c (.ref b)=false:=rfl
local macro_rules | `(tactic| walk_at "s") => `(tactic| simp only [seval, szl, na10, na1, na2, Nat.zero_add, Nat.reduceAdd, Nat.zero_le, at0, at1, at2, at3, at4, Zoa, Xh, Zof, Zmf, Zmd, Zoj, Zoi, Zkc, Zod, Zmc, Zoc, Zok, Zoe, Zme, Zog, Zoh, Zkb, v_s, b_0, f_s, ZpC, ZpK, ZpE, e_bl, ZpH, ZpM, e_ty, ZpP, ZpI, ZpG, ZpN, ZpO, ZpQ, e_or, ZpL, ZpD, ZpJ, e_ix, e_sl, ZnR, e_bi, e_b2, ZpF, ZoF, e_mt, ZmY, Zku, ZnQ, Zlx, Znk, Znj, ZnN, ZnM, ZoD, ZoA, ZoC, ZoB, isN0, isN1, isN2, isN3, isN4, isN5, isN6, isTy, Zpi, ZoE, Zp5, ZmQ, Jb, ZoN, ZmU, Zmz, ZmT, q_lt, q_le, Zp6, q_gt, Zpe, Zp3, Zpc, Zp1, Zpf, Zp4, q_is, Zkp, isB0, isB1, isB2, isB3, isB4, isB5, ZmN, Zko, ZoH, Zov, ZoT, Zpd, Zp2, Zpb, Zp0, q_in, ZoZ, Jc, Jd, Zkn, Zkm, Je, Zp8, Zp7, ZoL, Zmt, ZoM, ZoJ, ZoK, ZmF, ZmI, ZmG, ZmH, Zkk, Zkl, Zp9, ZmM, Zos, Zot, Zop, Zor, Zoo, Zoq, Zmn, Zmo, ZmE, ZmC, Zkh, Zkj, Zki, Zmp, Zmq, ZmR, Zkq, Zkr, Zph, Zpg, ZmS, Zpa, Zmy, Zmx, ZoY, ZmJ, ZoR, Zkg, ZoO, ZoI, Zmr, Zms, Zoz, Zoy, Zox, Zow, ZoX, ZoW, ZoV, ZoU, ZoG, ZoP, ZoQ, Zmv, Zmu, Zou, ZoS, Zmw, ZmD, ZmB, ZmO, ZmP, Ak, CMul, CPow, List.getElem?_cons_zero, List.getElem?_cons_succ, Option.some.injEq,
  MV.int.injEq, MV.str.injEq, MV.bl.injEq, MV.tup.injEq, MV.frl.injEq, MV.ref.injEq, MV.ty.injEq, MO.lst.injEq, MO.dic.injEq, MO.ins.injEq, Prod.mk.injEq, exists_eq_left', exists_eq_left, exists_eq_right, exists_eq_right', exists_and_left, exists_eq, exists_const, true_and, and_true, false_and, and_false, true_or, or_true, false_or, or_false, reduceCtorEq, ne_eq, not_false_eq_true, not_true_eq_false,
  List.set_cons_zero, List.set_cons_succ, decide_eq_true_eq, Bool.not_eq_true', decide_eq_false_iff_not, if_true, if_false, Bool.false_eq_true, ite_true, ite_false, reduceIte, List.length_cons, List.length_nil, and_self, String.reduceEq, String.reduceNe, Int.reduceLT, Int.reduceLE, Int.reducePow, Int.reduceNeg, Int.reduceToNat, Int.reduceSub, Int.reduceAdd, Int.reduceMul, Nat.reduceLT, Nat.reducePow, Nat.reduceLeDiff])
theorem Zlw{α:Sort _}{p q:α->Prop}(h:∀a,p a->q a):(∃a,p a)->∃a,q a:=fun⟨a,x⟩=>⟨a,h a x⟩
theorem Zj2{a b c:Prop}(h:b->c):a/\b->a/\c:=λx=>⟨x.1,h x.2⟩
theorem Zhz{a b c d:Prop}(h:a->c)(g:b->d):a/\b->c/\d:=λx=>⟨h x.1,g x.2⟩
theorem ZkH{a b c d:Prop}(h:a->c)(g:b->d):a\/b->c\/d:=λx=>x.elim (λy=>.inl (h y)) λy=>.inr (g y)
theorem Zj3{α:Sort _}{p q:α->Prop}(h:∀a,p a->q a):(∀a,p a)->∀a,q a:=λx a=>h a (x a)
local macro_rules | `(tactic| walk_at "m") => `(tactic| (intro vs M Q Q' hq; repeat (first | exact hq _ _ | exact id | refine Zlw fun _ => ?_ | refine Zj2 ?_ | refine Zhz ?_ ?_ | refine Zj3 fun _ => ?_ | refine ZkH ?_ ?_)))
noncomputable def SameM(M M':MH):Prop:=∀a o,M a=some o->M' a=some o
theorem SameM.refl(M:MH):SameM M M:=λ_ _ h=>h
theorem SameM.trans{M M1 M2:MH}(a:SameM M M1)(b:SameM M1 M2):SameM M M2:=λc o h=>b c o (a c o h)
theorem neM{M:MH}{a p:Addr}{o:MO}(h:M a=some o)(hp:M p=none):a≠p:=by intro e;subst e;rw[h]at hp;cases hp
theorem SameM.new{M:MH}{p:Addr}(h:M p=none)(o:MO):SameM M (updM M p o):=λa u e=>by rw[XD (neM e h)];exact e
theorem SameM.free{M M':MH}(s:SameM M M'){p:Addr}(h:M' p=none):M p=none:=by
 cases e:M p with
 |none=>rfl
 |some o=>rw[s _ _ e]at h;cases h
theorem SameM.upd{M M':MH}(s:SameM M M'){p:Addr}(h:M p=none)(o:MO):SameM M (updM M' p o):=λa u e=>by rw[XD (neM e h)];exact s a u e
theorem AI{lo:Int}{n i:Nat}{x:MV}(h:(Src.rng lo n).items[i]?=some x):i<n/\x=.int (lo+(i:Nat)):=by
 have hi:=(XE.mp h).1;rw[Src.items_len]at hi;refine⟨hi,?_⟩;have h':((XM n).map λi=>MV.int (lo+(i:Nat)))[i]?=some x:=h;rw[Xo,X8 (by simpa using(show i<n from hi))]at h'
 simpa using h'.symm
theorem Yq{α:Type}{f:α->MV}{xs:List α}{i:Nat}{x:MV}(h:(xs.map f)[i]?=some x):∃hi:i<xs.length,x=f xs[i]:=by
 have hi:=(XE.mp h).1;rw[X7]at hi;refine⟨hi,?_⟩;rw[Xo,X8 hi]at h;exact(Yg h).symm
theorem Uk{Φ:List (Str×SpM)}(hm:∀p∈Φ,MonW p.2):∀(j:Nat) f sp,Φ[j]?=some (f,sp)->MonW sp:=λj f sp h=>hm (f,sp) (XG h)
theorem Zfi(xs:List MV)(k:Nat):cutM xs none (some (k:Int))=xs.take k:=by
 unfold cutM;rw[HT.sIx_none,HT.sIx_nat];simp
theorem Zfj(xs:List MV)(k:Nat):cutM xs (some (k:Int)) none=xs.drop k:=by
 unfold cutM;rw[HT.sIx_none,HT.sIx_nat];by_cases h:k≤xs.length
 ·rw[D3 h,V7 (by rw[V8];exact Xl _)]
 ·rw[CZ (by lia),Bh (Xl _),Bh (by lia)]
  simp
theorem C9{κ:Type} [DecidableEq κ] (k:κ)(v:MV)(j:κ):∀kvs:List (κ×MV),valM (putM kvs k v) j=if j=k then some v else valM kvs j
 |[]=>by
  unfold putM valM;by_cases e:k=j
  ·rw[if_pos e,if_pos e.symm]
  ·rw[if_neg e,if_neg (λz=>e z.symm)]
   rfl
 |(i,u)::r=>by
  unfold putM;by_cases e:i=k
  ·rw[if_pos e];subst e;unfold valM;by_cases f:i=j
   ·rw[if_pos f,if_pos f.symm]
   ·rw[if_neg f,if_neg (λz=>f z.symm),if_neg f]
  ·rw[if_neg e];unfold valM;by_cases f:i=j
   ·rw[if_pos f,if_neg (λz=>e (f.trans z)),if_pos f]
   ·rw[if_neg f,C9 k v j r,if_neg f]
inductive Form where|plus|minus|times|less|same
noncomputable def Form.str:Form->Str
 |.plus=>"plus"|.minus=>"minus"|.times=>"times"|.less=>"less"|.same=>"same"
inductive Tm where
 |num (n:Int)|var (x:Str)|two (f:Form) (a b:Tm)|pick (c a b:Tm)
noncomputable def Tm.depth:Tm->Nat
 |.num _=>1|.var _=>1|.two _ a b=>1+max a.depth b.depth|.pick c a b=>1+max c.depth (max a.depth b.depth)
noncomputable def Tm.size:Tm->Nat
 |.num _=>1|.var _=>1|.two _ a b=>1+(a.size+b.size)|.pick c a b=>1+(c.size+(a.size+b.size))
noncomputable def Tm.reads:Tm->List Str
 |.num _=>[]|.var x=>[x]|.two _ a b=>a.reads++b.reads|.pick c a b=>c.reads++(a.reads++b.reads)
noncomputable def twoV(w:Nat)(l r:Int):Form->Int
 |.plus=>(l+r)%2^w
 |.minus=>(l - r)%2^w
 |.times=>(l*r)%2^w
 |.less=>if l<r then 1 else 0
 |.same=>if l=r then 1 else 0
noncomputable def Tm.val(ρ:Str->Int)(w:Nat):Tm->Int
 |.num n=>n%2^w
 |.var x=>ρ x
 |.two f a b=>twoV w (a.val ρ w) (b.val ρ w) f
 |.pick c a b=>if c.val ρ w≠0 then a.val ρ w else b.val ρ w
theorem AJ(w:Nat):(0:Int)<2^w:=Int.pow_pos (by decide)
theorem Zkw{w:Nat}(h:1≤w):(2:Int)≤2^w:=by
 obtain⟨k,rfl⟩:∃k,w=k+1:=⟨w - 1,by lia⟩
 rw[Int.pow_succ];have:=AJ k;lia
theorem Zn0{w:Nat}(h:w≤64):(2:Int)^w≤2^64:=by
 have:=Nat.pow_le_pow_right (n:=2) (by decide) h
 have e1:(2:Int)^w=((2^w:Nat):Int):=by rw[Int.natCast_pow];rfl
 have e2:(2:Int)^64=((2^64:Nat):Int):=by decide
 rw[e1,e2];exact Int.ofNat_le.mpr this
theorem AK(x:Int)(w:Nat):0≤x%2^w/\x%2^w<2^w:=⟨Yo _ (Int.ne_of_gt (AJ w)),YB _ (AJ w)⟩
theorem twoV_in{w:Nat}(hw:1≤w)(l r:Int)(f:Form):0≤twoV w l r f/\twoV w l r f<2^w:=by
 have:=Zkw hw;cases f
 ·exact AK _ _
 ·exact AK _ _
 ·exact AK _ _
 ·unfold twoV;split<;>lia
 ·unfold twoV;split<;>lia
theorem Tm.val_in{ρ:Str->Int}{w:Nat}(hw:1≤w):∀{T:Tm},(∀x∈T.reads,0≤ρ x/\ρ x<2^w)->0≤T.val ρ w/\T.val ρ w<2^w
 |.num n,_=>AK _ _
 |.var x,h=>h x (by simp[Tm.reads])
 |.two f a b,_=>twoV_in hw _ _ f
 |.pick c a b,h=>by
  unfold Tm.val;split
  ·exact a.val_in hw λx hx=>h x (by simp[Tm.reads,hx])
  ·exact b.val_in hw λx hx=>h x (by simp[Tm.reads,hx])
theorem Tm.depth_pos:∀T:Tm,1≤T.depth
 |.num _=>Xl _
 |.var _=>Xl _
 |.two _ _ _=>Nat.le_add_right _ _
 |.pick _ _ _=>Nat.le_add_right _ _
noncomputable def Tm.mv:Tm->MV
 |.num n=>.tup [.str "num",.int n]
 |.var x=>.tup [.str "var",.str x]
 |.two f a b=>.tup [.str f.str,a.mv,b.mv]
 |.pick c a b=>.tup [.str "pick",c.mv,a.mv,b.mv]
theorem On(f:Form):¬f.str="num":=by cases f<;>decide+kernel
theorem Fg(f:Form):¬f.str="var":=by cases f<;>decide+kernel
theorem Zh3(f:Form):¬f.str="pick":=by cases f<;>decide+kernel
inductive Stp where
 |take (f x:Str)|give (f:Str) (T:Tm)|put (x:Str) (T:Tm)|jump (T:Tm) (i:Int)
noncomputable def Stp.mv:Stp->MV
 |.take f x=>.tup [.str "take",.str f,.str x]
 |.give f T=>.tup [.str "give",.str f,T.mv]
 |.put x T=>.tup [.str "put",.str x,T.mv]
 |.jump T i=>.tup [.str "jump",T.mv,.int i]
noncomputable def tmOk(ns:List Str)(T:Tm):Prop:=T.depth≤8/\T.size≤30/\∀x∈T.reads,x∈ns
noncomputable def Stp.ok(ns:List Str)(n:Nat):Stp->Prop
 |.take _ x=>x∈ns
 |.give _ T=>tmOk ns T
 |.put x T=>x∈ns/\tmOk ns T
 |.jump T i=>tmOk ns T/\0≤i/\i≤n
noncomputable def Ca(M:MH)(x:MV)(xs:List MV):Prop:=x=.tup xs\/∃a,x=.ref a/\M a=some (.lst xs)
noncomputable def readsOk(ns:List Str)(kvs:List (Key×MV))(ρ:Str->Int)(w:Nat):Prop:=∀x∈ns,valM kvs (XB x)=some (.int (ρ x))/\0≤ρ x/\ρ x<2^w
theorem readsOk.tm{ns:List Str}{kvs:List (Key×MV)}{ρ:Str->Int}{w:Nat}(h:readsOk ns kvs ρ w){T:Tm}(o:tmOk ns T):∀x∈T.reads,valM kvs (XB x)=some (.int (ρ x))/\0≤ρ x/\ρ x<2^w:=λx hx=>h x (o.2.2 x hx)
section
variable{P:Xm}{w:Xj}{K:X6}{mg:Str->Option X0}{base:Heap}{t:Adr}
noncomputable abbrev Vk:SpM:=λvs M Q=>∃k:Nat,vs=[.int k]/\k≤64/\Q (.int (2^k)) M
theorem Fh:MonW Vk:=by walk_at "m"
theorem Fi(T:Txt K mg t):FnOk P w K mg base CX0 1 t.f_two_to t.d_two_to ["exponent"] (liSp K Vk):=by
 refine T.F_two_to.okM Zg0 (Xx (Φ:=[]) (Xy T) (Xz T) rfl nl0 nl0:Fts P w K mg base 0 Jr []) DW Zhf (λvs M Q h=>?_) (λvs M Q h=>?_)
 ·obtain⟨k,rfl,_⟩:=h;rfl
 obtain⟨k,rfl,hk,q⟩:=h;show wSs _ _ _ [some (.int k),none,none] M;rw[DW,Jq];walk_at "s";rw[Jp];walk_at "s";refine⟨by lia,by lia,λi σ M'=>M'=M/\∃v,σ=[some (.int k),some (.int (2^i)),v],⟨rfl,_,rfl⟩,λ_ _ _ _=>trivial,?_,?_⟩
 ·rintro i x σ M' hx ⟨rfl,v,rfl⟩;obtain⟨hi,rfl⟩:=AI hx;rw[Jo];walk_at "s";exact⟨_,by rw[Int.pow_succ]⟩
 ·rintro σ M' ⟨rfl,v,rfl⟩;rw[Jn];walk_at "s";exact q
noncomputable abbrev WH:SpM:=λvs M Q=>∃(w:Nat) (n:Int),vs=[.int w,.int n]/\w≤64/\Q (.int (n%2^w)) M
theorem Oo:MonW WH:=by walk_at "m"
theorem Op(T:Txt K mg t):FnOk P w K mg base CX0 2 t.f_cut t.d_cut ["width","number"] (liSp K WH):=by
 refine T.F_cut.okM Zmb (Xx (Φ:=[("two_to",Vk)]) (Xy T) (Xz T) rfl (fMc ⟨Fh,nl0⟩) (fMc ⟨⟨_,_,_,(FnOk.mono (Fi T) (by decide)),T.m_two_to,T.F_two_to.kp,T.b_two_to⟩,nl0⟩):Fts P w K mg base 1 Jv [("two_to",Vk)]) DY ZnV (fun vs M Q h=>?_) (fun vs M Q h=>?_)
 ·obtain⟨k,n,rfl,_⟩:=h;rfl
 obtain⟨w,n,rfl,hw,q⟩:=h;show wSs _ _ _ [some (.int w),some (.int n)] M;rw[DY,Ju];walk_at "s";exact⟨w,rfl,hw,AJ w,q⟩
noncomputable abbrev Cb:SpM:=λvs M Q=>∃(f:Form) (l r:Int) (w:Nat),vs=[.str f.str,.int l,.int r,.int w]/\w≤64/\(-(2^64)<l/\l<2^64)/\Q (.int (twoV w l r f)) M
theorem Z6a:MonW Cb:=by walk_at "m"
theorem Z8V(T:Txt K mg t):FnOk P w K mg base CX0 3 t.f_worth_of_two t.d_worth_of_two ["form","left","right","width"] (liSp K Cb):=by
 refine T.F_worth_of_two.okM Z8N (Xx (Φ:=[("cut",WH)]) (Xy T) (Xz T) rfl (fMc ⟨Oo,nl0⟩) (fMc ⟨⟨_,_,_,(FnOk.mono (Op T) (by decide)),T.m_cut,T.F_cut.kp,T.b_cut⟩,nl0⟩):Fts P w K mg base 2 JU [("cut",WH)]) E8 Z9E (fun vs M Q h=>?_) (fun vs M Q h=>?_)
 ·obtain⟨f,l,r,w,rfl,_⟩:=h;rfl
 obtain⟨f,l,r,w,rfl,hw,hl,q⟩:=h;show wSs _ _ _ [some (.str f.str),some (.int l),some (.int r),some (.int w)] M;rw[E8,JT];walk_at "s";cases f with
 |plus=>
  rw[if_pos (by rfl),JS]
  walk_at "s";exact⟨w,_,rfl,hw,q⟩
 |minus=>
  rw[if_neg (by decide+kernel),AC]
  walk_at "s";rw[if_pos (by rfl),JR]
  walk_at "s";exact⟨w,_,rfl,hw,q⟩
 |times=>
  rw[if_neg (by decide+kernel),AC]
  walk_at "s";rw[if_neg (by decide+kernel),C5]
  walk_at "s";rw[if_pos (by rfl),JQ]
  walk_at "s";exact⟨.inl hl,w,_,rfl,hw,q⟩
 |less=>
  rw[if_neg (by decide+kernel),AC]
  walk_at "s";rw[if_neg (by decide+kernel),C5]
  walk_at "s";rw[if_neg (by decide+kernel),E7]
  walk_at "s";rw[if_pos (by rfl),JP]
  walk_at "s";unfold twoV at q;split<;>simp_all
 |same=>
  rw[if_neg (by decide+kernel),AC]
  walk_at "s";rw[if_neg (by decide+kernel),C5]
  walk_at "s";rw[if_neg (by decide+kernel),E7]
  walk_at "s";rw[if_neg (by decide+kernel),JO]
  walk_at "s";unfold twoV at q;split<;>simp_all
noncomputable abbrev U6(n:Nat):SpM:=λvs M Q=>∃(T:Tm) (w:Nat) (d:Addr) (kvs:List (Key×MV)) (ρ:Str->Int),vs=[T.mv,.int w,.ref d]/\T.depth≤n/\1≤w/\w≤64/\M d=some (.dic kvs)/\
 (∀x∈T.reads,valM kvs (XB x)=some (.int (ρ x))/\0≤ρ x/\ρ x<2^w)/\Q (.int (T.val ρ w)) M
theorem Cc(n:Nat):MonW (U6 n):=by walk_at "m"
theorem Cd(T:Txt K mg t):∀n:Nat,FnOk P w K mg base CX0 (n+3) t.f_worth t.d_worth ["T","width","words"] (liSp K (U6 n))
 |0=>by
  have no:∀vs M Q,¬U6 0 vs M Q:=λvs M Q h=>by
   obtain⟨T,w,d,kvs,ρ,_,h0,_⟩:=h;have:=T.depth_pos;lia
  exact⟨λvs H Q E ⟨ms,M,r,rh,h⟩=>absurd h (no _ _ _),λA outer s H args us vs Q E _ _ _ _ ⟨ms,M,r,rh,h⟩=>absurd h (no _ _ _)⟩
 |n+1=>by
  have ih:=Cd T n;refine T.F_worth.okM ZhZ (Xx (Φ:=[("cut",WH),("worth",(U6 n)),("worth_of_two",Cb)]) (Xy T) (Xz T) rfl (fMc ⟨Oo,(fMc ⟨(Cc _),(fMc ⟨Z6a,nl0⟩)⟩)⟩) (fMc ⟨⟨_,_,_,FnOk.mono (Op T) (by lia),T.m_cut,T.F_cut.kp,T.b_cut⟩,(fMc ⟨⟨_,_,_,ih,T.m_worth,T.F_worth.kp,T.b_worth⟩,(fMc ⟨⟨_,_,_,FnOk.mono (Z8V T) (by lia),T.m_worth_of_two,T.F_worth_of_two.kp,T.b_worth_of_two⟩,nl0⟩)⟩)⟩):Fts P w K mg base (n+3) K0 [("cut",WH),("worth",(U6 n)),("worth_of_two",Cb)]) Eb ZiP (fun vs M Q h=>?_) (fun vs M Q h=>?_)
  ·obtain⟨T,w,d,kvs,ρ,rfl,_⟩:=h;rfl
  obtain⟨U,w,d,kvs,ρ,rfl,hn,hw1,hw,hd,hr,q⟩:=h;show wSs _ _ _ [some U.mv,some (.int w),some (.ref d),none] M;have p64:=Zn0 hw;rw[Eb,JZ];cases U with
  |num m=>
   simp only[Tm.mv];walk_at "s";rw[JY];walk_at "s";exact⟨w,m,rfl,hw,q⟩
  |var x=>
   have hv:=(hr x (by simp[Tm.reads])).1
   simp only[Tm.mv];walk_at "s";rw[C6];walk_at "s";rw[JX];walk_at "s";simp only[hd];walk_at "s";exact⟨_,hv,q⟩
  |two f l r=>
   have hdl:l.depth≤n:=by unfold Tm.depth at hn;lia
   have hdr:r.depth≤n:=by unfold Tm.depth at hn;lia
   have hrl:∀x∈l.reads,valM kvs (XB x)=some (.int (ρ x))/\0≤ρ x/\ρ x<2^w:=λx hx=>hr x (by simp[Tm.reads,hx])
   have hrr:∀x∈r.reads,valM kvs (XB x)=some (.int (ρ x))/\0≤ρ x/\ρ x<2^w:=λx hx=>hr x (by simp[Tm.reads,hx])
   have inl:=l.val_in hw1 λx hx=>(hrl x hx).2;simp only[Tm.mv];walk_at "s";rw[if_neg (On f),C6];walk_at "s";rw[if_neg (Fg f),Ea];walk_at "s";refine⟨l,w,d,kvs,ρ,rfl,hdl,hw1,hw,hd,hrl,?_⟩;rw[E9];walk_at "s";rw[if_neg (Zh3 f),JV];walk_at "s";exact⟨r,w,d,kvs,ρ,rfl,hdr,hw1,hw,hd,hrr,f,_,_,w,rfl,hw,⟨by lia,by lia⟩,q⟩
  |pick c l r=>
   have hdc:c.depth≤n:=by unfold Tm.depth at hn;lia
   have hdl:l.depth≤n:=by unfold Tm.depth at hn;lia
   have hdr:r.depth≤n:=by unfold Tm.depth at hn;lia
   have hrc:∀x∈c.reads,valM kvs (XB x)=some (.int (ρ x))/\0≤ρ x/\ρ x<2^w:=λx hx=>hr x (by simp[Tm.reads,hx])
   have hrl:∀x∈l.reads,valM kvs (XB x)=some (.int (ρ x))/\0≤ρ x/\ρ x<2^w:=λx hx=>hr x (by simp[Tm.reads,hx])
   have hrr:∀x∈r.reads,valM kvs (XB x)=some (.int (ρ x))/\0≤ρ x/\ρ x<2^w:=λx hx=>hr x (by simp[Tm.reads,hx])
   simp only[Tm.mv];walk_at "s";rw[C6];walk_at "s";rw[Ea];walk_at "s";refine⟨c,w,d,kvs,ρ,rfl,hdc,hw1,hw,hd,hrc,?_⟩;rw[E9];walk_at "s";rw[JW];walk_at "s";refine Yb (λh0=>?_) (λh0=>?_)
   ·have e:Tm.val ρ w (.pick c l r)=l.val ρ w:=if_pos h0;rw[e]at q;exact⟨l,w,d,kvs,ρ,rfl,hdl,hw1,hw,hd,hrl,q⟩
   ·have e:Tm.val ρ w (.pick c l r)=r.val ρ w:=if_neg h0;rw[e]at q;exact⟨r,w,d,kvs,ρ,rfl,hdr,hw1,hw,hd,hrr,q⟩
noncomputable def dueM(ss:List Stp)(ρ:Str->Int)(w:Nat)(i:Nat):MV:=match ss[i]? with
 |none=>.non
 |some (.take f _)=>.tup [.str "take",.str f]
 |some (.give f T)=>.tup [.str "give",.str f,.int (T.val ρ w)]
 |some _=>.tup [.str "own"]
noncomputable abbrev Ce:SpM:=λvs M Q=>∃(x:MV) (pw:Addr) (ss:List Stp) (i w:Nat) (kvs:List (Key×MV)) (ρ:Str->Int) (ns:List Str),vs=[.int w,x,.int i,.ref pw]/\Ca M x (ss.map Stp.mv)/\(∀s∈ss,s.ok ns ss.length)/\i≤ss.length/\1≤w/\w≤64/\M pw=some (.dic kvs)/\readsOk ns kvs ρ w/\
 Q (dueM ss ρ w i) M
theorem Zdh:MonW Ce:=by walk_at "m"
theorem ZkM(T:Txt K mg t):FnOk P w K mg base CX0 50 t.f_wish t.d_wish ["width","steps","number","words"] (liSp K Ce):=by
 refine T.F_wish.okM Zk8 (Xx (Φ:=[("worth",(U6 40))]) (Xy T) (Xz T) rfl (fMc ⟨(Cc _),nl0⟩) (fMc ⟨⟨_,_,_,FnOk.mono (Cd T 40) (by decide),T.m_worth,T.F_worth.kp,T.b_worth⟩,nl0⟩):Fts P w K mg base 49 K4 [("worth",(U6 40))]) Eg ZlB (fun vs M Q h=>?_) (fun vs M Q h=>?_)
 ·obtain⟨_,_,_,_,_,_,_,_,rfl,_⟩:=h;rfl
 obtain⟨x,pw,ss,i,w,kvs,ρ,ns,rfl,hx,hss,hi,hw1,hw2,hpw,hr,q⟩:=h;show wSs _ _ _ [some (.int w),some x,some (.int i),some (.ref pw),none] M;rw[Eg,K3];have len:∀R:Prop,R->R:=λ_ h=>h;have rest:∀hi':i<ss.length,wSs [("worth",U6 40)] Ed {nx:=fun x M'=>Q MV.non M',rt:=Q} [some (.int w),some x,some (.int i),some (.ref pw),some ss[i].mv] M:=by
  intro hi';have ok:=hss ss[i] (XY _);have ed:dueM ss ρ w i=dueM [ss[i]] ρ w 0:=by unfold dueM;rw[X8 hi'];rfl
  rw[ed]at q;obtain⟨s,hs⟩:∃s,ss[i]=s:=⟨_,rfl⟩;rw[hs]at ok q;rw[hs,Ed];cases s with
  |take f x=>
   simp only[Stp.mv];walk_at "s";rw[K2];walk_at "s";exact q
  |give f U=>
   simp only[Stp.mv];walk_at "s";rw[C7];walk_at "s";rw[K1];walk_at "s";exact⟨U,w,pw,kvs,ρ,rfl,Y3 ok.1 (by decide),hw1,hw2,hpw,hr.tm ok,q⟩
  |put x U=>
   simp only[Stp.mv];walk_at "s";rw[C7];walk_at "s";rw[Ec];walk_at "s";exact q
  |jump U j=>
   simp only[Stp.mv];walk_at "s";rw[C7];walk_at "s";rw[Ec];walk_at "s";exact q
 have eN:¬i<ss.length->dueM ss ρ w i=.non:=λc=>by unfold dueM;rw[CF.mpr (by lia)]
 rcases hx with rfl|⟨ps,rfl,hps⟩
 ·walk_at "s";rw[X7];refine Yb (λc=>?_) (λc=>?_)
  ·rw[Ef];walk_at "s";rw[<- eN (by lia)]
   exact q
  have hi':i<ss.length:=by lia
  rw[Ee];walk_at "s";exact⟨_,XQ (by rw[Xo,X8 hi'];rfl),rest hi'⟩
 ·repeat (first|walk_at "s"|simp only[hps])
  rw[X7];refine Yb (λc=>?_) (λc=>?_)
  ·rw[Ef];walk_at "s";rw[<- eN (by lia)]
   exact q
  have hi':i<ss.length:=by lia
  rw[Ee]
  repeat (first|walk_at "s"|simp only[hps])
  exact⟨_,XQ (by rw[Xo,X8 hi'];rfl),rest hi'⟩
noncomputable def Yk(s:Stp)(ρ:Str->Int)(w i:Nat):Int:=match s with
 |.jump T j=>if T.val ρ w≠0 then j else(i:Int)+1
 |_=>(i:Int)+1
noncomputable def UV(s:Stp)(kvs:List (Key×MV))(ρ:Str->Int)(w:Nat)(wd:MV):List (Key×MV):=match s with
 |.take _ x=>putM kvs (XB x) wd
 |.put x T=>putM kvs (XB x) (.int (T.val ρ w))
 |_=>kvs
noncomputable abbrev Cf:SpM:=λvs M Q=>∃(x:MV) (pw:Addr) (ss:List Stp) (i w:Nat) (kvs:List (Key×MV)) (ρ:Str->Int) (ns:List Str) (s:Stp),vs=[.int w,x,.int i,.ref pw]/\Ca M x (ss.map Stp.mv)/\ss[i]?=some s/\s.ok ns ss.length/\1≤w/\w≤64/\M pw=some (.dic kvs)/\readsOk ns kvs ρ w/\
 Q (.int (Yk s ρ w i)) M
theorem Z6b:MonW Cf:=by walk_at "m"
theorem Oq{M:MH}{x:MV}{ss:List Stp}{i:Nat}{s:Stp}{Q:QM}(hx:Ca M x (ss.map Stp.mv))(hs:ss[i]?=some s) (q:Q s.mv M):wIx x (.int i) M Q:=by
 have hat:atI (ss.map Stp.mv) (i:Int)=some s.mv:=XQ (by rw[Xo,hs];rfl)
 rcases hx with rfl|⟨a,rfl,h⟩
 ·rw[Je];exact⟨_,hat,q⟩
 ·rw[Jc,h,Jd];exact⟨_,hat,q⟩
theorem Z8Z(T:Txt K mg t):FnOk P w K mg base CX0 50 t.f_number_after t.d_number_after ["width","steps","number","words"] (liSp K Cf):=by
 refine T.F_number_after.okM Z8Q (Xx (Φ:=[("worth",(U6 40))]) (Xy T) (Xz T) rfl (fMc ⟨(Cc _),nl0⟩) (fMc ⟨⟨_,_,_,FnOk.mono (Cd T 40) (by decide),T.m_worth,T.F_worth.kp,T.b_worth⟩,nl0⟩):Fts P w K mg base 49 K8 [("worth",(U6 40))]) Eh Z9H (fun vs M Q h=>?_) (fun vs M Q h=>?_)
 ·obtain⟨_,_,_,_,_,_,_,_,_,rfl,_⟩:=h;rfl
 obtain⟨x,pw,ss,i,w,kvs,ρ,ns,s,rfl,hx,hs,ok,hw1,hw2,hpw,hr,q⟩:=h;show wSs _ _ _ [some (.int w),some x,some (.int i),some (.ref pw),none] M;rw[Eh,K7];walk_at "s";refine Oq hx hs ?_;rw[K6];cases s with
 |take f x=>
  simp only[Stp.mv];walk_at "s";rw[AD];walk_at "s";exact q
 |give f U=>
  simp only[Stp.mv];walk_at "s";rw[AD];walk_at "s";exact q
 |put x U=>
  simp only[Stp.mv];walk_at "s";rw[AD];walk_at "s";exact q
 |jump U j=>
  simp only[Stp.mv];walk_at "s";refine⟨U,w,pw,kvs,ρ,rfl,Y3 ok.1.1 (by decide),hw1,hw2,hpw,hr.tm ok.1,?_⟩
  walk_at "s";refine Yb (λc=>?_) (λc=>?_)
  ·have e:Yk (.jump U j) ρ w i=j:=if_pos c;rw[e]at q;rw[K5];walk_at "s";exact q
  ·have e:Yk (.jump U j) ρ w i=(i:Int)+1:=if_neg c;rw[e]at q;rw[AD];walk_at "s";exact q
noncomputable abbrev Cg:SpM:=λvs M Q=>∃(pw:Addr) (w:Nat) (kvs:List (Key×MV)) (ρ:Str->Int) (ns:List Str) (s:Stp) (k:Nat) (wd:MV),vs=[.int w,s.mv,.ref pw,wd]/\s.ok ns k/\1≤w/\w≤64/\M pw=some (.dic kvs)/\kvs.length≤1000/\readsOk ns kvs ρ w/\
 ∀p,M p=none->Q (.ref p) (updM M p (.dic (UV s kvs ρ w wd)))
theorem Z6z:MonW Cg:=by walk_at "m"
theorem Z9Y(T:Txt K mg t):FnOk P w K mg base CX0 50 t.f_words_after t.d_words_after ["width","step","words","word"] (liSp K Cg):=by
 refine T.F_words_after.okM Z9T (Xx (Φ:=[("worth",(U6 40))]) (Xy T) (Xz T) rfl (fMc ⟨(Cc _),nl0⟩) (fMc ⟨⟨_,_,_,FnOk.mono (Cd T 40) (by decide),T.m_worth,T.F_worth.kp,T.b_worth⟩,nl0⟩):Fts P w K mg base 49 Kd [("worth",(U6 40))]) Ei Zac (fun vs M Q h=>?_) (fun vs M Q h=>?_)
 ·obtain⟨_,_,_,_,_,_,_,_,rfl,_⟩:=h;rfl
 obtain⟨pw,w,kvs,ρ,ns,s,k,wd,rfl,ok,hw1,hw2,hpw,hkl,hr,q⟩:=h;show wSs _ _ _ [some (.int w),some s.mv,some (.ref pw),some wd,none] M;rw[Ei,Kc]
 repeat (first|walk_at "s"|simp only[hpw])
 intro p hp;have hpw2:=SameM.new hp (.dic kvs) _ _ hpw;have hp2:updM M p (.dic kvs) p=some (.dic kvs):=Xh;have q:=q p hp;rw[Kb];cases s with
 |take f x=>
  simp only[Stp.mv];walk_at "s";rw[Ka];walk_at "s";refine⟨by lia,?_⟩
  rw[BV,AF];walk_at "s";rw[AE];walk_at "s";exact q
 |give f U=>
  simp only[Stp.mv];walk_at "s";rw[AF];walk_at "s";rw[AE];walk_at "s";exact q
 |put x U=>
  simp only[Stp.mv];walk_at "s";rw[AF];walk_at "s";rw[K9];walk_at "s";refine⟨U,w,pw,kvs,ρ,rfl,Y3 ok.2.1 (by decide),hw1,hw2,hpw2,hr.tm ok.2,?_⟩
  walk_at "s";refine⟨by lia,?_⟩
  rw[BV,AE];walk_at "s";exact q
 |jump U j=>
  simp only[Stp.mv];walk_at "s";rw[AF];walk_at "s";rw[AE];walk_at "s";exact q
noncomputable abbrev AL:SpM:=λvs M Q=>∃(x:MV) (pw:Addr) (ss:List Stp) (i w:Nat) (kvs:List (Key×MV)) (ρ:Str->Int) (ns:List Str) (s:Stp) (wd:MV),vs=[.int w,x,.int i,.ref pw,wd]/\Ca M x (ss.map Stp.mv)/\ss[i]?=some s/\s.ok ns ss.length/\1≤w/\w≤64/\M pw=some (.dic kvs)/\kvs.length≤1000/\readsOk ns kvs ρ w/\
 ∀p,M p=none->Q (.tup [.int (Yk s ρ w i),.ref p]) (updM M p (.dic (UV s kvs ρ w wd)))
theorem Zca:MonW AL:=by walk_at "m"
theorem Zin(T:Txt K mg t):FnOk P w K mg base CX0 51 t.f_after t.d_after ["width","steps","number","words","word"] (liSp K AL):=by
 refine T.F_after.okM Zi1 (Xx (Φ:=[("number_after",Cf),("words_after",Cg)]) (Xy T) (Xz T) rfl (fMc ⟨Z6b,(fMc ⟨Z6z,nl0⟩)⟩) (fMc ⟨⟨_,_,_,FnOk.mono (Z8Z T) (by decide),T.m_number_after,T.F_number_after.kp,T.b_number_after⟩,(fMc ⟨⟨_,_,_,FnOk.mono (Z9Y T) (by decide),T.m_words_after,T.F_words_after.kp,T.b_words_after⟩,nl0⟩)⟩):Fts P w K mg base 50 Kf [("number_after",Cf),("words_after",Cg)]) Ej ZiR (fun vs M Q h=>?_) (fun vs M Q h=>?_)
 ·obtain⟨_,_,_,_,_,_,_,_,_,_,rfl,_⟩:=h;rfl
 obtain⟨x,pw,ss,i,w,kvs,ρ,ns,s,wd,rfl,hx,hs,ok,hw1,hw2,hpw,hkl,hr,q⟩:=h;show wSs _ _ _ [some (.int w),some x,some (.int i),some (.ref pw),some wd] M;rw[Ej,Ke];walk_at "s";refine⟨x,pw,ss,i,w,kvs,ρ,ns,s,rfl,hx,hs,ok,hw1,hw2,hpw,hr,?_⟩;refine Oq hx hs ?_;refine⟨pw,w,kvs,ρ,ns,s,_,wd,rfl,ok,hw1,hw2,hpw,hkl,hr,λp hp=>?_⟩;exact q p hp
noncomputable def szs(ts:List Tm):Nat:=(ts.map Tm.size).sum
theorem Os(a b:List Tm):szs (a++b)=szs a+szs b:=by unfold szs;rw[YD,List.sum_append]
theorem Zk1(a:Tm):szs [a]=a.size:=by simp[szs]
theorem Ot{T:Tm}:∀{ts:List Tm},T∈ts->T.size≤szs ts
 |U::ts,h=>by
  have e:szs (U::ts)=U.size+szs ts:=by simp[szs]
  rcases Xu.mp h with z|z
  ·subst z;lia
  ·have:=Ot z;lia
noncomputable def Tm.kids:Tm->List Tm
 |.num _=>[]
 |.var _=>[]
 |.two _ a b=>[a,b]
 |.pick c a b=>[c,a,b]
theorem Tm.size_kids:∀T:Tm,T.size=1+szs T.kids
 |.num _=>rfl
 |.var _=>rfl
 |.two _ a b=>by simp[Tm.size,Tm.kids,szs]
 |.pick c a b=>by simp[Tm.size,Tm.kids,szs]
noncomputable def mxd(ts:List Tm):Nat:=ts.foldl (λa T=>max a T.depth) 0
theorem ZkV(ts:List Tm)(T:Tm):mxd (ts++[T])=max (mxd ts) T.depth:=by unfold mxd;rw[CO];rfl
theorem Tm.depth_kids:∀T:Tm,T.depth=mxd T.kids+1
 |.num _=>rfl
 |.var _=>rfl
 |.two _ a b=>by simp[Tm.depth,Tm.kids,mxd];lia
 |.pick c a b=>by simp[Tm.depth,Tm.kids,mxd];lia
theorem Tm.kid_depth{T U:Tm}(h:U∈T.kids):U.depth<T.depth:=by
 cases T<;>simp[Tm.kids]at h
 ·rcases h with rfl|rfl<;>(simp only[Tm.depth];lia)
 ·rcases h with rfl|rfl|rfl<;>(simp only[Tm.depth];lia)
theorem Tm.kid_size{T U:Tm}(h:U∈T.kids):U.size<T.size:=by
 rw[T.size_kids];have:=Ot h;lia
noncomputable def rds(ts:List Tm):List Str:=(ts.map Tm.reads).flatten
theorem Zkd(ts:List Tm)(T:Tm):rds (ts++[T])=rds ts++T.reads:=by simp[rds]
theorem Tm.reads_kids:∀T:Tm,(∀x,T≠.var x)->T.reads=rds T.kids
 |.num _,_=>rfl
 |.var x,h=>absurd rfl (h x)
 |.two _ a b,_=>by simp[Tm.reads,Tm.kids,rds]
 |.pick c a b,_=>by simp[Tm.reads,Tm.kids,rds]
theorem Tm.reads_len:∀T:Tm,T.reads.length≤T.size
 |.num _=>by simp[Tm.reads]
 |.var _=>by simp[Tm.reads,Tm.size]
 |.two _ a b=>by
  have:=a.reads_len;have:=b.reads_len;simp[Tm.reads,Tm.size];lia
 |.pick c a b=>by
  have:=a.reads_len;have:=b.reads_len;have:=c.reads_len;simp[Tm.reads,Tm.size];lia
theorem Ou:∀ts:List Tm,(rds ts).length≤szs ts
 |[]=>Xl _
 |T::ts=>by
  have:=Ou ts;have:=T.reads_len;have e:szs (T::ts)=T.size+szs ts:=by simp[szs]
  have e2:rds (T::ts)=T.reads++rds ts:=by simp[rds]
  rw[e,e2,Y0];lia
theorem ZhP(ts:List Tm)(i:Nat):szs (ts.take i)≤szs ts:=by
 have e1:=Os (ts.take i) (ts.drop i);rw[List.take_append_drop]at e1;lia
theorem Ov(x:MV)(xs:List MV):cutM (x::xs) (some 1) none=xs:=by
 have:=Zfj (x::xs) 1
 simpa using this
noncomputable abbrev VQ:SpM:=λvs M Q=>∃T:Tm,vs=[T.mv]/\∀p,M p=none->Q (.ref p) (updM M p (.lst (T.kids.map Tm.mv)))
theorem Ow:MonW VQ:=by walk_at "m"
theorem Ox(T:Txt K mg t):FnOk P w K mg base CX0 1 t.f_parts_within t.d_parts_within ["T"] (liSp K VQ):=by
 refine T.F_parts_within.okM Z8P (Xx (Φ:=[]) (Xy T) (Xz T) rfl nl0 nl0:Fts P w K mg base 0 Jx []) E2 Z9G (λvs M Q h=>?_) (λvs M Q h=>?_)
 ·obtain⟨T,rfl,_⟩:=h;rfl
 obtain⟨U,rfl,q⟩:=h;show wSs _ _ _ [some U.mv] M;rw[E2,Jw];cases U with
 |num m=>
  simp only[Tm.mv];walk_at "s";rw[E1];walk_at "s";exact q
 |var x=>
  simp only[Tm.mv];walk_at "s";rw[E1];walk_at "s";exact q
 |two f a b=>
  simp only[Tm.mv];walk_at "s";rw[if_neg (On f),if_neg (Fg f),DZ];walk_at "s";rw[Ov];exact q
 |pick c a b=>
  simp only[Tm.mv];walk_at "s";rw[DZ];walk_at "s";rw[Ov];exact q
noncomputable abbrev VR(n:Nat):SpM:=λvs M Q=>∃T:Tm,vs=[T.mv]/\T.depth≤n/\∀M',SameM M M'->Q (.tup [.int (T.size:Nat),.int (T.depth:Nat)]) M'
theorem Oy(n:Nat):MonW (VR n):=by walk_at "m"
theorem Oz(T:Txt K mg t):∀n:Nat,FnOk P w K mg base CX0 (n+8) t.f_size_of t.d_size_of ["T"] (liSp K (VR n))
 |0=>by
  have no:∀vs M Q,¬VR 0 vs M Q:=λvs M Q h=>by
   obtain⟨T,_,h0,_⟩:=h;have:=T.depth_pos;lia
  exact⟨λvs H Q E ⟨ms,M,r,rh,h⟩=>absurd h (no _ _ _),λA outer s H args us vs Q E _ _ _ _ ⟨ms,M,r,rh,h⟩=>absurd h (no _ _ _)⟩
 |n+1=>by
  have ih:=Oz T n;refine T.F_size_of.okM ZeR (Xx (Φ:=[("parts_within",VQ),("size_of",(VR n))]) (Xy T) (Xz T) rfl (fMc ⟨Ow,(fMc ⟨(Oy _),nl0⟩)⟩) (fMc ⟨⟨_,_,_,FnOk.mono (Ox T) (by lia),T.m_parts_within,T.F_parts_within.kp,T.b_parts_within⟩,(fMc ⟨⟨_,_,_,ih,T.m_size_of,T.F_size_of.kp,T.b_size_of⟩,nl0⟩)⟩):Fts P w K mg base (n+8) JF [("parts_within",VQ),("size_of",(VR n))]) E3 Zfn (fun vs M Q h=>?_) (fun vs M Q h=>?_)
  ·obtain⟨T,rfl,_⟩:=h;rfl
  obtain⟨U,rfl,hn,q⟩:=h;show wSs _ _ _ [some U.mv,none,none,none,none] M;rw[E3,JE];walk_at "s";rw[JD];walk_at "s";rw[JC];walk_at "s";refine⟨U,rfl,λpk hpk=>?_⟩;have s1:=SameM.new hpk (.lst (U.kids.map Tm.mv));have h1:updM M pk (.lst (U.kids.map Tm.mv)) pk=some (.lst (U.kids.map Tm.mv)):=Xh;generalize updM M pk (.lst (U.kids.map Tm.mv))=M1 at*
  repeat (first|walk_at "s"|simp only[h1])
  obtain⟨J,hJ⟩:∃J:Nat->Sm->MH->Prop,∀i σ M2,J i σ M2↔∃(v3 v4:Option MV),SameM M1 M2/\σ=[some U.mv,some (.int ((1+szs (U.kids.take i):Nat):Int)),some (.int ((mxd (U.kids.take i):Nat):Int)),v3,v4]:=⟨_,λ_ _ _=>Yp⟩;refine⟨J,(hJ _ _ _).2 ⟨_,_,SameM.refl _,rfl⟩,λi σ M2 hj=>?_,λi x σ M2 hx hj=>?_,λσ M2 hj=>?_⟩
  ·obtain⟨_,_,s2,_⟩:=(hJ _ _ _).1 hj;exact s2 _ _ h1
  ·obtain⟨v3,v4,s2,rfl⟩:=(hJ _ _ _).1 hj;obtain⟨hi,rfl⟩:=Yq hx;have hk:=U.kid_depth (XY hi);rw[JB];walk_at "s";refine⟨U.kids[i],rfl,by lia,λM3 s3=>?_⟩
   rw[JA];walk_at "s";rw[Jz];walk_at "s";have et:U.kids.take (i+1)=U.kids.take i++[U.kids[i]]:=by rw[UM,X8 hi];rfl
   have e1:((1+szs (U.kids.take i):Nat):Int)+(U.kids[i].size:Nat)=((1+szs (U.kids.take (i+1)):Nat):Int):=by rw[et,Os,Zk1];lia
   have e2:(if((U.kids[i].depth:Nat):Int)>(mxd (U.kids.take i):Nat)then((U.kids[i].depth:Nat):Int)else(mxd (U.kids.take i):Nat))=((mxd (U.kids.take (i+1)):Nat):Int):=by
    rw[et,ZkV];split<;>lia
   rw[e1,e2];exact(hJ _ _ _).2 ⟨_,_,s2.trans s3,rfl⟩
  ·obtain⟨v3,v4,s2,rfl⟩:=(hJ _ _ _).1 hj;have e:U.kids.take (Src.lst pk (U.kids.map Tm.mv)).len=U.kids:=by simp[Src.len]
   rw[e,Jy];walk_at "s";have:=q M2 (s1.trans s2);rw[U.size_kids,U.depth_kids]at this;exact this
noncomputable abbrev Vl(n:Nat):SpM:=λvs M Q=>∃T:Tm,vs=[T.mv]/\T.depth≤n/\T.size≤4000/\∀p M',SameM M M'->M p=none->M' p=some (.lst (T.reads.map MV.str))->Q (.ref p) M'
theorem OA(n:Nat):MonW (Vl n):=by walk_at "m"
theorem OB(T:Txt K mg t):∀n:Nat,FnOk P w K mg base CX0 (n+8) t.f_names_read t.d_names_read ["T"] (liSp K (Vl n))
 |0=>by
  have no:∀vs M Q,¬Vl 0 vs M Q:=λvs M Q h=>by
   obtain⟨T,_,h0,_⟩:=h;have:=T.depth_pos;lia
  exact⟨λvs H Q E ⟨ms,M,r,rh,h⟩=>absurd h (no _ _ _),λA outer s H args us vs Q E _ _ _ _ ⟨ms,M,r,rh,h⟩=>absurd h (no _ _ _)⟩
 |n+1=>by
  have ih:=OB T n;refine T.F_names_read.okM Zba (Xx (Φ:=[("names_read",(Vl n)),("parts_within",VQ)]) (Xy T) (Xz T) rfl (fMc ⟨(OA _),(fMc ⟨Ow,nl0⟩)⟩) (fMc ⟨⟨_,_,_,ih,T.m_names_read,T.F_names_read.kp,T.b_names_read⟩,(fMc ⟨⟨_,_,_,FnOk.mono (Ox T) (by lia),T.m_parts_within,T.F_parts_within.kp,T.b_parts_within⟩,nl0⟩)⟩):Fts P w K mg base (n+8) JL [("names_read",(Vl n)),("parts_within",VQ)]) E5 Zby (fun vs M Q h=>?_) (fun vs M Q h=>?_)
  ·obtain⟨T,rfl,_⟩:=h;rfl
  obtain⟨U,rfl,hn,hz,q⟩:=h;show wSs _ _ _ [some U.mv,none,none] M;have rest:(∀x,U≠.var x)->wSs [("names_read",Vl n),("parts_within",VQ)] E4 {nx:=fun x M'=>Q MV.non M',rt:=Q} [some U.mv,none,none] M:=by
   intro hv;rw[E4];walk_at "s";intro p0 hp0;have s0:=SameM.new hp0 (.lst []);have h0:updM M p0 (.lst []) p0=some (.lst ([]:List MV)):=Xh;generalize updM M p0 (.lst [])=M0 at*;rw[JI];walk_at "s";refine⟨U,rfl,λpk hpk=>?_⟩;have s1:=SameM.new hpk (.lst (U.kids.map Tm.mv));have h1:updM M0 pk (.lst (U.kids.map Tm.mv)) pk=some (.lst (U.kids.map Tm.mv)):=Xh;have h01:=s1 _ _ h0;have t1:=s0.trans s1;have nk:M pk=none:=s0.free hpk;generalize updM M0 pk (.lst (U.kids.map Tm.mv))=M1 at*
   repeat (first|walk_at "s"|simp only[h1])
   have ne:p0≠pk:=by
    intro e;rw[e]at h0;rw[h0]at hpk;cases hpk
   obtain⟨J,hJ⟩:∃J:Nat->Sm->MH->Prop,∀i σ M2,J i σ M2↔∃(v2:Option MV),SameM M M2/\M2 pk=some (.lst (U.kids.map Tm.mv))/\M2 p0=some (.lst ((rds (U.kids.take i)).map MV.str))/\σ=[some U.mv,some (.ref p0),v2]:=⟨_,λ_ _ _=>Yp⟩;refine⟨J,(hJ _ _ _).2 ⟨_,t1,h1,h01,rfl⟩,λi σ M2 hj=>?_,λi x σ M2 hx hj=>?_,λσ M2 hj=>?_⟩
   ·obtain⟨_,_,g1,_⟩:=(hJ _ _ _).1 hj;exact g1
   ·obtain⟨v2,s2,g1,g2,rfl⟩:=(hJ _ _ _).1 hj;obtain⟨hi,rfl⟩:=Yq hx;have hk:=U.kid_depth (XY hi);have hk2:=U.kid_size (XY hi);rw[JH];walk_at "s";simp only[g2];walk_at "s";refine⟨⟨_,rfl⟩,?_⟩;refine⟨U.kids[i],rfl,by lia,by lia,λp3 M3 s3 n3 g3=>?_⟩
    have g1':=s3 _ _ g1;have g2':=s3 _ _ g2;walk_at "s";have l1:=Ou (U.kids.take i);have l2:=ZhP U.kids i;have l3:=U.size_kids;have l4:=U.kids[i].reads_len;refine⟨_,g2',_,g3,by simp only[X7];lia,(hJ _ _ _).2 ⟨_,(s2.trans s3).upd hp0 _,by rw[XD ne.symm];exact g1',?_,rfl⟩⟩
    rw[Xh,UM,X8 hi,De,Zkd,YD]
   ·obtain⟨v2,s2,g1,g2,rfl⟩:=(hJ _ _ _).1 hj;have e:U.kids.take (Src.lst pk (U.kids.map Tm.mv)).len=U.kids:=by simp[Src.len]
    rw[e,<- U.reads_kids hv]at g2;rw[JG];walk_at "s";exact q p0 M2 s2 hp0 g2
  rw[E5,JK];cases U with
  |num m=>
   simp only[Tm.mv];walk_at "s";exact rest (λ_ e=>by cases e)
  |var x=>
   simp only[Tm.mv];walk_at "s";rw[JJ];walk_at "s";exact λp hp=>q p _ (SameM.new hp _) hp Xh
  |two f a b=>
   simp only[Tm.mv];walk_at "s";rw[if_neg (Fg f)];exact rest (λ_ e=>by cases e)
  |pick c a b=>
   simp only[Tm.mv];walk_at "s";exact rest (λ_ e=>by cases e)
noncomputable abbrev Ch:SpM:=λvs M Q=>∃(T:Tm) (N:List Str),vs=[T.mv]/\T.depth≤40/\T.size≤4000/\(∀x∈T.reads,x∈N)/\N.length<64/\
 ∀p M' (ys:List Str),SameM M M'->M p=none->M' p=some (.lst (ys.map MV.str))->ys.Nodup->(∀y,y∈ys↔y∈T.reads)->PyProof.Rows.sortedS ys=true->Q (.ref p) M'
theorem Za2:MonW Ch:=by walk_at "m"
theorem ZeZ(T:Txt K mg t):FnOk P w K mg base CX0 50 t.f_vars_in t.d_vars_in ["T"] (liSp K Ch):=by
 refine T.F_vars_in.okM ZeQ (Xx (Φ:=[("names_read",(Vl 40))]) (Xy T) (Xz T) rfl (fMc ⟨(OA _),nl0⟩) (fMc ⟨⟨_,_,_,FnOk.mono (OB T 40) (by decide),T.m_names_read,T.F_names_read.kp,T.b_names_read⟩,nl0⟩):Fts P w K mg base 49 JN [("names_read",(Vl 40))]) E6 Zfm (fun vs M Q h=>?_) (fun vs M Q h=>?_)
 ·obtain⟨T,N,rfl,_⟩:=h;rfl
 obtain⟨U,N,rfl,hn,hz,hN,hl,q⟩:=h;show wSs _ _ _ [some U.mv] M;rw[E6,JM];walk_at "s";refine⟨U,rfl,hn,hz,λp1 M1 s1 n1 h1=>?_⟩;have hb:scanBound=4096:=rfl;have:=U.reads_len;exact⟨p1,U.reads,N,rfl,h1,by lia,hN,hl,λp ys hp a1 a2 a3=>q p _ ys (s1.trans (SameM.new hp _)) (s1.free hp) Xh a1 a2 a3⟩
noncomputable abbrev Fj:SpM:=λ_ _ _=>False
theorem Zl1:MonW Fj:=λ_ h=>h.elim
theorem Zlu{P:Xm}{w:Xj}{K:X6}{mg:Str->Option X0}{base:Heap}{k:Nat}{f:Addr}{fd:Xn}{ps:List Str}:FnOk P w K mg base CX0 k f fd ps (liSp K λ_ _ _=>False):=
 ⟨λ_ _ _ _ ⟨_,_,_,_,h⟩=>h.elim,λ_ _ _ _ _ _ _ _ _ _ _ _ _ ⟨_,_,_,_,h⟩=>h.elim⟩
noncomputable def UF(z:Str):Prop:=1≤z.length/\z.length≤8/\∀c∈z.cps.toList,97≤c/\c≤122
theorem OC{a b:Nat}:([a]:List Nat)<[b]↔a<b:=by
 rw[List.cons_lt_cons_iff];constructor
 ·rintro(h|⟨_,h⟩)
  ·exact h
  ·exact absurd h (by simp)
 ·exact .inl
theorem ZpU:(("a":Str)).cps.toList=[97]:=by decide+kernel
theorem ZpT:(("z":Str)).cps.toList=[122]:=by decide+kernel
theorem le_a{c:Nat}(h:97≤c):(!decide ((⟨#[c]⟩:Str).cps.toList<(("a":Str)).cps.toList))=true:=by
 rw[ZpU];have:¬((⟨#[c]⟩:Str).cps.toList<[97]):=λz=>by
  have z:([c]:List Nat)<[97]:=z;rw[OC]at z;lia
 simpa using this
theorem le_z{c:Nat}(h:c≤122):(!decide ((("z":Str)).cps.toList<(⟨#[c]⟩:Str).cps.toList))=true:=by
 rw[ZpT];have:¬([122]<(⟨#[c]⟩:Str).cps.toList):=λz=>by
  have z:([122]:List Nat)<[c]:=z;rw[OC]at z;lia
 simpa using this
noncomputable abbrev Ci:SpM:=λvs M Q=>∃z:Str,vs=[.str z]/\UF z/\∀M',SameM M M'->Q (.bl true) M'
theorem Za3:MonW Ci:=by walk_at "m"
theorem Zf0(T:Txt K mg t):FnOk P w K mg base CX0 1 t.f_is_name t.d_is_name ["text"] (liSp K Ci):=by
 refine T.F_is_name.okM ZeS (Xx (Φ:=[]) (Xy T) (Xz T) rfl nl0 nl0:Fts P w K mg base 0 Kh []) Ek Zfo (λvs M Q h=>?_) (λvs M Q h=>?_)
 ·obtain⟨z,rfl,_⟩:=h;rfl
 obtain⟨z,rfl,⟨g1,g2,g3⟩,q⟩:=h;show wSs _ _ _ [some (.str z)] M;rw[Ek,Kg];walk_at "s";refine⟨by lia,?_⟩
 rw[if_pos (by lia:(1:Int)≤(z.length:Int))]
 rw[if_pos (by lia:(z.length:Int)≤8)]
 refine UU z.cps.toList (λc=>.str ⟨#[c]⟩) (λ_=>.bl true) ?_ ?_ (λj f sp h=>by simp at h) λD hD=>?_
 ·walk_at "s";have:z.cps.toList.length=z.length:=XW;exact⟨rfl,by lia,trivial⟩
 ·intro c hc M' s;obtain⟨h1,h2⟩:=g3 c hc;simp only[sCm,XA,Y8,Yh,Yi,Ye,Y7];walk_at "s";rw[if_pos (by simpa using le_a h1)]
  simpa using le_z h2
 walk_at "s";refine⟨z.cps.toList.map λ_=>true,by rw[Y9];rfl,?_⟩
 have e:((z.cps.toList.map λ_=>true).all id)=true:=by simp
 rw[e];exact q _ (SameM.new hD _)
theorem UW{z:Str}{zs:List Str}:inV (toV (.str z)) ((zs.map MV.str).map toV)=decide (z∈zs):=by
 unfold inV
 induction zs with
 |nil=>simp
 |cons a r ih=>
  rw[XA,XA,Uv,ih];have e:eqV (toV (.str a)) (toV (.str z))=decide (a=z):=by
   show(a==z)=decide (a=z);by_cases h:a=z
   ·subst h;simp
   ·simp[h]
  rw[e];by_cases h:a=z
  ·simp[h]
  ·have h':¬z=a:=λw=>h w.symm;simp[h,h']
theorem UX(zs:List Str):(zs.map MV.str).all Yv=true:=by
 rw[List.all_eq_true];intro v hv;obtain⟨x,_,rfl⟩:=XU.mp hv
 rfl
noncomputable abbrev Vm:SpM:=λvs M Q=>∃(z:Str) (e:Addr) (zs:List Str),vs=[.str z,.ref e]/\M e=some (.lst (zs.map MV.str))/\UF z/\z∉zs/\∀M',SameM M M'->Q .non M'
theorem Fk:MonW Vm:=by walk_at "m"
theorem Fl(T:Txt K mg t):FnOk P w K mg base CX0 2 t.f_refuse_name t.d_refuse_name ["text","earlier"] (liSp K Vm):=by
 refine T.F_refuse_name.okM Z9W (Xx (Φ:=[("is_name",Ci)]) (Xy T) (Xz T) rfl (fMc ⟨Za3,nl0⟩) (fMc ⟨⟨_,_,_,(FnOk.mono (Zf0 T) (by decide)),T.m_is_name,T.F_is_name.kp,T.b_is_name⟩,nl0⟩):Fts P w K mg base 1 Kk [("is_name",Ci)]) El Zaf (fun vs M Q h=>?_) (fun vs M Q h=>?_)
 ·obtain⟨z,a,zs,rfl,_⟩:=h;rfl
 obtain⟨z,a,zs,rfl,h1,h2,h3,q⟩:=h;show wSs _ _ _ [some (.str z),some (.ref a)] M;rw[El,Kj];walk_at "s";refine⟨z,rfl,h2,λM1 s1=>?_⟩;walk_at "s";rw[Ki];walk_at "s";refine .inl ⟨_,s1 _ _ h1,rfl,UX zs,?_⟩;rw[UW,decide_eq_false h3];walk_at "s";exact q M1 s1
noncomputable def Leaf(v:MV):Prop:=(∃i,v=.int i)\/∃z,v=.str z
noncomputable def FroD:Nat->MH->MV->MV->Prop
 |0,_,v,v'=>Leaf v/\v'=v
 |n+1,M,v,v'=>(Leaf v/\v'=v)\/∃ps:List (MV×MV),(v=.tup (ps.map (·.1))\/∃a,v=.ref a/\M a=some (.lst (ps.map (·.1))))/\v'=.tup (ps.map (·.2))/\ps.length≤1000/\∀p∈ps,FroD n M p.1 p.2
theorem FroD.keep{M M':MH}(s:SameM M M'):∀{n:Nat} {v v':MV},FroD n M v v'->FroD n M' v v'
 |0,_,_,h=>h
 |n+1,v,v',h=>by
  rcases h with h|⟨ps,h1,h2,h3,h4⟩
  ·exact .inl h
  ·refine .inr ⟨ps,?_,h2,h3,λp hp=>(h4 p hp).keep s⟩;rcases h1 with h1|⟨a,e,h1⟩
   ·exact .inl h1
   ·exact .inr ⟨a,e,s _ _ h1⟩
noncomputable abbrev U7(n:Nat):SpM:=λvs M Q=>∃v v',vs=[v]/\FroD n M v v'/\∀M',SameM M M'->Q v' M'
theorem Cj(n:Nat):MonW (U7 n):=by walk_at "m"
theorem ZdG{n:Nat}(hΦ:∀(j:Nat) f sp,([("frozen",U7 n)]:List (Str×SpM))[j]?=some (f,sp)->MonW sp) {vs:List MV} {M:MH} {Q:QM} (h:U7 (n+1) vs M Q):wSs [("frozen",U7 n)] WG {nx:=fun _ M'=>Q .non M',rt:=Q} (Az 1 vs) M:=by
 obtain⟨v,v',rfl,hf,q⟩:=h;show wSs _ _ _ [some v] M;rw[WG,Ez];rcases hf with⟨l,rfl⟩|⟨ps,h1,rfl,h3,h4⟩
 ·rcases l with⟨i,rfl⟩|⟨z,rfl⟩
  ·walk_at "s";simp only[decide_false,Wh,Yt,if_false,reduceCtorEq,ne_eq,not_false_eq_true,true_and];rw[WF];walk_at "s";exact q M (SameM.refl _)
  ·walk_at "s";simp only[decide_false,Wh,Yt,if_false,reduceCtorEq,ne_eq,not_false_eq_true,true_and];rw[WF];walk_at "s";exact q M (SameM.refl _)
 ·have go:wSs [("frozen",U7 n)] Ey {nx:=fun σ M=>wSs [("frozen",U7 n)] WF {nx:=fun _ M'=>Q .non M',rt:=Q} σ M,rt:=Q} [some v] M:=by
   rw[Ey];walk_at "s";refine Jf ps (·.1) (·.2) ?_ ?_ hΦ λD M' hD s hd=>?_
   ·rcases h1 with rfl|⟨a,rfl,ha⟩
    ·walk_at "s";exact⟨rfl,by lia,trivial,λ_ _ h=>h⟩
    ·repeat (first|walk_at "s"|simp only[ha])
     exact⟨rfl,by lia,ha,λ_ _ h=>h⟩
   ·intro p hp M' s;simp only[sCm,XA,Y8,Yh,Yi,Ye,Y7];walk_at "s";exact⟨p.1,p.2,rfl,(h4 p hp).keep s,λM2 s2=>⟨rfl,s2⟩⟩
   repeat (first|walk_at "s"|simp only[hd])
   exact q M' s
  rcases h1 with rfl|⟨a,rfl,ha⟩
  ·walk_at "s";simp only[decide_true,Bt,Bs,if_true,reduceCtorEq,ne_eq,not_false_eq_true,true_and];exact go
  ·repeat (first|walk_at "s"|simp only[ha])
   simp only[decide_true,Bt,Bs,if_true,reduceCtorEq,ne_eq,not_false_eq_true,true_and];exact go
theorem OD(T:Txt K mg t):∀n:Nat,FnOk P w K mg base CX0 (n+8) t.f_frozen t.d_frozen ["value"] (liSp K (U7 n))
 |0=>by
  refine T.F_frozen.okM Jh (Xx (Φ:=[("frozen",Fj)]) (Xy T) (Xz T) rfl (fMc ⟨@Zl1,nl0⟩) (fMc ⟨⟨_,_,_,Zlu,T.m_frozen,T.F_frozen.kp,T.b_frozen⟩,nl0⟩):Fts P w K mg base 7 EA [("frozen",Fj)]) WG Ll (fun vs M Q h=>?_) (fun vs M Q h=>?_)
  ·obtain⟨v,v',rfl,_⟩:=h;rfl
  obtain⟨v,v',rfl,⟨l,rfl⟩,q⟩:=h;show wSs _ _ _ [some v'] M;rw[WG,Ez];rcases l with⟨i,rfl⟩|⟨z,rfl⟩
  ·walk_at "s";simp only[decide_false,Wh,Yt,if_false,reduceCtorEq,ne_eq,not_false_eq_true,true_and];rw[WF];walk_at "s";exact q M (SameM.refl _)
  ·walk_at "s";simp only[decide_false,Wh,Yt,if_false,reduceCtorEq,ne_eq,not_false_eq_true,true_and];rw[WF];walk_at "s";exact q M (SameM.refl _)
 |n+1=>by
  have ih:=OD T n;refine T.F_frozen.okM Jh (Xx (Φ:=[("frozen",(U7 n))]) (Xy T) (Xz T) rfl (fMc ⟨(Cj _),nl0⟩) (fMc ⟨⟨_,_,_,ih,T.m_frozen,T.F_frozen.kp,T.b_frozen⟩,nl0⟩):Fts P w K mg base (n+8) EA [("frozen",(U7 n))]) WG Ll (fun vs M Q h=>?_) (fun vs M Q h=>?_)
  ·obtain⟨v,v',rfl,_⟩:=h;rfl
  exact ZdG (Uk (fMc ⟨Cj n,nl0⟩)) h
structure Isl where
 name:Str
 prs:List (Str×Int)
 stps:List Stp
structure Fer where
 name:Str
 giver:Str
 taker:Str
 k:Nat
 st:Nat
structure Wld where
 w:Nat
 isl:List Isl
 fer:List Fer
noncomputable def prV(p:Str×Int):MV:=.tup [.str p.1,.int p.2]
noncomputable def Fer.mv(f:Fer):MV:=.tup [.str f.name,.str f.giver,.str f.taker,.int f.k,.int f.st]
noncomputable def Isl.mv(I:Isl):MV:=.tup [.str I.name,.tup (I.prs.map prV),.tup (I.stps.map Stp.mv)]
noncomputable def Wld.mv(W:Wld):MV:=.tup [.int W.w,.tup (W.isl.map Isl.mv),.tup (W.fer.map Fer.mv)]
noncomputable def Isl.vars(I:Isl):List Str:=I.prs.map (·.1)
noncomputable def Wld.fns(W:Wld):List Str:=W.fer.map (·.name)
noncomputable def Wld.ins(W:Wld):List Str:=W.isl.map (·.name)
noncomputable def TmIn(ns:List Str)(T:Tm):Prop:=T.depth≤8/\T.size≤30/\∀x∈T.reads,x∈ns
noncomputable def U8(fs:List Str)(ns:List Str)(n:Nat):Stp->Prop
 |.take f x=>f∈fs/\x∈ns
 |.give f T=>f∈fs/\TmIn ns T
 |.put x T=>x∈ns/\TmIn ns T
 |.jump T i=>TmIn ns T/\0≤i/\i≤(n:Int)
structure IslOk (w:Nat) (fs:List Str) (I:Isl):Prop where
 nv:I.prs.length≤6
 ns:I.stps.length≤12
 nd:I.vars.Nodup
 gd:∀x∈I.vars,UF x
 wd:∀p∈I.prs,0≤p.2/\p.2<2^w
 st:∀s∈I.stps,U8 fs I.vars I.stps.length s
structure FerOk (is:List Str) (f:Fer):Prop where
 g:f.giver∈is
 t:f.taker∈is
 ne:f.giver≠f.taker
 k3:f.k≤3
 s1:1≤f.st
 s3:f.st≤3
noncomputable def WI(F:List Fer)(z:Str):Stp->Prop
 |.take f _=>∀x∈F,x.name=f->x.taker=z
 |.give f _=>∀x∈F,x.name=f->x.giver=z
 |_=>True
structure Wld.Good (W:Wld):Prop where
 w1:1≤W.w
 w2:W.w≤64
 i5:W.isl.length≤5
 f6:W.fer.length≤6
 fg:∀z∈W.fns,UF z
 ig:∀z∈W.ins,UF z
 nd:(W.fns++W.ins).Nodup
 io:∀I∈W.isl,IslOk W.w W.fns I
 fo:∀f∈W.fer,FerOk W.ins f
 en:∀I∈W.isl,∀s∈I.stps,WI W.fer I.name s
noncomputable def IslIn(M:MH)(I:Isl)(y:MV):Prop:=∃a b,y=.tup [.str I.name,.ref a,.ref b]/\M a=some (.lst (I.prs.map prV))/\M b=some (.lst (I.stps.map Stp.mv))
theorem IslIn.keep{M M':MH}(s:SameM M M'){I:Isl}{y:MV}(h:IslIn M I y):IslIn M' I y:=by
 obtain⟨a,b,e,h1,h2⟩:=h;exact⟨a,b,e,s _ _ h1,s _ _ h2⟩
noncomputable def IslsIn(M:MH)(Is:List Isl)(ys:List MV):Prop:=ys.length=Is.length/\∀(i:Nat) (I:Isl) (y:MV),Is[i]?=some I->ys[i]?=some y->IslIn M I y
theorem IslsIn.keep{M M':MH}(s:SameM M M'){Is:List Isl}{ys:List MV}(h:IslsIn M Is ys):IslsIn M' Is ys:=⟨h.1,λi z y a b=>(h.2 i z y a b).keep s⟩
theorem IslsIn.mem{M:MH}{Is:List Isl}{ys:List MV}(h:IslsIn M Is ys){y:MV}(hy:y∈ys):∃I∈Is,IslIn M I y:=by
 obtain⟨i,hi,rfl⟩:=Yn hy;have hi2:i<Is.length:=by rw[<- h.1];exact hi
 exact⟨Is[i],XY hi2,h.2 i _ _ (X8 hi2) (X8 hi)⟩
theorem IslsIn.fst{M:MH}{Is:List Isl}{ys:List MV}(h:IslsIn M Is ys){f:MV->MV}(hf:∀z r,f (.tup (.str z::r))=.str z):ys.map f=(Is.map (·.name)).map MV.str:=by
 apply A1;intro i;rw[Xo,Xo,Xo];by_cases hi:i<ys.length
 ·have hi2:i<Is.length:=by rw[<- h.1];exact hi
  obtain⟨a,b,e,_⟩:=h.2 i _ _ (X8 hi2) (X8 hi);rw[X8 hi2,X8 hi,e];show some (f _)=_;rw[hf];rfl
 ·have hi2:¬i<Is.length:=by rw[<- h.1];exact hi
  rw[Ud (by lia),Ud (by lia)];rfl
noncomputable abbrev WJ:SpM:=λvs M Q=>∃i:Int,vs=[.int i]/\Q (.bl true) M
theorem OE:MonW WJ:=by walk_at "m"
theorem OF(T:Txt K mg t):FnOk P w K mg base CX0 1 t.f_is_whole t.d_is_whole ["value"] (liSp K WJ):=by
 refine T.F_is_whole.okM Zdb (Xx (Φ:=[]) (Xy T) (Xz T) rfl nl0 nl0:Fts P w K mg base 0 Jj []) DU ZdN (λvs M Q h=>?_) (λvs M Q h=>?_)
 ·obtain⟨i,rfl,_⟩:=h;rfl
 obtain⟨i,rfl,q⟩:=h;show wSs _ _ _ [some (.int i)] M;rw[DU,Ji];walk_at "s"
 simpa using q
noncomputable abbrev AM:SpM:=λvs M Q=>∃i:Int,vs=[.int i]/\1≤i/\i≤64/\Q (.bl true) M
theorem OG:MonW AM:=by walk_at "m"
theorem Zdf(T:Txt K mg t):FnOk P w K mg base CX0 2 t.f_is_width t.d_is_width ["number"] (liSp K AM):=by
 refine T.F_is_width.okM Zda (Xx (Φ:=[("is_whole",WJ)]) (Xy T) (Xz T) rfl (fMc ⟨OE,nl0⟩) (fMc ⟨⟨_,_,_,(FnOk.mono (OF T) (by decide)),T.m_is_whole,T.F_is_whole.kp,T.b_is_whole⟩,nl0⟩):Fts P w K mg base 1 Jl [("is_whole",WJ)]) DV ZdM (fun vs M Q h=>?_) (fun vs M Q h=>?_)
 ·obtain⟨i,rfl,_⟩:=h;rfl
 obtain⟨i,rfl,h1,h2,q⟩:=h;show wSs _ _ _ [some (.int i)] M;rw[DV,Jk];walk_at "s";refine⟨i,rfl,?_⟩;walk_at "s";rw[if_pos h1,decide_eq_true h2];exact q
noncomputable abbrev Ck:SpM:=λvs M Q=>∃(k:Nat) (i:Int),vs=[.int k,.int i]/\k≤64/\0≤i/\i<2^k/\Q (.bl true) M
theorem Zdi:MonW Ck:=by walk_at "m"
theorem ZkO(T:Txt K mg t):FnOk P w K mg base CX0 2 t.f_fits t.d_fits ["width","number"] (liSp K Ck):=by
 refine T.F_fits.okM Zka (Xx (Φ:=[("is_whole",WJ),("two_to",Vk)]) (Xy T) (Xz T) rfl (fMc ⟨OE,(fMc ⟨Fh,nl0⟩)⟩) (fMc ⟨⟨_,_,_,(FnOk.mono (OF T) (by decide)),T.m_is_whole,T.F_is_whole.kp,T.b_is_whole⟩,(fMc ⟨⟨_,_,_,(FnOk.mono (Fi T) (by decide)),T.m_two_to,T.F_two_to.kp,T.b_two_to⟩,nl0⟩)⟩):Fts P w K mg base 1 Jt [("is_whole",WJ),("two_to",Vk)]) DX ZlD (fun vs M Q h=>?_) (fun vs M Q h=>?_)
 ·obtain⟨k,i,rfl,_⟩:=h;rfl
 obtain⟨k,i,rfl,h1,h2,h3,q⟩:=h;show wSs _ _ _ [some (.int k),some (.int i)] M;rw[DX,Js];walk_at "s";refine⟨i,rfl,?_⟩;walk_at "s";rw[if_pos h2];refine⟨k,rfl,h1,?_⟩;walk_at "s";rw[decide_eq_true h3];exact q
noncomputable abbrev Vn:SpM:=λvs M Q=>∃(z:Str) (e:Addr) (zs:List Str),vs=[.str z,.ref e]/\M e=some (.lst (zs.map MV.str))/\z∈zs/\Q .non M
theorem Fm:MonW Vn:=by walk_at "m"
theorem Fn(T:Txt K mg t):FnOk P w K mg base CX0 1 t.f_refuse_unknown t.d_refuse_unknown ["name","known"] (liSp K Vn):=by
 refine T.F_refuse_unknown.okM Z7m (Xx (Φ:=[]) (Xy T) (Xz T) rfl nl0 nl0:Fts P w K mg base 0 Km []) Em Z7E (λvs M Q h=>?_) (λvs M Q h=>?_)
 ·obtain⟨z,a,zs,rfl,_⟩:=h;rfl
 obtain⟨z,a,zs,rfl,h1,h2,q⟩:=h;show wSs _ _ _ [some (.str z),some (.ref a)] M;rw[Em,Kl];walk_at "s";refine .inl ⟨_,h1,rfl,UX zs,?_⟩;rw[UW,decide_eq_true h2];walk_at "s";exact q
theorem Fo{α:Type} [DecidableEq α] {zs:List α}(nd:zs.Nodup){j:Nat}{z:α}(hz:zs[j]?=some z):z∉zs.take j:=λhm=>by
 obtain⟨hj,rfl⟩:=XE.mp hz;obtain⟨k,hk,e1⟩:=Yn hm;have hk2:k<j:=by rw[Yz]at hk;lia
 rw[List.getElem_take]at e1;have:=(List.getElem_inj nd).mp e1;lia
theorem Fp{α β:Type}{f:α->β}{zs:List α}{j:Nat}{z:α}(hz:zs[j]?=some z):(zs.take j).map f++[f z]=(zs.take (j+1)).map f:=by
 rw[UM,hz,YD];rfl
noncomputable abbrev AN:SpM:=λvs M Q=>∃(f:Addr) (F:List Fer),vs=[.ref f]/\M f=some (.lst (F.map Fer.mv))/\F.length≤6/\(F.map (·.name)).Nodup/\(∀x∈F,UF x.name)/\∀M',SameM M M'->Q .non M'
theorem OH:MonW AN:=by walk_at "m"
theorem Z4j(T:Txt K mg t):FnOk P w K mg base CX0 3 t.f_refuse_ferry_names t.d_refuse_ferry_names ["ferries"] (liSp K AN):=by
 refine T.F_refuse_ferry_names.okM Z4h (Xx (Φ:=[("refuse_name",Vm)]) (Xy T) (Xz T) rfl (fMc ⟨Fk,nl0⟩) (fMc ⟨⟨_,_,_,(FnOk.mono (Fl T) (by decide)),T.m_refuse_name,T.F_refuse_name.kp,T.b_refuse_name⟩,nl0⟩):Fts P w K mg base 2 Ks [("refuse_name",Vm)]) En Z53 (fun vs M Q h=>?_) (fun vs M Q h=>?_)
 ·obtain⟨f,F,rfl,_⟩:=h;rfl
 obtain⟨f,F,rfl,hf,h6,nd,hg,q⟩:=h;show wSs _ _ _ [some (.ref f),none,none] M;rw[En,Kr];walk_at "s";intro p hp;have s1:=SameM.new hp (.lst []);have hf1:=s1 _ _ hf;have hp1:updM M p (.lst []) p=some (.lst []):=Xh;have old:∀a o,M a=some o->a≠p:=λa o h=>neM h hp;generalize updM M p _=M1 at*;rw[Kq]
 repeat (first|walk_at "s"|simp only[hf1])
 obtain⟨J,hJ⟩:∃J:Nat->Sm->MH->Prop,∀j σ M',J j σ M'↔SameM M M'/\M' p=some (.lst (((F.map (·.name)).take j).map MV.str))/\∃v,σ=[some (.ref f),some (.ref p),v]:=⟨_,λ_ _ _=>Yp⟩;refine⟨J,(hJ _ _ _).mpr ⟨s1,by simpa using hp1,_,rfl⟩,λj σ M' h=>((hJ _ _ _).mp h).1 _ _ hf,?_,?_⟩
 ·rintro j y σ M' hy h;obtain⟨s2,hp2,v,rfl⟩:=(hJ _ _ _).mp h;obtain⟨hj,rfl⟩:=Yq hy;have hj:j<F.length:=hj;have hz:(F.map (·.name))[j]?=some F[j].name:=by rw[Xo,X8 hj];rfl
  rw[Ko]
  repeat (first|walk_at "s"|simp only[Fer.mv])
  refine⟨F[j].name,p,(F.map (·.name)).take j,rfl,hp2,hg _ (XY hj),Fo nd hz,λM3 s3=>?_⟩;have hp3:=s3 _ _ hp2;walk_at "s";rw[Kn]
  repeat (first|walk_at "s"|simp only[Fer.mv,hp3,X7,Yz])
  refine⟨⟨_,rfl⟩,by lia,(hJ _ _ _).mpr ⟨λa o h=>by rw[XD (old a o h)];exact s3 _ _ (s2 _ _ h),?_,_,rfl⟩⟩
  rw[Xh,Fp hz]
 ·rintro σ M' h;obtain⟨s2,_⟩:=(hJ _ _ _).mp h;exact q _ s2
noncomputable abbrev AO:SpM:=λvs M Q=>∃(k:Nat) (f:Addr) (ps:List (Str×Int)),vs=[.int k,.ref f]/\M f=some (.lst (ps.map prV))/\k≤64/\ps.length≤6/\(ps.map (·.1)).Nodup/\(∀x∈ps,UF x.1/\0≤x.2/\x.2<2^k)/\∀M',SameM M M'->Q .non M'
theorem OI:MonW AO:=by walk_at "m"
theorem Z69(T:Txt K mg t):FnOk P w K mg base CX0 3 t.f_refuse_variables t.d_refuse_variables ["width","pairs"] (liSp K AO):=by
 refine T.F_refuse_variables.okM Z66 (Xx (Φ:=[("fits",Ck),("refuse_name",Vm)]) (Xy T) (Xz T) rfl (fMc ⟨Zdi,(fMc ⟨Fk,nl0⟩)⟩) (fMc ⟨⟨_,_,_,(FnOk.mono (ZkO T) (by decide)),T.m_fits,T.F_fits.kp,T.b_fits⟩,(fMc ⟨⟨_,_,_,(FnOk.mono (Fl T) (by decide)),T.m_refuse_name,T.F_refuse_name.kp,T.b_refuse_name⟩,nl0⟩)⟩):Fts P w K mg base 2 Kz [("fits",Ck),("refuse_name",Vm)]) Eo Z6l (fun vs M Q h=>?_) (fun vs M Q h=>?_)
 ·obtain⟨k,f,F,rfl,_⟩:=h;rfl
 obtain⟨k,f,F,rfl,hf,hk,h6,nd,hg,q⟩:=h;show wSs _ _ _ [some (.int k),some (.ref f),none,none,none] M;rw[Eo,Ky];walk_at "s";intro p hp;have s1:=SameM.new hp (.lst []);have hf1:=s1 _ _ hf;have hp1:updM M p (.lst []) p=some (.lst []):=Xh;have old:∀a o,M a=some o->a≠p:=λa o h=>neM h hp;generalize updM M p _=M1 at*;rw[Kx]
 repeat (first|walk_at "s"|simp only[hf1])
 obtain⟨J,hJ⟩:∃J:Nat->Sm->MH->Prop,∀j σ M',J j σ M'↔SameM M M'/\M' p=some (.lst (((F.map (·.1)).take j).map MV.str))/\∃v v',σ=[some (.int k),some (.ref f),some (.ref p),v,v']:=⟨_,λ_ _ _=>Yp⟩;refine⟨J,(hJ _ _ _).mpr ⟨s1,by simpa using hp1,_,_,rfl⟩,λj σ M' h=>((hJ _ _ _).mp h).1 _ _ hf,?_,?_⟩
 ·rintro j y σ M' hy h;obtain⟨s2,hp2,v,v',rfl⟩:=(hJ _ _ _).mp h;obtain⟨hj,rfl⟩:=Yq hy;have hj:j<F.length:=hj;have hz:(F.map (·.1))[j]?=some F[j].1:=by rw[Xo,X8 hj];rfl
  obtain⟨g1,g2,g3⟩:=hg _ (XY hj);rw[Kw]
  repeat (first|walk_at "s"|simp only[prV])
  rw[Kv];walk_at "s";refine⟨F[j].1,p,(F.map (·.1)).take j,rfl,hp2,g1,Fo nd hz,λM3 s3=>?_⟩;have hp3:=s3 _ _ hp2;walk_at "s";rw[Ku]
  repeat (first|walk_at "s"|simp only[hp3,X7,Yz])
  refine⟨⟨_,rfl⟩,by lia,?_⟩
  rw[Kt]
  repeat (first|walk_at "s"|simp only[prV])
  refine⟨k,F[j].2,rfl,hk,g2,g3,?_⟩;walk_at "s";refine(hJ _ _ _).mpr ⟨λa o h=>by rw[XD (old a o h)];exact s3 _ _ (s2 _ _ h),?_,_,_,rfl⟩
  rw[Xh,Fp hz]
 ·rintro σ M' h;obtain⟨s2,_⟩:=(hJ _ _ _).mp h;exact q _ s2
noncomputable abbrev Cl:SpM:=λvs M Q=>∃(U:Tm) (e:Addr) (ns:List Str),vs=[U.mv,.ref e]/\M e=some (.lst (ns.map MV.str))/\ns.length≤6/\TmIn ns U/\∀M',SameM M M'->Q .non M'
theorem Z6A:MonW Cl:=by walk_at "m"
theorem Z9Z(T:Txt K mg t):FnOk P w K mg base CX0 51 t.f_refuse_term t.d_refuse_term ["T","known"] (liSp K Cl):=by
 refine T.F_refuse_term.okM Z9U (Xx (Φ:=[("refuse_unknown",Vn),("size_of",(VR 8)),("vars_in",Ch)]) (Xy T) (Xz T) rfl (fMc ⟨Fm,(fMc ⟨(Oy _),(fMc ⟨Za2,nl0⟩)⟩)⟩) (fMc ⟨⟨_,_,_,FnOk.mono (Fn T) (by decide),T.m_refuse_unknown,T.F_refuse_unknown.kp,T.b_refuse_unknown⟩,(fMc ⟨⟨_,_,_,FnOk.mono (Oz T 8) (by decide),T.m_size_of,T.F_size_of.kp,T.b_size_of⟩,(fMc ⟨⟨_,_,_,FnOk.mono (ZeZ T) (by decide),T.m_vars_in,T.F_vars_in.kp,T.b_vars_in⟩,nl0⟩)⟩)⟩):Fts P w K mg base 50 KE [("refuse_unknown",Vn),("size_of",(VR 8)),("vars_in",Ch)]) Ep Zad (fun vs M Q h=>?_) (fun vs M Q h=>?_)
 ·obtain⟨U,a,ns,rfl,_⟩:=h;rfl
 obtain⟨U,a,ns,rfl,ha,h6,⟨hd,hs,hr⟩,q⟩:=h;show wSs _ _ _ [some U.mv,some (.ref a),none,none] M;rw[Ep,KD];walk_at "s";refine⟨U,rfl,hd,λM1 s1=>?_⟩;walk_at "s";rw[KC];walk_at "s";rw[if_neg (by lia:¬((U.size:Nat):Int)>30)]
 rw[if_neg (by lia:¬((U.depth:Nat):Int)>8)]
 rw[KB];walk_at "s";refine⟨U,ns,rfl,by lia,by lia,hr,by lia,λp M2 ys s2 hp hp2 nd hm _=>?_⟩
 repeat (first|walk_at "s"|simp only[hp2])
 obtain⟨J,hJ⟩:∃J:Nat->Sm->MH->Prop,∀j σ M',J j σ M'↔M'=M2/\∃v v',σ=[some U.mv,some (.ref a),v,v']:=⟨_,λ_ _ _=>Yp⟩;refine⟨J,(hJ _ _ _).mpr ⟨rfl,_,_,rfl⟩,λj σ M' h=>by rw[((hJ _ _ _).mp h).1];exact hp2,?_,?_⟩
 ·rintro j y σ M' hy h;obtain⟨rfl,v,v',rfl⟩:=(hJ _ _ _).mp h;obtain⟨hj,rfl⟩:=Yq hy;rw[KA];walk_at "s";refine⟨ys[j],a,ns,rfl,s2 _ _ (s1 _ _ ha),hr _ ((hm _).mp (XY hj)),?_⟩;walk_at "s";exact(hJ _ _ _).mpr ⟨rfl,_,_,rfl⟩
 ·rintro σ M' h;obtain⟨rfl,_⟩:=(hJ _ _ _).mp h;exact q _ (s1.trans s2)
theorem Fq{f x:Str}:(Stp.take f x).mv=.tup [.str "take",.str f,.str x]:=rfl
theorem Fs{f:Str}{U:Tm}:(Stp.give f U).mv=.tup [.str "give",.str f,U.mv]:=rfl
theorem Ft{f:Str}{U:Tm}:(Stp.put f U).mv=.tup [.str "put",.str f,U.mv]:=rfl
theorem Fu{i:Int}{U:Tm}:(Stp.jump U i).mv=.tup [.str "jump",U.mv,.int i]:=rfl
noncomputable abbrev AQ:SpM:=λvs M Q=>∃(S:Stp) (a b:Addr) (ns fs:List Str) (n:Nat),vs=[S.mv,.ref a,.int n,.ref b]/\M a=some (.lst (ns.map MV.str))/\M b=some (.lst (fs.map MV.str))/\ns.length≤6/\U8 fs ns n S/\∀M',SameM M M'->Q .non M'
theorem OJ:MonW AQ:=by walk_at "m"
theorem Za0(T:Txt K mg t):FnOk P w K mg base CX0 52 t.f_refuse_step t.d_refuse_step ["step","known","count","ferry_names"] (liSp K AQ):=by
 refine T.F_refuse_step.okM Z9V (Xx (Φ:=[("refuse_term",Cl),("refuse_unknown",Vn)]) (Xy T) (Xz T) rfl (fMc ⟨Z6A,(fMc ⟨Fm,nl0⟩)⟩) (fMc ⟨⟨_,_,_,(FnOk.mono (Z9Z T) (by decide)),T.m_refuse_term,T.F_refuse_term.kp,T.b_refuse_term⟩,(fMc ⟨⟨_,_,_,(FnOk.mono (Fn T) (by decide)),T.m_refuse_unknown,T.F_refuse_unknown.kp,T.b_refuse_unknown⟩,nl0⟩)⟩):Fts P w K mg base 51 KO [("refuse_term",Cl),("refuse_unknown",Vn)]) Es Zae (fun vs M Q h=>?_) (fun vs M Q h=>?_)
 ·obtain⟨S,a,b,ns,fs,n,rfl,_⟩:=h;rfl
 obtain⟨S,a,b,ns,fs,n,rfl,ha,hb,h6,hS,q⟩:=h;show wSs _ _ _ [some S.mv,some (.ref a),some (.int n),some (.ref b)] M;rw[Es,KN];cases S with
 |take f x=>
  obtain⟨h1,h2⟩:=hS
  repeat (first|walk_at "s"|simp only[Fq])
  rw[KG];walk_at "s";refine⟨f,b,fs,rfl,hb,h1,?_⟩;walk_at "s";rw[KF];walk_at "s";refine⟨x,a,ns,rfl,ha,h2,?_⟩;walk_at "s";exact q _ (SameM.refl _)
 |give f U=>
  obtain⟨h1,h2⟩:=hS
  repeat (first|walk_at "s"|simp only[Fs])
  rw[C8];walk_at "s";rw[KI];walk_at "s";refine⟨f,b,fs,rfl,hb,h1,?_⟩;walk_at "s";rw[KH];walk_at "s";refine⟨U,a,ns,rfl,ha,h6,h2,λM1 s1=>?_⟩;walk_at "s";exact q _ s1
 |put f U=>
  obtain⟨h1,h2⟩:=hS
  repeat (first|walk_at "s"|simp only[Ft])
  rw[C8];walk_at "s";rw[Er];walk_at "s";rw[KK];walk_at "s";refine⟨f,a,ns,rfl,ha,h1,?_⟩;walk_at "s";rw[KJ];walk_at "s";refine⟨U,a,ns,rfl,ha,h6,h2,λM1 s1=>?_⟩;walk_at "s";exact q _ s1
 |jump U i=>
  obtain⟨h1,h2,h3⟩:=hS
  repeat (first|walk_at "s"|simp only[Fu])
  rw[C8];walk_at "s";rw[Er];walk_at "s";rw[KM];walk_at "s";refine⟨U,a,ns,rfl,ha,h6,h1,λM1 s1=>?_⟩;walk_at "s";rw[KL];walk_at "s";rw[if_pos h2];rw[if_neg (by lia:¬¬i≤(n:Int))]
  exact q _ s1
noncomputable abbrev Cm:SpM:=λvs M Q=>∃(k:Nat) (I:Isl) (y:MV) (b:Addr) (fs:List Str),vs=[.int k,y,.ref b]/\k≤64/\IslIn M I y/\M b=some (.lst (fs.map MV.str))/\IslOk k fs I/\∀M',SameM M M'->Q .non M'
theorem Z5i:MonW Cm:=by walk_at "m"
theorem Z8v(T:Txt K mg t):FnOk P w K mg base CX0 53 t.f_refuse_island t.d_refuse_island ["width","island","ferry_names"] (liSp K Cm):=by
 refine T.F_refuse_island.okM Z8t (Xx (Φ:=[("refuse_step",AQ),("refuse_variables",AO)]) (Xy T) (Xz T) rfl (fMc ⟨OJ,(fMc ⟨OI,nl0⟩)⟩) (fMc ⟨⟨_,_,_,(FnOk.mono (Za0 T) (by decide)),T.m_refuse_step,T.F_refuse_step.kp,T.b_refuse_step⟩,(fMc ⟨⟨_,_,_,(FnOk.mono (Z69 T) (by decide)),T.m_refuse_variables,T.F_refuse_variables.kp,T.b_refuse_variables⟩,nl0⟩)⟩):Fts P w K mg base 52 KY [("refuse_step",AQ),("refuse_variables",AO)]) Et Z8A (fun vs M Q h=>?_) (fun vs M Q h=>?_)
 ·obtain⟨k,I,y,b,fs,rfl,_⟩:=h;rfl
 obtain⟨k,I,y,fa,fs,rfl,hk,⟨a,b,rfl,ha,hb⟩,hfa,ok,q⟩:=h;show wSs _ _ _ [some (.int k),some (.tup [.str I.name,.ref a,.ref b]),some (.ref fa),none,none] M;have l1:=ok.nv;have l2:=ok.ns;rw[Et,KW]
 repeat (first|walk_at "s"|simp only[ha,X7])
 refine Yb (λz=>by lia) (λ_=>?_)
 rw[KU]
 repeat (first|walk_at "s"|simp only[hb,X7])
 refine Yb (λz=>by lia) (λ_=>?_)
 rw[KS];walk_at "s";refine⟨k,a,I.prs,rfl,ha,hk,l1,ok.nd,λx hx=>⟨ok.gd _ (XU.mpr ⟨x,hx,rfl⟩),ok.wd _ hx⟩,λM1 s1=>?_⟩;walk_at "s";have ha1:=s1 _ _ ha;rw[KR];walk_at "s";refine UU I.prs prV (fun p=>.str p.1) ?_ ?_ (Uk (Φ:=[("refuse_step",AQ),("refuse_variables",AO)]) (fMc ⟨OJ,(fMc ⟨OI,nl0⟩)⟩)) fun D hD=>?_
 ·repeat (first|walk_at "s"|simp only[ha1])
  exact⟨rfl,by lia,ha1⟩
 ·intro p hp M' s;simp only[sCm,XA,Y8,Yh,Yi,Ye,Y7]
  repeat (first|walk_at "s"|simp only[prV])
  try exact⟨rfl,rfl⟩
 have eV:(I.prs.map λp=>MV.str p.1)=I.vars.map MV.str:=by unfold Isl.vars;rw[Y9];rfl
 rw[eV];have s2:=s1.trans (SameM.new hD (.lst (I.vars.map MV.str)));have hD2:updM M1 D (.lst (I.vars.map MV.str)) D=some (.lst (I.vars.map MV.str)):=Xh;generalize updM M1 D _=M2 at*;have hb2:=s2 _ _ hb;rw[KQ]
 repeat (first|walk_at "s"|simp only[hb2])
 obtain⟨J,hJ⟩:∃J:Nat->Sm->MH->Prop,∀j σ M',J j σ M'↔SameM M2 M'/\∃v,σ=[some (.int k),some (.tup [.str I.name,.ref a,.ref b]),some (.ref fa),some (.ref D),v]:=⟨_,λ_ _ _=>Yp⟩;refine⟨J,(hJ _ _ _).mpr ⟨SameM.refl _,_,rfl⟩,λj σ M' h=>((hJ _ _ _).mp h).1 _ _ hb2,?_,?_⟩
 ·rintro j y σ M' hy h;obtain⟨s3,v,rfl⟩:=(hJ _ _ _).mp h;obtain⟨hj,rfl⟩:=Yq hy;have hj:j<I.stps.length:=hj;have hb3:=s3 _ _ hb2;rw[KP]
  repeat (first|walk_at "s"|simp only[hb3,X7])
  refine⟨I.stps[j],D,fa,I.vars,fs,I.stps.length,rfl,s3 _ _ hD2,s3 _ _ (s2 _ _ hfa),by unfold Isl.vars;rw[X7];exact l1,ok.st _ (XY hj),λM4 s4=>?_⟩
  walk_at "s";exact(hJ _ _ _).mpr ⟨s3.trans s4,_,rfl⟩
 ·rintro σ M' h;obtain⟨s3,_⟩:=(hJ _ _ _).mp h;exact q _ (s2.trans s3)
noncomputable abbrev AR:SpM:=λvs M Q=>∃(k:Nat) (p b:Addr) (Is:List Isl) (ys:List MV) (fs:List Str),vs=[.int k,.ref p,.ref b]/\k≤64/\M p=some (.lst ys)/\IslsIn M Is ys/\Is.length≤5/\fs.length≤6/\M b=some (.lst (fs.map MV.str))/\(fs++Is.map (·.name)).Nodup/\(∀I∈Is,UF I.name)/\(∀I∈Is,IslOk k fs I)/\∀M',SameM M M'->Q .non M'
theorem OK:MonW AR:=by walk_at "m"
theorem Z7q(T:Txt K mg t):FnOk P w K mg base CX0 54 t.f_refuse_islands t.d_refuse_islands ["width","islands","ferry_names"] (liSp K AR):=by
 refine T.F_refuse_islands.okM Z7n (Xx (Φ:=[("refuse_island",Cm),("refuse_name",Vm)]) (Xy T) (Xz T) rfl (fMc ⟨Z5i,(fMc ⟨Fk,nl0⟩)⟩) (fMc ⟨⟨_,_,_,(FnOk.mono (Z8v T) (by decide)),T.m_refuse_island,T.F_refuse_island.kp,T.b_refuse_island⟩,(fMc ⟨⟨_,_,_,(FnOk.mono (Fl T) (by decide)),T.m_refuse_name,T.F_refuse_name.kp,T.b_refuse_name⟩,nl0⟩)⟩):Fts P w K mg base 53 L5 [("refuse_island",Cm),("refuse_name",Vm)]) Eu Z7F (fun vs M Q h=>?_) (fun vs M Q h=>?_)
 ·obtain⟨k,p,b,Is,ys,fs,rfl,_⟩:=h;rfl
 obtain⟨k,p,f,Is,ys,fs,rfl,hk,hp,hI,h5,hf6,hf,nd,hg,ok,q⟩:=h;show wSs _ _ _ [some (.int k),some (.ref p),some (.ref f),none,none] M;rw[Eu,L4]
 repeat (first|walk_at "s"|simp only[hf])
 intro e he;have s1:=SameM.new he (.lst (fs.map MV.str));have he1:updM M e (.lst (fs.map MV.str)) e=some (.lst (fs.map MV.str)):=Xh;have hp1:=s1 _ _ hp;have old:∀a o,M a=some o->a≠e:=λa o h=>neM h he;generalize updM M e _=M1 at*;rw[L3]
 repeat (first|walk_at "s"|simp only[hp1])
 obtain⟨J,hJ⟩:∃J:Nat->Sm->MH->Prop,∀j σ M',J j σ M'↔SameM M M'/\M' e=some (.lst ((fs++(Is.map (·.name)).take j).map MV.str))/\∃v,σ=[some (.int k),some (.ref p),some (.ref f),some (.ref e),v]:=⟨_,λ_ _ _=>Yp⟩;refine⟨J,(hJ _ _ _).mpr ⟨s1,by simpa using he1,_,rfl⟩,λj σ M' h=>((hJ _ _ _).mp h).1 _ _ hp,?_,?_⟩
 ·rintro j y σ M' hy h;obtain⟨s2,he2,v,rfl⟩:=(hJ _ _ _).mp h;have hy:ys[j]?=some y:=hy;have hj:j<Is.length:=by rw[<- hI.1];exact(XE.mp hy).1
  have hi:Is[j]?=some Is[j]:=X8 hj;have hz:(Is.map (·.name))[j]?=some Is[j].name:=by rw[Xo,hi];rfl
  have hm:=XY hj;obtain⟨a,b,rfl,_⟩:=(hI.keep s2).2 j Is[j] y hi hy;have nin:Is[j].name∉fs++(Is.map (·.name)).take j:=by
   rw[Zb]at nd;intro z;rcases Yf.mp z with z|z
   ·exact nd.2.2 _ z _ (XU.mpr ⟨_,hm,rfl⟩) rfl
   ·exact Fo nd.2.1 hz z
  rw[L1];walk_at "s";refine⟨Is[j].name,e,fs++(Is.map (·.name)).take j,rfl,he2,hg _ hm,nin,λM3 s3=>?_⟩;have he3:=s3 _ _ he2;walk_at "s";rw[L0]
  repeat (first|walk_at "s"|simp only[he3,X7,Y0,Yz])
  refine⟨⟨_,rfl⟩,by lia,?_⟩
  have s4:SameM M (updM M3 e (.lst ((fs++(Is.map (·.name)).take j).map MV.str++[.str Is[j].name]))):=λa o h=>by rw[XD (old a o h)];exact s3 _ _ (s2 _ _ h)
  have he4:updM M3 e (.lst ((fs++(Is.map (·.name)).take j).map MV.str++[.str Is[j].name])) e=some (.lst ((fs++(Is.map (·.name)).take (j+1)).map MV.str)):=by
   rw[Xh,YD,YD,A0,Fp hz]
  generalize updM M3 e _=M4 at*;rw[KZ];walk_at "s";refine⟨k,Is[j],_,f,fs,rfl,hk,(hI.keep s4).2 j _ _ hi hy,s4 _ _ hf,ok _ hm,λM5 s5=>?_⟩;walk_at "s";exact(hJ _ _ _).mpr ⟨s4.trans s5,s5 _ _ he4,_,rfl⟩
 ·rintro σ M' h;obtain⟨s2,_⟩:=(hJ _ _ _).mp h;exact q _ s2
noncomputable abbrev AS:SpM:=λvs M Q=>∃(x:Fer) (e:Addr) (zs:List Str),vs=[x.mv,.ref e]/\M e=some (.lst (zs.map MV.str))/\FerOk zs x/\Q .non M
theorem OL:MonW AS:=by walk_at "m"
theorem Z8Y(T:Txt K mg t):FnOk P w K mg base CX0 2 t.f_refuse_ferry t.d_refuse_ferry ["ferry","island_names"] (liSp K AS):=by
 refine T.F_refuse_ferry.okM Z8O (Xx (Φ:=[("refuse_unknown",Vn)]) (Xy T) (Xz T) rfl (fMc ⟨Fm,nl0⟩) (fMc ⟨⟨_,_,_,(FnOk.mono (Fn T) (by decide)),T.m_refuse_unknown,T.F_refuse_unknown.kp,T.b_refuse_unknown⟩,nl0⟩):Fts P w K mg base 1 Lb [("refuse_unknown",Vn)]) Ev Z9F (fun vs M Q h=>?_) (fun vs M Q h=>?_)
 ·obtain⟨x,a,zs,rfl,_⟩:=h;rfl
 obtain⟨x,a,zs,rfl,ha,ok,q⟩:=h;show wSs _ _ _ [some (.tup [.str x.name,.str x.giver,.str x.taker,.int x.k,.int x.st]),some (.ref a)] M;have k3:=ok.k3;have t1:=ok.s1;have t3:=ok.s3;rw[Ev,La];walk_at "s";refine⟨_,a,zs,rfl,ha,ok.g,?_⟩;walk_at "s";rw[L9];walk_at "s";refine⟨_,a,zs,rfl,ha,ok.t,?_⟩;walk_at "s";rw[L8];walk_at "s";rw[if_neg ok.ne];rw[L7];walk_at "s";rw[if_pos (by lia:(0:Int)≤(x.k:Int))]
 rw[if_neg (by lia:¬¬(x.k:Int)≤3)]
 rw[L6];walk_at "s";rw[if_pos (by lia:(1:Int)≤(x.st:Int))]
 rw[if_neg (by lia:¬¬(x.st:Int)≤3)]
 exact q
theorem ZeW{F:List Fer}{g:Fer->Str}:∀{c:List (Key×MV)},(F.map (·.name)).Nodup->(∀x∈F,valM c (XB x.name)=none)->∀x∈F,valM ((F.map λy=>((XB y.name:Key),MV.str (g y))).foldl (λc z=>putM c z.1 z.2) c) (XB x.name)=some (.str (g x)):=by
 have stay:∀(F:List Fer) (c:List (Key×MV)) (z:Str),(∀y∈F,y.name≠z)->valM ((F.map λy=>((XB y.name:Key),MV.str (g y))).foldl (λc z=>putM c z.1 z.2) c) (XB z)=valM c (XB z):=by
  intro F
  induction F with
  |nil=>intro c z _;rfl
  |cons y r ih=>
   intro c z h;rw[XA,We,ih _ _ (λy hy=>h y (Y5 _ hy)),C9,if_neg (λe=>h y (Ya ..) (VH e).symm)]
 induction F with
 |nil=>intro c _ _ x hx;cases hx
 |cons y r ih=>
  intro c nd h x hx;rw[XA,YH]at nd;rw[XA,We];rcases Xu.mp hx with rfl|hx
  ·rw[stay _ _ _ (λz hz e=>nd.1 (XU.mpr ⟨z,hz,e⟩)),C9,if_pos rfl]
  ·refine ih nd.2 (λz hz=>?_) x hx;rw[C9,if_neg (λe=>nd.1 (XU.mpr ⟨z,hz,VH e⟩))];exact h z (Y5 _ hz)
noncomputable def dirK(F:List Fer)(g:Fer->Str):List (Key×MV):=US (F.map λy=>((XB y.name:Key),MV.str (g y)))
theorem OM{F:List Fer}{g:Fer->Str}(nd:(F.map (·.name)).Nodup){x:Fer}(hx:x∈F):valM (dirK F g) (XB x.name)=some (.str (g x)):=ZeW nd (λ_ _=>rfl) x hx
noncomputable abbrev AT:SpM:=λvs M Q=>∃(z:Str) (S:Stp) (a b:Addr) (F:List Fer),vs=[.str z,S.mv,.ref a,.ref b]/\M a=some (.dic (dirK F (·.giver)))/\M b=some (.dic (dirK F (·.taker)))/\(F.map (·.name)).Nodup/\WI F z S/\(∀f,(∃x,S=.take f x)\/(∃U,S=.give f U)->f∈F.map (·.name))/\Q .non M
theorem ON:MonW AT:=by walk_at "m"
theorem Z68(T:Txt K mg t):FnOk P w K mg base CX0 1 t.f_refuse_wrong_end t.d_refuse_wrong_end ["name","step","givers","takers"] (liSp K AT):=by
 refine T.F_refuse_wrong_end.okM Z65 (Xx (Φ:=[]) (Xy T) (Xz T) rfl nl0 nl0:Fts P w K mg base 0 Ld []) Ew Z6k (λvs M Q h=>?_) (λvs M Q h=>?_)
 ·obtain⟨z,S,a,b,F,rfl,_⟩:=h;rfl
 obtain⟨z,S,a,b,F,rfl,ha,hb,nd,hE,hF,q⟩:=h;show wSs _ _ _ [some (.str z),some S.mv,some (.ref a),some (.ref b)] M;rw[Ew,Lc];cases S with
 |take f x=>
  obtain⟨y,hy,rfl⟩:=XU.mp (hF f (.inl ⟨x,rfl⟩));have v:=OM (g:=(·.taker)) nd hy;have e:=hE y hy rfl
  repeat (first|walk_at "s"|simp only[Fq,hb,v,e])
  rw[AG]
  repeat (first|walk_at "s"|simp only[Fq])
  exact q
 |give f U=>
  obtain⟨y,hy,rfl⟩:=XU.mp (hF f (.inr ⟨U,rfl⟩));have v:=OM (g:=(·.giver)) nd hy;have e:=hE y hy rfl
  repeat (first|walk_at "s"|simp only[Fs])
  rw[AG]
  repeat (first|walk_at "s"|simp only[Fs,ha,v,e])
  exact q
 |put f U=>
  repeat (first|walk_at "s"|simp only[Ft])
  rw[AG]
  repeat (first|walk_at "s"|simp only[Ft])
  exact q
 |jump U i=>
  repeat (first|walk_at "s"|simp only[Fu])
  rw[AG]
  repeat (first|walk_at "s"|simp only[Fu])
  exact q
theorem Zbi{fs ns:List Str}{n:Nat}{S:Stp}(h:U8 fs ns n S):∀f,(∃x,S=.take f x)\/(∃U,S=.give f U)->f∈fs:=by
 rintro f (⟨x,rfl⟩|⟨U,rfl⟩)
 ·exact h.1
 ·exact h.1
noncomputable abbrev AU:SpM:=λvs M Q=>∃(p f:Addr) (ys:List MV) (Is:List Isl) (F:List Fer),vs=[.ref p,.ref f]/\M p=some (.lst ys)/\IslsIn M Is ys/\Is.length≤5/\M f=some (.lst (F.map Fer.mv))/\F.length≤6/\(F.map (·.name)).Nodup/\
 (∀I∈Is,I.stps.length≤12/\∀s∈I.stps,WI F I.name s/\∃ns n,U8 (F.map (·.name)) ns n s)/\∀M',SameM M M'->Q .non M'
theorem OO:MonW AU:=by walk_at "m"
theorem OP(F:List Fer)(g:Fer->Str):(F.map λx=>MV.tup [.str x.name,.str (g x)])=(F.map λy=>((XB y.name:Key),MV.str (g y))).map prM:=by rw[Y9];rfl
theorem Z5h(T:Txt K mg t):FnOk P w K mg base CX0 2 t.f_refuse_wrong_ends t.d_refuse_wrong_ends ["islands","ferries"] (liSp K AU):=by
 refine T.F_refuse_wrong_ends.okM Z5g (Xx (Φ:=[("refuse_wrong_end",AT)]) (Xy T) (Xz T) rfl (fMc ⟨ON,nl0⟩) (fMc ⟨⟨_,_,_,(FnOk.mono (Z68 T) (by decide)),T.m_refuse_wrong_end,T.F_refuse_wrong_end.kp,T.b_refuse_wrong_end⟩,nl0⟩):Fts P w K mg base 1 Lk [("refuse_wrong_end",AT)]) Ex Z5k (fun vs M Q h=>?_) (fun vs M Q h=>?_)
 ·obtain⟨p,f,ys,Is,F,rfl,_⟩:=h;rfl
 obtain⟨p,f,ys,Is,F,rfl,hp,hI,h5,hf,h6,nd,hE,q⟩:=h;show wSs _ _ _ [some (.ref p),some (.ref f),none,none,none,none] M;have hΦ:=(Uk (Φ:=[("refuse_wrong_end",AT)]) (fMc ⟨ON,nl0⟩));rw[Ex,Lj];walk_at "s";refine UU F Fer.mv (λx=>.tup [.str x.name,.str x.giver]) ?_ ?_ hΦ λD hD=>?_
 ·repeat (first|walk_at "s"|simp only[hf])
  exact⟨rfl,by lia,hf⟩
 ·intro x hx M' s;simp only[sCm,XA,Y8,Yh,Yi,Ye,Y7]
  repeat (first|walk_at "s"|simp only[Fer.mv])
  try exact⟨rfl,rfl⟩
 rw[OP F (·.giver)];have s1:=SameM.new hD (.lst ((F.map λy=>((XB y.name:Key),MV.str y.giver)).map prM));have d1:updM M D (.lst ((F.map λy=>((XB y.name:Key),MV.str y.giver)).map prM)) D=some (.lst ((F.map λy=>((XB y.name:Key),MV.str y.giver)).map prM)):=Xh;generalize updM M D _=M1 at*;walk_at "s";refine⟨_,d1,λa ha=>?_⟩;have s2:=s1.trans (SameM.new ha (.dic (dirK F (·.giver))));have ha2:updM M1 a (.dic (dirK F (·.giver))) a=some (.dic (dirK F (·.giver))):=Xh
 change wSs _ _ _ _ (updM M1 a (.dic (dirK F (·.giver))))
 generalize updM M1 a _=M2 at*;have hf2:=s2 _ _ hf;rw[Li];walk_at "s";refine UU F Fer.mv (λx=>.tup [.str x.name,.str x.taker]) ?_ ?_ hΦ λD2 hD2=>?_
 ·repeat (first|walk_at "s"|simp only[hf2])
  exact⟨rfl,by lia,hf2⟩
 ·intro x hx M' s;simp only[sCm,XA,Y8,Yh,Yi,Ye,Y7]
  repeat (first|walk_at "s"|simp only[Fer.mv])
  try exact⟨rfl,rfl⟩
 rw[OP F (·.taker)];have s3:=SameM.new hD2 (.lst ((F.map λy=>((XB y.name:Key),MV.str y.taker)).map prM));have d3:updM M2 D2 (.lst ((F.map λy=>((XB y.name:Key),MV.str y.taker)).map prM)) D2=some (.lst ((F.map λy=>((XB y.name:Key),MV.str y.taker)).map prM)):=Xh;generalize updM M2 D2 _=M3 at*;walk_at "s";refine⟨_,d3,λb hb=>?_⟩;have s4:=s3.trans (SameM.new hb (.dic (dirK F (·.taker))));have hb4:updM M3 b (.dic (dirK F (·.taker))) b=some (.dic (dirK F (·.taker))):=Xh
 change wSs _ _ _ _ (updM M3 b (.dic (dirK F (·.taker))))
 generalize updM M3 b _=M4 at*;have ha4:=s4 _ _ ha2;have s5:=s2.trans s4;have hp4:=s5 _ _ hp;have hI4:=hI.keep s5;rw[Lh]
 repeat (first|walk_at "s"|simp only[hp4])
 obtain⟨J,hJ⟩:∃J:Nat->Sm->MH->Prop,∀j σ M',J j σ M'↔M'=M4/\∃v v',σ=[some (.ref p),some (.ref f),some (.ref a),some (.ref b),v,v']:=⟨_,λ_ _ _=>Yp⟩;refine⟨J,(hJ _ _ _).mpr ⟨rfl,_,_,rfl⟩,λj σ M' h=>by rw[((hJ _ _ _).mp h).1];exact hp4,?_,?_⟩
 ·rintro j y σ M' hy h;obtain⟨rfl,v,v',rfl⟩:=(hJ _ _ _).mp h;obtain⟨I,hm,c,d,rfl,hc,hd⟩:=hI4.mem (XG hy);obtain⟨l12,hS⟩:=hE I hm;rw[Lg]
  repeat (first|walk_at "s"|simp only[hd])
  obtain⟨J2,hJ2⟩:∃J2:Nat->Sm->MH->Prop,∀j σ M,J2 j σ M↔M=M'/\∃v',σ=[some (.ref p),some (.ref f),some (.ref a),some (.ref b),some (.tup [.str I.name,.ref c,.ref d]),v']:=⟨_,λ_ _ _=>Yp⟩;refine⟨J2,(hJ2 _ _ _).mpr ⟨rfl,_,rfl⟩,λj σ M h=>by rw[((hJ2 _ _ _).mp h).1];exact hd,?_,?_⟩
  ·rintro i x σ M'' hx h2;obtain⟨rfl,v',rfl⟩:=(hJ2 _ _ _).mp h2;obtain⟨hi,rfl⟩:=Yq hx;have hi:i<I.stps.length:=hi;obtain⟨e1,ns,n,e2⟩:=hS _ (XY hi);rw[Lf];walk_at "s";refine⟨I.name,I.stps[i],a,b,F,rfl,ha4,hb4,nd,e1,Zbi e2,?_⟩;walk_at "s";exact(hJ2 _ _ _).mpr ⟨rfl,_,rfl⟩
  ·rintro σ M'' h2;obtain⟨rfl,v',rfl⟩:=(hJ2 _ _ _).mp h2
   try walk_at "s"
   exact(hJ _ _ _).mpr ⟨rfl,_,_,rfl⟩
 ·rintro σ M' h;obtain⟨rfl,_⟩:=(hJ _ _ _).mp h;exact q _ s5
theorem FroD.up{M:MH}:∀{n:Nat} {v v':MV},FroD n M v v'->FroD (n+1) M v v'
 |0,_,_,h=>.inl h
 |n+1,v,v',h=>by
  rcases h with h|⟨ps,h1,h2,h3,h4⟩
  ·exact .inl h
  ·exact .inr ⟨ps,h1,h2,h3,λp hp=>(h4 p hp).up⟩
theorem FroD.to{M:MH}{n m:Nat}{v v':MV}(h:FroD n M v v')(l:n≤m):FroD m M v v':=by
 obtain⟨d,rfl⟩:∃d,m=n+d:=⟨m - n,by lia⟩
 clear l
 induction d with
 |zero=>exact h
 |succ d ih=>exact ih.up
theorem fro_str{M:MH}{z:Str}:FroD 0 M (.str z) (.str z):=⟨.inr ⟨z,rfl⟩,rfl⟩
theorem fro_int{M:MH}{i:Int}:FroD 0 M (.int i) (.int i):=⟨.inl ⟨i,rfl⟩,rfl⟩
theorem UG{M:MH}{n:Nat}{xs:List MV}(l:xs.length≤1000)(h:∀x∈xs,FroD n M x x):FroD (n+1) M (.tup xs) (.tup xs):=by
 have e1:(xs.map λx=>(x,x)).map (·.1)=xs:=by rw[Y9];exact Bk xs
 have e2:(xs.map λx=>(x,x)).map (·.2)=xs:=by rw[Y9];exact Bk xs
 refine .inr ⟨xs.map λx=>(x,x),.inl (by rw[e1]),by rw[e2],by rw[X7];exact l,λp hp=>?_⟩
 obtain⟨x,hx,rfl⟩:=XU.mp hp;exact h x hx
theorem Fv{M:MH}{n:Nat}{a:Addr}{xs:List MV}(e:M a=some (.lst xs))(l:xs.length≤1000)(h:∀x∈xs,FroD n M x x):FroD (n+1) M (.ref a) (.tup xs):=by
 have e1:(xs.map λx=>(x,x)).map (·.1)=xs:=by rw[Y9];exact Bk xs
 have e2:(xs.map λx=>(x,x)).map (·.2)=xs:=by rw[Y9];exact Bk xs
 refine .inr ⟨xs.map λx=>(x,x),.inr ⟨a,rfl,by rw[e1];exact e⟩,by rw[e2],by rw[X7];exact l,λp hp=>?_⟩
 obtain⟨x,hx,rfl⟩:=XU.mp hp;exact h x hx
theorem Vo{M:MH}:∀U:Tm,FroD U.depth M U.mv U.mv
 |.num n=>UG (xs:=[.str "num",.int n]) (by simp) (by
   intro x hx;simp only[Xu,Yd,or_false]at hx;rcases hx with rfl|rfl
   ·exact fro_str
   ·exact fro_int)
 |.var z=>UG (xs:=[.str "var",.str z]) (by simp) (by
   intro x hx;simp only[Xu,Yd,or_false]at hx;rcases hx with rfl|rfl
   ·exact fro_str
   ·exact fro_str)
 |.two f a b=>by
  have ha:=Vo (M:=M) a;have hb:=Vo (M:=M) b;show FroD (1+max a.depth b.depth) M (.tup [.str f.str,a.mv,b.mv]) (.tup [.str f.str,a.mv,b.mv]);rw[Nat.add_comm];refine UG (by simp) λx hx=>?_
  simp only[Xu,Yd,or_false]at hx;rcases hx with rfl|rfl|rfl
  ·exact fro_str.to (YN _)
  ·exact ha.to (by lia)
  ·exact hb.to (by lia)
 |.pick c a b=>by
  have hc:=Vo (M:=M) c;have ha:=Vo (M:=M) a;have hb:=Vo (M:=M) b;show FroD (1+max c.depth (max a.depth b.depth)) M (.tup [.str "pick",c.mv,a.mv,b.mv]) (.tup [.str "pick",c.mv,a.mv,b.mv]);rw[Nat.add_comm];refine UG (by simp) λx hx=>?_
  simp only[Xu,Yd,or_false]at hx;rcases hx with rfl|rfl|rfl|rfl
  ·exact fro_str.to (YN _)
  ·exact hc.to (by lia)
  ·exact ha.to (by lia)
  ·exact hb.to (by lia)
theorem Zk2{M:MH}{fs ns:List Str}{n:Nat}{S:Stp}(h:U8 fs ns n S):FroD 9 M S.mv S.mv:=by
 cases S with
 |take f x=>
  refine UG (xs:=[.str "take",.str f,.str x]) (by simp) fun v hv=>?_
  simp only[Xu,Yd,or_false]at hv;rcases hv with rfl|rfl|rfl<;>exact fro_str.to (by decide)
 |give f U=>
  refine UG (xs:=[.str "give",.str f,U.mv]) (by simp) fun v hv=>?_
  simp only[Xu,Yd,or_false]at hv;rcases hv with rfl|rfl|rfl
  ·exact fro_str.to (by decide)
  ·exact fro_str.to (by decide)
  ·exact(Vo U).to h.2.1
 |put f U=>
  refine UG (xs:=[.str "put",.str f,U.mv]) (by simp) fun v hv=>?_
  simp only[Xu,Yd,or_false]at hv;rcases hv with rfl|rfl|rfl
  ·exact fro_str.to (by decide)
  ·exact fro_str.to (by decide)
  ·exact(Vo U).to h.2.1
 |jump U i=>
  refine UG (xs:=[.str "jump",U.mv,.int i]) (by simp) fun v hv=>?_
  simp only[Xu,Yd,or_false]at hv;rcases hv with rfl|rfl|rfl
  ·exact fro_str.to (by decide)
  ·exact(Vo U).to h.1.1
  ·exact fro_int.to (by decide)
theorem Zl8{M:MH}{k:Nat}{fs:List Str}{I:Isl}{y:MV}(ok:IslOk k fs I)(h:IslIn M I y):FroD 11 M y I.mv:=by
 obtain⟨a,b,rfl,ha,hb⟩:=h;have l1:=ok.nv;have l2:=ok.ns;refine .inr ⟨[(.str I.name,.str I.name),(.ref a,.tup (I.prs.map prV)),(.ref b,.tup (I.stps.map Stp.mv))],.inl rfl,rfl,by simp,λp hp=>?_⟩
 simp only[Xu,Yd,or_false]at hp;rcases hp with rfl|rfl|rfl
 ·exact fro_str.to (by decide)
 ·refine Fv ha (by rw[X7];lia) λx hx=>?_
  obtain⟨q,_,rfl⟩:=XU.mp hx;refine(UG (n:=0) (xs:=[.str q.1,.int q.2]) (by simp) λv hv=>?_).to (by decide)
  simp only[Xu,Yd,or_false]at hv;rcases hv with rfl|rfl
  ·exact fro_str
  ·exact fro_int
 ·refine Fv hb (by rw[X7];lia) λx hx=>?_
  obtain⟨S,hS,rfl⟩:=XU.mp hx;exact Zk2 (ok.st S hS)
theorem Zlv{M:MH}(f:Fer):FroD 1 M f.mv f.mv:=by
 refine UG (xs:=[.str f.name,.str f.giver,.str f.taker,.int f.k,.int f.st]) (by simp) λv hv=>?_
 simp only[Xu,Yd,or_false]at hv;rcases hv with rfl|rfl|rfl|rfl|rfl
 ·exact fro_str
 ·exact fro_str
 ·exact fro_str
 ·exact fro_int
 ·exact fro_int
theorem Zix{M:MH}{k:Nat}{fs:List Str}{Is:List Isl}{ys:List MV}{p:Addr}(hp:M p=some (.lst ys))(h:IslsIn M Is ys)(l:Is.length≤5)(ok:∀I∈Is,IslOk k fs I):FroD 12 M (.ref p) (.tup (Is.map Isl.mv)):=by
 have hl:=h.1;have e1:(ys.zip (Is.map Isl.mv)).map (·.1)=ys:=List.map_fst_zip (by rw[X7];lia)
 have e2:(ys.zip (Is.map Isl.mv)).map (·.2)=Is.map Isl.mv:=List.map_snd_zip (by rw[X7];lia)
 refine .inr ⟨ys.zip (Is.map Isl.mv),.inr ⟨p,rfl,by rw[e1];exact hp⟩,by rw[e2],by rw[Uu,X7];lia,λq hq=>?_⟩
 obtain⟨i,hi,rfl⟩:=Yn hq;rw[Uu,X7]at hi;have hi1:i<ys.length:=by lia
 have hi2:i<Is.length:=by lia
 rw[List.getElem_zip,CP];exact Zl8 (ok _ (XY hi2)) (h.2 i _ _ (X8 hi2) (X8 hi1))
noncomputable def fstM:MV->MV
 |.tup (x::_)=>x
 |v=>v
noncomputable abbrev AV:SpM:=λvs M Q=>∃(p f:Addr) (ys:List MV) (W:Wld),vs=[.int W.w,.ref p,.ref f]/\M p=some (.lst ys)/\IslsIn M W.isl ys/\M f=some (.lst (W.fer.map Fer.mv))/\W.Good/\∀M',SameM M M'->Q W.mv M'
theorem OQ:MonW AV:=by walk_at "m"
theorem ZkN(T:Txt K mg t):FnOk P w K mg base CX0 56 t.f_made t.d_made ["width","islands","ferries"] (liSp K AV):=by
 refine T.F_made.okM Zk9 (Xx (Φ:=[("frozen",(U7 13)),("is_width",AM),("refuse_ferry",AS),("refuse_ferry_names",AN),("refuse_islands",AR),("refuse_wrong_ends",AU)]) (Xy T) (Xz T) rfl (fMc ⟨(Cj _),(fMc ⟨OG,(fMc ⟨OL,(fMc ⟨OH,(fMc ⟨OK,(fMc ⟨OO,nl0⟩)⟩)⟩)⟩)⟩)⟩) (fMc ⟨⟨_,_,_,FnOk.mono (OD T 13) (by decide),T.m_frozen,T.F_frozen.kp,T.b_frozen⟩,(fMc ⟨⟨_,_,_,FnOk.mono (Zdf T) (by decide),T.m_is_width,T.F_is_width.kp,T.b_is_width⟩,(fMc ⟨⟨_,_,_,FnOk.mono (Z8Y T) (by decide),T.m_refuse_ferry,T.F_refuse_ferry.kp,T.b_refuse_ferry⟩,(fMc ⟨⟨_,_,_,FnOk.mono (Z4j T) (by decide),T.m_refuse_ferry_names,T.F_refuse_ferry_names.kp,T.b_refuse_ferry_names⟩,(fMc ⟨⟨_,_,_,FnOk.mono (Z7q T) (by decide),T.m_refuse_islands,T.F_refuse_islands.kp,T.b_refuse_islands⟩,(fMc ⟨⟨_,_,_,FnOk.mono (Z5h T) (by decide),T.m_refuse_wrong_ends,T.F_refuse_wrong_ends.kp,T.b_refuse_wrong_ends⟩,nl0⟩)⟩)⟩)⟩)⟩)⟩):Fts P w K mg base 55 Lx [("frozen",(U7 13)),("is_width",AM),("refuse_ferry",AS),("refuse_ferry_names",AN),("refuse_islands",AR),("refuse_wrong_ends",AU)]) EB ZlC (fun vs M Q h=>?_) (fun vs M Q h=>?_)
 ·obtain⟨p,f,ys,W,rfl,_⟩:=h;rfl
 obtain⟨p,f,ys,W,rfl,hp,hI,hf,G,q⟩:=h;have hΦ:=Uk (Φ:=[("frozen",U7 13),("is_width",AM),("refuse_ferry",AS),("refuse_ferry_names",AN),("refuse_islands",AR),("refuse_wrong_ends",AU)]) (fMc ⟨Cj 13,fMc ⟨OG,fMc ⟨OL,fMc ⟨OH,fMc ⟨OK,fMc ⟨OO,fun _ h=>nomatch h⟩⟩⟩⟩⟩⟩);show wSs _ _ _ [some (.int W.w),some (.ref p),some (.ref f),none,none] M;have w1:=G.w1;have w2:=G.w2;have i5:=G.i5;have f6:=G.f6;have hl:=hI.1;have nd:=Zb.mp G.nd;rw[EB,Lw];walk_at "s";refine⟨W.w,rfl,by lia,by lia,?_⟩
 walk_at "s";rw[Lv]
 repeat (first|walk_at "s"|simp only[hp])
 refine Yb (λz=>by lia) (λ_=>?_)
 rw[Lu]
 repeat (first|walk_at "s"|simp only[hf,X7])
 refine Yb (λz=>by lia) (λ_=>?_)
 rw[Ls];walk_at "s";refine⟨f,W.fer,rfl,hf,f6,nd.1,λx hx=>G.fg _ (XU.mpr ⟨x,hx,rfl⟩),λM1 s1=>?_⟩;walk_at "s";have hf1:=s1 _ _ hf;rw[Lr];walk_at "s";refine UU W.fer Fer.mv (λx=>.str x.name) ?_ ?_ hΦ λD hD=>?_
 ·repeat (first|walk_at "s"|simp only[hf1])
  exact⟨rfl,by lia,hf1⟩
 ·intro x hx M' s;simp only[sCm,XA,Y8,Yh,Yi,Ye,Y7]
  repeat (first|walk_at "s"|simp only[Fer.mv])
  try exact⟨rfl,rfl⟩
 have eF:(W.fer.map λx=>MV.str x.name)=W.fns.map MV.str:=by unfold Wld.fns;rw[Y9];rfl
 rw[eF];have s2:=s1.trans (SameM.new hD (.lst (W.fns.map MV.str)));have hD2:updM M1 D (.lst (W.fns.map MV.str)) D=some (.lst (W.fns.map MV.str)):=Xh;generalize updM M1 D _=M2 at*
 try walk_at "s"
 refine⟨W.w,p,D,W.isl,ys,W.fns,rfl,w2,s2 _ _ hp,hI.keep s2,i5,by unfold Wld.fns;rw[X7];exact f6,hD2,G.nd,λI hi=>G.ig _ (XU.mpr ⟨I,hi,rfl⟩),G.io,λM3 s3=>?_⟩
 have s4:=s2.trans s3;have hp3:=s4 _ _ hp;have hf3:=s4 _ _ hf;have hI3:=hI.keep s4;walk_at "s";rw[Lq];walk_at "s";refine UU ys (λy=>y) fstM ?_ ?_ hΦ λD hD=>?_
 ·repeat (first|walk_at "s"|simp only[hp3])
  exact⟨by simp[Src.items],by lia,hp3⟩
 ·intro y hy M' s;obtain⟨I,_,a,b,rfl,_⟩:=hI3.mem hy;simp only[sCm,XA,Y8,Yh,Yi,Ye,Y7];walk_at "s"
  rfl
 have eI:ys.map fstM=W.ins.map MV.str:=hI.fst λz r=>rfl;rw[eI];have s5:=s4.trans (SameM.new hD (.lst (W.ins.map MV.str)));have hD5:updM M3 D (.lst (W.ins.map MV.str)) D=some (.lst (W.ins.map MV.str)):=Xh;generalize updM M3 D _=M5 at*;have hf5:=s5 _ _ hf;rw[Lp]
 repeat (first|walk_at "s"|simp only[hf5])
 obtain⟨J,hJ⟩:∃J:Nat->Sm->MH->Prop,∀j σ M',J j σ M'↔M'=M5/\∃v,σ=[some (.int W.w),some (.ref p),some (.ref f),some (.ref D),v]:=⟨_,λ_ _ _=>Yp⟩;refine⟨J,(hJ _ _ _).mpr ⟨rfl,_,rfl⟩,λj σ M' h=>by rw[((hJ _ _ _).mp h).1];exact hf5,?_,?_⟩
 ·rintro j y σ M' hy h;obtain⟨rfl,v,rfl⟩:=(hJ _ _ _).mp h;obtain⟨hj,rfl⟩:=Yq hy;have hj:j<W.fer.length:=hj;rw[Lo];walk_at "s";refine⟨W.fer[j],D,W.ins,rfl,hD5,G.fo _ (XY hj),?_⟩;walk_at "s";exact(hJ _ _ _).mpr ⟨rfl,_,rfl⟩
 ·rintro σ M' h;obtain⟨rfl,v,rfl⟩:=(hJ _ _ _).mp h;rw[Ln];walk_at "s";refine⟨p,f,ys,W.isl,W.fer,rfl,s5 _ _ hp,hI.keep s5,i5,hf5,f6,nd.1,λI hi=>⟨(G.io I hi).ns,λS hS=>⟨G.en I hi S hS,_,_,(G.io I hi).st S hS⟩⟩,λM6 s6=>?_⟩;have s7:=s5.trans s6;walk_at "s";rw[Lm];walk_at "s";refine⟨_,W.mv,rfl,?_,λM' s'=>q M' (s7.trans s')⟩;refine .inr ⟨[(.int W.w,.int W.w),(.ref p,.tup (W.isl.map Isl.mv)),(.ref f,.tup (W.fer.map Fer.mv))],.inl rfl,rfl,by simp,λz hz=>?_⟩
  simp only[Xu,Yd,or_false]at hz;rcases hz with rfl|rfl|rfl
  ·exact fro_int.to (by decide)
  ·exact Zix (s7 _ _ hp) (hI.keep s7) i5 G.io
  ·refine(Fv (n:=1) (s7 _ _ hf) (by rw[X7];lia) λx hx=>?_).to (by decide)
   obtain⟨y,_,rfl⟩:=XU.mp hx;exact Zlv y
noncomputable def zipK:List Str->List MV->List (Key×MV)
 |k::ks,v::vs=>(XB k,v)::zipK ks vs
 |_,_=>[]
theorem VS:∀{ks:List Str} {vs:List MV},vs.length=ks.length->(zipK ks vs).length=ks.length
 |[],[],_=>rfl
 |[],_::_,h=>by cases h
 |_::_,[],h=>by cases h
 |k::ks,v::vs,h=>by
  show(zipK ks vs).length+1=_;rw[VS (by simpa using h)];rfl
theorem Cn:∀{ks:List Str} {vs:List MV},vs.length=ks.length->(zipK ks vs).map (·.1)=ks.map XB
 |[],[],_=>rfl
 |[],_::_,h=>by cases h
 |_::_,[],h=>by cases h
 |k::ks,v::vs,h=>by
  show XB k::(zipK ks vs).map (·.1)=_;rw[Cn (by simpa using h)];rfl
theorem UY:∀{ks:List Str} {vs:List MV} {i:Nat} {k:Str} {v:MV},ks.Nodup->ks[i]?=some k->vs[i]?=some v->valM (zipK ks vs) (XB k)=some v
 |[],_,_,_,_,_,h,_=>by simp at h
 |_::_,[],_,_,_,_,_,h=>by simp at h
 |a::ks,b::vs,0,k,v,_,h1,h2=>by
  simp at h1 h2;subst h1 h2;simp[zipK,valM]
 |a::ks,b::vs,i+1,k,v,nd,h1,h2=>by
  rw[YH]at nd;simp at h1 h2;have:a≠k:=λe=>nd.1 (e▸XG h1);simp only[zipK,valM];rw[if_neg (λe=>this (VH e))];exact UY nd.2 h1 h2
theorem AW:∀{ks:List Str} {vs:List MV} {i:Nat} {k:Str} {v:MV},vs.length=ks.length->ks.Nodup->ks[i]?=some k->putM (zipK ks vs) (XB k) v=zipK ks (vs.set i v)
 |[],_,_,_,_,_,_,h=>by simp at h
 |_::_,[],_,_,_,h,_,_=>by cases h
 |a::ks,b::vs,0,k,v,_,_,h1=>by
  simp at h1;subst h1;simp[zipK,putM]
 |a::ks,b::vs,i+1,k,v,hl,nd,h1=>by
  rw[YH]at nd;simp at h1;have:a≠k:=λe=>nd.1 (e▸XG h1);simp only[zipK,putM,List.set_cons_succ];rw[if_neg (λe=>this (VH e)),AW (by simpa using hl) nd.2 h1]
theorem Zi3{kvs:List (Key×MV)}{k:Key}{v:MV}:(∀p∈kvs,p.1≠k)->putM kvs k v=kvs++[(k,v)]:=by
 induction kvs with
 |nil=>intro _;rfl
 |cons p r ih=>
  intro h;unfold putM;rw[if_neg (h p (Ya ..)),ih λq hq=>h q (Y5 _ hq)];rfl
theorem Zga{ps:List (Key×MV)}(nd:(ps.map (·.1)).Nodup):US ps=ps:=by
 have gen:∀(ps c:List (Key×MV)),((c++ps).map (·.1)).Nodup->ps.foldl (λc z=>putM c z.1 z.2) c=c++ps:=by
  intro ps
  induction ps with
  |nil=>intro c _;simp
  |cons p r ih=>
   intro c nd;rw[We,Zi3,ih]
   ·simp
   ·simpa using nd
   ·intro q hq e;rw[YD,Zb]at nd;exact nd.2.2 _ (XU.mpr ⟨q,hq,rfl⟩) _ (XU.mpr ⟨p,Ya ..,rfl⟩) e
 have:=gen ps [] (by simpa using nd)
 rw[Y7]at this;exact this
theorem VT{ks:List Str}{vs:List MV}(hl:vs.length=ks.length)(nd:ks.Nodup):US (zipK ks vs)=zipK ks vs:=by
 refine Zga ?_;rw[Cn hl];unfold List.Nodup;rw[List.pairwise_map];exact Gv (λh e=>h (VH e)) nd
theorem Fw{α:Type}(xs:List α)(f:α->Str)(g:α->MV):(xs.map λx=>MV.tup [.str (f x),g x])=(zipK (xs.map f) (xs.map g)).map prM:=by
 induction xs with
 |nil=>rfl
 |cons x r ih=>
  rw[XA,ih];rfl
noncomputable def SrcFrom(S:Src)(M M1:MH):Prop:=(S.okF M1/\M1=M)\/∃a o kvs,S=.dic a o kvs/\M a=some (.dic kvs)/\M1=updM M a (.fdic o kvs)
theorem SrcFrom.free{S:Src}{M M1:MH}(h:SrcFrom S M M1){p:Addr}(hp:M1 p=none):M p=none:=by
 rcases h with⟨_,rfl⟩|⟨a,o,kvs,_,h1,rfl⟩
 ·exact hp
 ·by_cases e:p=a
  ·subst e;rw[Xh]at hp;cases hp
  ·rwa [XD e]at hp
theorem SrcFrom.ok{S:Src}{M M1 M2:MH}(h:SrcFrom S M M1)(s:SameM M1 M2):S.ok M2:=by
 rcases h with⟨h1,rfl⟩|⟨a,o,kvs,rfl,h1,rfl⟩
 ·cases S with
  |tup _=>trivial
  |rng _ _=>trivial
  |rst _ _ _=>trivial
  |dic _ _ _=>exact h1.elim
  |str _=>trivial
  |lst a zs=>exact s _ _ h1
 ·exact s _ _ Xh
theorem SrcFrom.thaw{S:Src}{M M1 M2:MH}(h:SrcFrom S M M1)(s:SameM M1 M2):SameM M (S.thaw M2)/\∀a,M1 a=none->(S.thaw M2) a=M2 a:=by
 rcases h with⟨h1,rfl⟩|⟨a,o,kvs,rfl,h1,rfl⟩
 ·rw[AB h1];exact⟨s,λ_ _=>rfl⟩
 ·refine⟨λb u e=>?_,λb hb=>?_⟩
  ·show updM M2 a (.dic kvs) b=_;by_cases z:b=a
   ·subst z;rw[Xh];rw[h1]at e;exact e
   ·rw[XD z];exact s _ _ (by rw[XD z];exact e)
  ·show updM M2 a (.dic kvs) b=_;refine XD λz=>?_;subst z;rw[Xh]at hb;cases hb
theorem OR{Φ:List (Str×SpM)}{own:List Str}{fr:List Nat}{src:ISr}{tg:ITg}{elt:IE}{σ:Sm}{M:MH}{Q:QM}{α:Type}(xs:List α)(f:α->MV)(C:α->MV->List Addr->MH->Prop)(Pm:MH->Prop)
  (hC:∀x y N M2 M3,(∀a∈N,M3 a=M2 a)->C x y N M2->C x y N M3)
  (hs:wSr Φ src σ M λS M1=>S.items=xs.map f/\xs.length<sizeLine/\SrcFrom S M M1/\Pm M1)
  (ht:∀x∈xs,∀M1 M',Pm M1->SameM M1 M'->wTg tg (f x) (sCm own fr σ) λσ2=>wE Φ elt σ2 M' λy M2=>SameM M' M2/\∃N:List Addr,N.Nodup/\(∀a∈N,M' a=none/\∃o,M2 a=some o)/\C x y N M2)
  (hΦ:∀(j:Nat) f sp,Φ[j]?=some (f,sp)->MonW sp)
  (q:∀D (ys:List MV) (Ns:List (List Addr)) M',M D=none->SameM M M'->ys.length=xs.length->Ns.length=xs.length->Ns.flatten.Nodup->D∉Ns.flatten->(∀a∈Ns.flatten,M a=none)->
   (∀(j:Nat) x y N,xs[j]?=some x->ys[j]?=some y->Ns[j]?=some N->C x y N M')->M' D=some (.lst ys)->Q (.ref D) M'):wE Φ (.comp own fr src tg .none elt) σ M Q:=by
 rw[AA];refine mon_sr hΦ src (λS M1 ⟨h1,h2,h3,h4⟩=>?_) hs;have hl:S.len=xs.length:=by rw[<- S.items_len,h1,X7]
 refine⟨by rw[hl];exact h2,λD hD=>⟨λi ys M2=>SameM M1 M2/\M2 D=some (.lst ys)/\ys.length=i/\∃Ns:List (List Addr),Ns.length=i/\Ns.flatten.Nodup/\D∉Ns.flatten/\(∀a∈Ns.flatten,M1 a=none/\∃o,M2 a=some o)/\(∀(j:Nat) x y N,xs[j]?=some x->ys[j]?=some y->Ns[j]?=some N->C x y N M2),⟨SameM.new hD _,Xh,rfl,[],rfl,by simp,by simp,by simp,by simp⟩,?_,?_,?_⟩⟩
 ·rintro i ys M2 ⟨s2,d2,e,_⟩;exact⟨d2,by lia,h3.ok s2⟩
 ·rintro i x ys M2 hx ⟨s2,d2,e,Ns,n1,n2,n3,n4,n5⟩;rw[h1]at hx;obtain⟨hi,rfl⟩:=Yq hx;refine Vh tg (λσ2 h=>?_) (ht xs[i] (XY hi) M1 M2 h4 s2);rw[wI,if_pos rfl];refine Xc hΦ elt (λy M3 ⟨s3,N,m1,m2,m3⟩=>?_) h;have dN:D∉N:=λz=>by have:=(m2 _ z).1;rw[d2]at this;cases this
  have keep:∀a,a≠D->updM M3 D (.lst (ys++[y])) a=M3 a:=λa z=>XD z;have fl:(Ns++[N]).flatten=Ns.flatten++N:=by simp
  refine⟨s3 _ _ d2,λa o z=>by rw[XD (neM z hD)];exact s3 _ _ (s2 _ _ z),Xh,by simp[e],Ns++[N],by simp[n1],?_,?_,?_,?_⟩
  ·rw[fl,Zb];refine⟨n2,m1,λa ha b hb z=>?_⟩;subst z;obtain⟨_,o,ho⟩:=n4 _ ha;rw[(m2 _ hb).1]at ho;cases ho
  ·rw[fl,Yf];exact λz=>z.elim n3 dN
  ·rw[fl];intro a ha;have aD:a≠D:=λz=>by
    subst z;rcases Yf.mp ha with ha|ha
    ·exact n3 ha
    ·exact dN ha
   rw[keep a aD];rcases Yf.mp ha with ha|ha
   ·obtain⟨z1,o,z2⟩:=n4 _ ha;exact⟨z1,o,s3 _ _ z2⟩
   ·exact⟨s2.free (m2 _ ha).1,(m2 _ ha).2⟩
  ·intro j x' y' N' hxj hy hN;by_cases hj:j<i
   ·rw[Uc (by lia)]at hy hN
    refine hC _ _ _ M2 _ (λa ha=>?_) (n5 j x' y' N' hxj hy hN);have hm:a∈Ns.flatten:=List.mem_flatten.mpr ⟨N',XG hN,ha⟩;rw[keep a λz=>n3 (z▸hm)];obtain⟨_,o,z2⟩:=n4 _ hm;rw[z2];exact s3 _ _ z2
   ·have hj:j=i:=by
     have:=(XE.mp hy).1;simp at this;lia
    subst hj;rw[UL (by lia),e,Nat.sub_self]at hy
    rw[UL (by lia),n1,Nat.sub_self]at hN
    rw[X8 hi]at hxj;simp at hxj hy hN;subst hxj hy hN;exact hC _ _ _ M3 _ (λa ha=>keep a λz=>dN (z▸ha)) m3
 ·rintro ys M2 ⟨s2,d2,e,Ns,n1,n2,n3,n4,n5⟩;obtain⟨t1,t2⟩:=h3.thaw s2;refine q D ys Ns _ (h3.free hD) t1 (by lia) (by lia) n2 n3 (λa ha=>h3.free (n4 a ha).1) (λj x y N a b c=>?_) (by rw[t2 _ hD];exact d2)
  exact hC _ _ _ M2 _ (λz hz=>t2 _ (n4 z (List.mem_flatten.mpr ⟨N,XG c,hz⟩)).1) (n5 j x y N a b c)
theorem Co{Φ:List (Str×SpM)}{own:List Str}{fr:List Nat}{src:ISr}{tg:ITg}{elt:IE}{σ:Sm}{M:MH}{Q:QM}{α:Type}(xs:List α)(f:α->MV)(nm:α->Str)(ob:α->MO)(Pm:MH->Prop)
  (hs:wSr Φ src σ M λS M1=>S.items=xs.map f/\xs.length<sizeLine/\SrcFrom S M M1/\Pm M1)
  (ht:∀x∈xs,∀M1 M',Pm M1->SameM M1 M'->wTg tg (f x) (sCm own fr σ) λσ2=>wE Φ elt σ2 M' λy M2=>∃p,M' p=none/\y=.tup [.str (nm x),.ref p]/\M2=updM M' p (ob x))
  (hΦ:∀(j:Nat) f sp,Φ[j]?=some (f,sp)->MonW sp)
  (q:∀D (as:List Addr) M',M D=none->SameM M M'->as.length=xs.length->as.Nodup->D∉as->(∀a∈as,M a=none)->
   (∀(j:Nat) a x,as[j]?=some a->xs[j]?=some x->M' a=some (ob x))->M' D=some (.lst ((zipK (xs.map nm) (as.map MV.ref)).map prM))->Q (.ref D) M'):wE Φ (.comp own fr src tg .none elt) σ M Q:=by
 refine OR xs f (λx y N M2=>∃p,N=[p]/\y=.tup [.str (nm x),.ref p]/\M2 p=some (ob x)) Pm ?_ hs ?_ hΦ ?_
 ·rintro x y N M2 M3 hk ⟨p,rfl,e1,e2⟩;exact⟨p,rfl,e1,by rw[hk p (by simp)];exact e2⟩
 ·intro x hx M1 M' h1 h2;refine Vh tg (λσ2 h=>?_) (ht x hx M1 M' h1 h2);refine Xc hΦ elt (λy M3 ⟨p,m1,m2,m3⟩=>?_) h;subst m3;exact⟨SameM.new m1 _,[p],by simp,by simp[m1,Xh],p,rfl,m2,Xh⟩
 ·intro D ys Ns M' h1 h2 h3 h4 h5 h6 h7 h8 h9;have key:∀(xs:List α) (ys:List MV) (Ns:List (List Addr)),ys.length=xs.length->Ns.length=xs.length->(∀(j:Nat) x y N,xs[j]?=some x->ys[j]?=some y->Ns[j]?=some N->∃p,N=[p]/\y=.tup [.str (nm x),.ref p]/\M' p=some (ob x))->
    Ns.flatten.length=xs.length/\ys=(zipK (xs.map nm) (Ns.flatten.map MV.ref)).map prM/\∀(j:Nat) a x,Ns.flatten[j]?=some a->xs[j]?=some x->M' a=some (ob x):=by
   intro xs
   induction xs with
   |nil=>
    intro ys Ns h1 h2 _;cases ys with
    |nil=>
     cases Ns with
     |nil=>exact⟨rfl,rfl,λj a x h=>by simp at h⟩
     |cons _ _=>cases h2
    |cons _ _=>cases h1
   |cons x xs ih=>
    intro ys Ns h1 h2 h3;cases ys with
    |nil=>cases h1
    |cons y ys=>
     cases Ns with
     |nil=>cases h2
     |cons N Ns=>
      obtain⟨p,rfl,rfl,ep⟩:=h3 0 x y N rfl rfl rfl;obtain⟨i1,i2,i3⟩:=ih ys Ns (by simpa using h1) (by simpa using h2) λj x y N a b c=>h3 (j+1) x y N (by simpa using a) (by simpa using b) (by simpa using c)
      refine⟨by simp at i1 ⊢;lia,?_,?_⟩
      ·show _=prM (XB (nm x),MV.ref p)::((zipK (xs.map nm) (Ns.flatten.map MV.ref)).map prM);rw[<- i2];rfl
      ·intro j a x' ha hx;cases j with
       |zero=>simp at ha hx;subst ha hx;exact ep
       |succ j=>exact i3 j a x' (by simpa using ha) (by simpa using hx)
  obtain⟨k1,k2,k3⟩:=key xs ys Ns h3 h4 h8;exact q D Ns.flatten M' h1 h2 k1 h5 h6 h7 k3 (by rw[<- k2];exact h9)
theorem Cp{Φ:List (Str×SpM)}{own:List Str}{fr:List Nat}{src:ISr}{tg:ITg}{test elt:IE}{σ:Sm}{M:MH}{Q:QM}{α:Type}(xs:List α)(f g:α->MV)(b:α->Bool)
  (hs:wSr Φ src σ M λS M1=>S.items=xs.map f/\xs.length<sizeLine/\S.okF M1/\M1=M)
  (ht:∀x∈xs,∀M',SameM M M'->wTg tg (f x) (sCm own fr σ) λσ2=>wE Φ test σ2 M' λv M2=>v=.bl (b x)/\M2=M'/\(b x=true->wE Φ elt σ2 M' λy M2=>y=g x/\M2=M'))
  (hΦ:∀(j:Nat) f sp,Φ[j]?=some (f,sp)->MonW sp) (q:∀D,M D=none->Q (.ref D) (updM M D (.lst ((xs.filter b).map g)))):wE Φ (.comp own fr src tg (.some test) elt) σ M Q:=by
 rw[AA];refine mon_sr hΦ src (λS M1 ⟨h1,h2,h3,h4⟩=>?_) hs;subst h4;have hl:S.len=xs.length:=by rw[<- S.items_len,h1,X7]
 refine⟨by rw[hl];exact h2,λD hD=>⟨λi ys M2=>M2=updM M1 D (.lst ys)/\ys=((xs.take i).filter b).map g,⟨rfl,by simp⟩,?_,?_,?_⟩⟩
 ·rintro i ys M2 ⟨rfl,rfl⟩;refine⟨Xh,?_,?_⟩
  ·rw[X7];have h1:=List.length_filter_le b (xs.take i);rw[Yz]at h1;lia
  cases S with
  |tup _=>trivial
  |rng _ _=>trivial
  |rst _ _ _=>trivial
  |dic _ _ _=>exact h3.elim
  |str _=>trivial
  |lst a zs=>exact SameM.new hD _ _ _ h3
 ·rintro i x ys M2 hx ⟨rfl,rfl⟩;rw[h1]at hx;obtain⟨hi,rfl⟩:=Yq hx;refine Vh tg (λσ2 h=>?_) (ht xs[i] (XY hi) _ (SameM.new hD (.lst (((xs.take i).filter b).map g))));rw[wI];refine Xc hΦ test (λv M2 ⟨e1,e2,e3⟩=>?_) h;subst e1 e2;have et:xs.take (i+1)=xs.take i++[xs[i]]:=by rw[UM,X8 hi];rfl
  refine⟨b xs[i],rfl,?_⟩;by_cases hb:b xs[i]=true
  ·rw[if_pos hb];refine Xc hΦ elt (λy M2 ⟨e1,e2⟩=>?_) (e3 hb);subst e1 e2;refine⟨Xh,BV,?_⟩;rw[et,List.filter_append,YD,List.filter_cons_of_pos hb]
   rfl
  ·rw[if_neg hb];refine⟨rfl,?_⟩;rw[et,List.filter_append,YD,List.filter_cons_of_neg hb];simp
 ·rintro ys M2 ⟨rfl,rfl⟩;rw[hl,V7 (Xl _),AB h3];exact q D hD
structure Std where
 num:List Nat
 wd:List (List (Key×MV))
 giv:List (List Int)
 tak:List Nat
structure StA where
 pn:Addr
 pw:Addr
 pg:Addr
 pt:Addr
 ws:List Addr
 gs:List Addr
noncomputable def StA.mv(A:StA):MV:=.tup [.ref A.pn,.ref A.pw,.ref A.pg,.ref A.pt]
noncomputable def natM(n:Nat):MV:=.int n
structure StdAt (W:Wld) (S:Std) (M:MH) (A:StA):Prop where
 n:M A.pn=some (.dic (zipK W.ins (S.num.map natM)))
 w:M A.pw=some (.dic (zipK W.ins (A.ws.map MV.ref)))
 g:M A.pg=some (.dic (zipK W.fns (A.gs.map MV.ref)))
 t:M A.pt=some (.dic (zipK W.fns (S.tak.map natM)))
 wl:A.ws.length=W.isl.length
 gl:A.gs.length=W.fer.length
 wv:∀(i:Nat) a kvs,A.ws[i]?=some a->S.wd[i]?=some kvs->M a=some (.dic kvs)
 gv:∀(j:Nat) a xs,A.gs[j]?=some a->S.giv[j]?=some xs->M a=some (.lst (xs.map MV.int))
theorem StdAt.keep{W:Wld}{S:Std}{M M':MH}{A:StA}(s:SameM M M')(h:StdAt W S M A):StdAt W S M' A:=
 ⟨s _ _ h.n,s _ _ h.w,s _ _ h.g,s _ _ h.t,h.wl,h.gl,λi a k x y=>s _ _ (h.wv i a k x y),λi a k x y=>s _ _ (h.gv i a k x y)⟩
noncomputable def WdOk(w:Nat)(I:Isl)(kvs:List (Key×MV)):Prop:=∃vs:List Int,vs.length=I.vars.length/\kvs=zipK I.vars (vs.map MV.int)/\∀v∈vs,0≤v/\v<2^w
structure SOk (W:Wld) (c:Nat) (S:Std):Prop where
 nl:S.num.length=W.isl.length
 wl:S.wd.length=W.isl.length
 gl:S.giv.length=W.fer.length
 tl:S.tak.length=W.fer.length
 ni:∀(i:Nat) I n,W.isl[i]?=some I->S.num[i]?=some n->n≤I.stps.length
 wi:∀(i:Nat) I kvs,W.isl[i]?=some I->S.wd[i]?=some kvs->WdOk W.w I kvs
 gi:∀xs∈S.giv,xs.length≤c/\∀v∈xs,0≤v/\v<2^W.w
 ti:∀(j:Nat) xs n,S.giv[j]?=some xs->S.tak[j]?=some n->n≤xs.length
noncomputable def rhoK(kvs:List (Key×MV))(x:Str):Int:=match valM kvs (XB x)with
 |some (.int i)=>i
 |_=>0
theorem WdOk.at{k:Nat}{I:Isl}{kvs:List (Key×MV)}(h:WdOk k I kvs)(nd:I.vars.Nodup){x:Str}(hx:x∈I.vars):valM kvs (XB x)=some (.int (rhoK kvs x))/\0≤rhoK kvs x/\rhoK kvs x<2^k:=by
 obtain⟨vs,hl,rfl,hv⟩:=h;obtain⟨i,hi,rfl⟩:=Yn hx;have hi2:i<vs.length:=by lia
 have e:valM (zipK I.vars (vs.map MV.int)) (XB I.vars[i])=some (.int vs[i]):=UY (i:=i) nd (X8 hi) (by rw[Xo,X8 hi2];rfl)
 have e2:rhoK (zipK I.vars (vs.map MV.int)) I.vars[i]=vs[i]:=by unfold rhoK;rw[e]
 rw[e2];exact⟨e,hv _ (XY hi2)⟩
theorem WdOk.reads{k:Nat}{I:Isl}{kvs:List (Key×MV)}(h:WdOk k I kvs)(nd:I.vars.Nodup):readsOk I.vars kvs (rhoK kvs) k:=λ_ hx=>h.at nd hx
theorem WdOk.len{k:Nat}{I:Isl}{kvs:List (Key×MV)}(h:WdOk k I kvs):kvs.length=I.vars.length:=by
 obtain⟨vs,hl,rfl,hv⟩:=h;exact VS (by rw[X7];exact hl)
theorem WdOk.nodup{k:Nat}{I:Isl}{kvs:List (Key×MV)}(h:WdOk k I kvs)(nd:I.vars.Nodup):(kvs.map (·.1)).Nodup/\∀p∈kvs,Yv p.2=true:=by
 obtain⟨vs,hl,rfl,hv⟩:=h;have l2:(vs.map MV.int).length=I.vars.length:=by rw[X7];exact hl
 refine⟨?_,?_⟩
 ·rw[Cn l2];unfold List.Nodup;rw[List.pairwise_map];exact Gv (λh e=>h (VH e)) nd
 ·have gen:∀(ks:List Str) (vs:List Int),∀p∈zipK ks (vs.map MV.int),Yv p.2=true:=by
   intro ks
   induction ks with
   |nil=>intro vs p hp;cases hp
   |cons k ks ih=>
    intro vs p hp;cases vs with
    |nil=>cases hp
    |cons v vs=>
     rcases Xu.mp hp with rfl|hp
     ·rfl
     ·exact ih vs p hp
  exact gen _ _
theorem WdOk.put{k:Nat}{I:Isl}{kvs:List (Key×MV)}(h:WdOk k I kvs)(nd:I.vars.Nodup){x:Str}(hx:x∈I.vars){v:Int}(hv:0≤v/\v<2^k):WdOk k I (putM kvs (XB x) (.int v)):=by
 obtain⟨vs,hl,rfl,hr⟩:=h;obtain⟨i,hi,rfl⟩:=Yn hx;refine⟨vs.set i v,by rw[A6];exact hl,?_,λu hu=>?_⟩
 ·rw[AW (i:=i) (by rw[X7];exact hl) nd (X8 hi),Bl]
 ·rcases CG hu with hu|rfl
  ·exact hr u hu
  ·exact hv
noncomputable def Wld.fat(W:Wld)(f:Str):Nat:=W.fns.idxOf f
theorem U9{W:Wld}{f:Str}(h:f∈W.fns):W.fns[W.fat f]?=some f/\W.fat f<W.fer.length:=by
 have l:W.fns.idxOf f<W.fns.length:=FS.mpr h;refine⟨?_,by unfold Wld.fns at l;rw[X7]at l;exact l⟩
 unfold Wld.fat;rw[X8 l,List.getElem_idxOf l]
noncomputable def canM(W:Wld)(S:Std):Stp->Bool
 |.take f _=>decide (S.tak.getD (W.fat f) 0<(S.giv.getD (W.fat f) []).length)
 |.give f _=>decide (((S.giv.getD (W.fat f) []).length:Int) - (S.tak.getD (W.fat f) 0:Nat)<2^(W.fer.map (·.k)).getD (W.fat f) 0)
 |_=>true
noncomputable def UH(W:Wld)(S:Std):Stp->MV
 |.take f _=>.int ((S.giv.getD (W.fat f) []).getD (S.tak.getD (W.fat f) 0) 0)
 |_=>.non
noncomputable def givM(W:Wld)(ρ:Str->Int)(s:Stp)(g:List (List Int)):List (List Int):=match s with
 |.give f T=>g.set (W.fat f) (g.getD (W.fat f) []++[T.val ρ W.w])
 |_=>g
noncomputable def takM(W:Wld)(S:Std)(s:Stp)(t:List Nat):List Nat:=match s with
 |.take f _=>t.set (W.fat f) (S.tak.getD (W.fat f) 0+1)
 |_=>t
noncomputable def Vp(W:Wld)(S:Std)(i:Nat)(s:Stp)(B:Std):Std:=
 {num:=B.num.set i (Yk s (rhoK (S.wd.getD i [])) W.w (S.num.getD i 0)).toNat
  wd:=B.wd.set i (UV s (S.wd.getD i []) (rhoK (S.wd.getD i [])) W.w (UH W S s))
  giv:=givM W (rhoK (S.wd.getD i [])) s B.giv
  tak:=takM W S s B.tak}
noncomputable def YJ(W:Wld)(S:Std)(i:Nat)(I:Isl):Option Stp:=match I.stps[S.num.getD i 0]? with
 |some s=>if canM W S s then some s else none
 |none=>none
noncomputable def YK(W:Wld)(S:Std)(i:Nat)(p:Std×List Str):Std×List Str:=match W.isl[i]? with
 |some I=>match YJ W S i I with
  |some s=>(Vp W S i s p.1,p.2++[I.name])
  |none=>p
 |none=>p
noncomputable def XV(W:Wld)(S:Std):Nat->Std×List Str
 |0=>(S,[])
 |i+1=>YK W S i (XV W S i)
theorem VU{W:Wld}(G:W.Good){i:Nat}{I:Isl}(hI:W.isl[i]?=some I) {n:Nat} {s:Stp} (hs:I.stps[n]?=some s):U8 W.fns I.vars I.stps.length s:=(G.io I (XG hI)).st s (XG hs)
theorem OS{fs ns:List Str}{n:Nat}{s:Stp}(h:U8 fs ns n s):s.ok ns n:=by
 cases s with
 |take f x=>exact h.2
 |give f T=>exact h.2
 |put x T=>exact h
 |jump T i=>exact h
theorem Cq{α:Type}{xs:List α}{i:Nat}{x d:α}(h:xs[i]?=some x):xs.getD i d=x:=by rw[Ym,h];rfl
theorem OT{s:Stp}{fs ns:List Str}{k:Nat}(h:U8 fs ns k s){ρ:Str->Int}{w n:Nat}(hn:n<k):0≤Yk s ρ w n/\(Yk s ρ w n).toNat≤k/\Yk s ρ w n=((Yk s ρ w n).toNat:Int):=by
 have a:0≤Yk s ρ w n/\Yk s ρ w n≤k:=by
  cases s with
  |jump T j=>
   obtain⟨_,h1,h2⟩:=h;unfold Yk;dsimp only;split
   ·exact⟨h1,h2⟩
   ·lia
  |take f x=>unfold Yk;dsimp only;lia
  |give f x=>unfold Yk;dsimp only;lia
  |put f x=>unfold Yk;dsimp only;lia
 lia
theorem UZ{α:Type}{xs:List α}{i j:Nat}{v x:α}(h:(xs.set i v)[j]?=some x):(j=i/\x=v)\/(j≠i/\xs[j]?=some x):=by
 rw[A3]at h;by_cases e:i=j
 ·subst e;rw[if_pos rfl]at h;split at h
  ·exact .inl ⟨rfl,(Yg h).symm⟩
  ·cases h
 ·rw[if_neg e]at h;exact .inr ⟨λz=>e z.symm,h⟩
noncomputable def Cr(S B:Std):Prop:=∀(j:Nat) xs ys,S.giv[j]?=some xs->B.giv[j]?=some ys->xs.length≤ys.length
theorem SOk.up{W:Wld}{c d:Nat}{S:Std}(h:SOk W c S)(l:c≤d):SOk W d S:=⟨h.nl,h.wl,h.gl,h.tl,h.ni,h.wi,λxs hx=>⟨Y3 (h.gi xs hx).1 l,(h.gi xs hx).2⟩,h.ti⟩
theorem Fx{W:Wld}{c:Nat}{S:Std}(h:SOk W c S){i:Nat}{I:Isl}(hI:W.isl[i]?=some I):S.num[i]?=some (S.num.getD i 0):=by
 have l:i<S.num.length:=by rw[h.nl];exact(XE.mp hI).1
 rw[Ym,X8 l];rfl
theorem Vq{W:Wld}{c:Nat}{S:Std}(h:SOk W c S){i:Nat}{I:Isl}(hI:W.isl[i]?=some I):S.wd[i]?=some (S.wd.getD i []):=by
 have l:i<S.wd.length:=by rw[h.wl];exact(XE.mp hI).1
 rw[Ym,X8 l];rfl
theorem AX{W:Wld}{c:Nat}{S:Std}(h:SOk W c S){j:Nat}(hj:j<W.fer.length):S.giv[j]?=some (S.giv.getD j []):=by
 have l:j<S.giv.length:=by rw[h.gl];exact hj
 rw[Ym,X8 l];rfl
theorem ZnW{W:Wld}{c:Nat}{S:Std}(h:SOk W c S){j:Nat}(hj:j<W.fer.length):S.tak[j]?=some (S.tak.getD j 0):=by
 have l:j<S.tak.length:=by rw[h.tl];exact hj
 rw[Ym,X8 l];rfl
theorem Fy{W:Wld}{S:Std}{i:Nat}{I:Isl}{s:Stp}(h:YJ W S i I=some s):I.stps[S.num.getD i 0]?=some s/\canM W S s=true:=by
 unfold YJ at h;split at h
 ·rename_i s' e
  split at h
  ·cases h;exact⟨e,‹_›⟩
  ·cases h
 ·cases h
theorem OU{W:Wld}{c:Nat}{S:Std}(hS:SOk W c S){f x:Str}(hf:f∈W.fns)(hc:canM W S (.take f x)=true):∃v,UH W S (.take f x)=.int v/\(S.giv.getD (W.fat f) [])[S.tak.getD (W.fat f) 0]?=some v/\0≤v/\v<2^W.w:=by
 have l:=(U9 hf).2;have hc:S.tak.getD (W.fat f) 0<(S.giv.getD (W.fat f) []).length:=of_decide_eq_true hc;refine⟨_,rfl,?_,?_⟩
 ·rw[Ym (l:=S.giv.getD (W.fat f) []),X8 hc];rfl
 ·rw[Ym (l:=S.giv.getD (W.fat f) []),X8 hc];exact(hS.gi _ (XG (AX hS l))).2 _ (XY hc)
theorem Zht{W:Wld}(G:W.Good){c:Nat}{S:Std}(hS:SOk W c S){i:Nat}{I:Isl}(hI:W.isl[i]?=some I) {s:Stp} (hg:YJ W S i I=some s):WdOk W.w I (UV s (S.wd.getD i []) (rhoK (S.wd.getD i [])) W.w (UH W S s)):=by
 obtain⟨hs,hc⟩:=Fy hg;have si:=VU G hI hs;have wd:=hS.wi i I _ hI (Vq hS hI);have nd:=(G.io I (XG hI)).nd;cases s with
 |take f x=>
  obtain⟨v,e,_,hv⟩:=OU hS si.1 hc;rw[e];exact wd.put nd si.2 hv
 |give f T=>exact wd
 |put x T=>exact wd.put nd si.1 (Tm.val_in G.w1 λy hy=>(wd.at nd (si.2.2.2 y hy)).2)
 |jump T j=>exact wd
theorem ZfR{W:Wld}(G:W.Good){c d:Nat}{S B:Std}(hS:SOk W c S)(hB:SOk W d B)(gr:Cr S B){i:Nat}{I:Isl}(hI:W.isl[i]?=some I) {s:Stp} (hg:YJ W S i I=some s):
  SOk W (d+1) (Vp W S i s B)/\Cr S (Vp W S i s B):=by
 obtain⟨hs,hc⟩:=Fy hg;have si:=VU G hI hs;have hn:S.num.getD i 0<I.stps.length:=(XE.mp hs).1;have wd:=hS.wi i I _ hI (Vq hS hI);have nd:=(G.io I (XG hI)).nd;have gl:(givM W (rhoK (S.wd.getD i [])) s B.giv).length=B.giv.length:=by
  cases s<;>simp[givM]
 have tl:(takM W S s B.tak).length=B.tak.length:=by
  cases s<;>simp[takM]
 have gat:∀(j:Nat) ys,(givM W (rhoK (S.wd.getD i [])) s B.giv)[j]?=some ys->∃zs,B.giv[j]?=some zs/\zs.length≤ys.length/\ys.length≤zs.length+1/\∀v∈ys,v∈zs\/(0≤v/\v<2^W.w):=by
  intro j ys h;cases s with
  |give f T=>
   have h:(B.giv.set (W.fat f) (B.giv.getD (W.fat f) []++[T.val (rhoK (S.wd.getD i [])) W.w]))[j]?=some ys:=h;rcases UZ h with⟨rfl,rfl⟩|⟨_,h⟩
   ·refine⟨_,AX hB (U9 si.1).2,by simp,by simp,λv hv=>?_⟩
    rcases Yf.mp hv with hv|hv
    ·exact .inl hv
    ·rw[Y6]at hv;subst hv;exact .inr (Tm.val_in G.w1 λy hy=>(wd.at nd (si.2.2.2 y hy)).2)
   ·exact⟨ys,h,Xl _,Ve _,λv hv=>.inl hv⟩
  |take f x=>exact⟨ys,h,Xl _,Ve _,λv hv=>.inl hv⟩
  |put f x=>exact⟨ys,h,Xl _,Ve _,λv hv=>.inl hv⟩
  |jump f x=>exact⟨ys,h,Xl _,Ve _,λv hv=>.inl hv⟩
 have tat:∀(j:Nat) n,(takM W S s B.tak)[j]?=some n->B.tak[j]?=some n\/(j<W.fer.length/\n=S.tak.getD j 0+1/\S.tak.getD j 0<(S.giv.getD j []).length):=by
  intro j n h;cases s with
  |take f x=>
   have h:(B.tak.set (W.fat f) (S.tak.getD (W.fat f) 0+1))[j]?=some n:=h;rcases UZ h with⟨rfl,rfl⟩|⟨_,h⟩
   ·exact .inr ⟨(U9 si.1).2,rfl,of_decide_eq_true hc⟩
   ·exact .inl h
  |give f x=>exact .inl h
  |put f x=>exact .inl h
  |jump f x=>exact .inl h
 refine⟨⟨by simp[Vp,hB.nl],by simp[Vp,hB.wl],gl.trans hB.gl,tl.trans hB.tl,?_,?_,?_,?_⟩,?_⟩
 ·intro i' I' n hI' h;rcases UZ (show(B.num.set i _)[i']?=some n from h)with⟨rfl,rfl⟩|⟨_,h⟩
  ·rw[hI]at hI';cases hI';exact(OT si hn).2.1
  ·exact hB.ni i' I' n hI' h
 ·intro i' I' kvs hI' h;rcases UZ (show(B.wd.set i _)[i']?=some kvs from h)with⟨rfl,rfl⟩|⟨_,h⟩
  ·rw[hI]at hI';cases hI';exact Zht G hS hI hg
  ·exact hB.wi i' I' kvs hI' h
 ·intro ys hy;obtain⟨j,hj,rfl⟩:=Yn hy;obtain⟨zs,z1,z2,z3,z4⟩:=gat j _ (X8 hj);have:=hB.gi zs (XG z1);refine⟨by have:=this.1;lia,λv hv=>?_⟩
  rcases z4 v hv with hv|hv
  ·exact this.2 v hv
  ·exact hv
 ·intro j ys n hy hn;obtain⟨zs,z1,z2,z3,z4⟩:=gat j _ hy;rcases tat j n hn with h|⟨h1,rfl,h2⟩
  ·exact Y3 (hB.ti j zs n z1 h) z2
  ·have:=gr j _ zs (AX hS h1) z1;lia
 ·intro j xs ys hx hy;obtain⟨zs,z1,z2,z3,z4⟩:=gat j _ hy;exact Y3 (gr j xs zs hx z1) z2
theorem Fz{W:Wld}(G:W.Good){c:Nat}{S:Std}(hS:SOk W c S):∀i:Nat,SOk W (c+i) (XV W S i).1/\Cr S (XV W S i).1/\(∀z∈(XV W S i).2,z∈W.ins)/\(XV W S i).2.length≤i
 |0=>⟨hS,λj xs ys h1 h2=>by rw[show(XV W S 0).1=S from rfl,h1]at h2;cases h2;exact Xl _,λz h=>(nomatch h),Xl _⟩
 |i+1=>by
  obtain⟨h1,h2,h3,h4⟩:=Fz G hS i;show SOk W (c+(i+1)) (YK W S i (XV W S i)).1/\Cr S (YK W S i (XV W S i)).1/\(∀z∈(YK W S i (XV W S i)).2,z∈W.ins)/\(YK W S i (XV W S i)).2.length≤i+1;unfold YK;split
  ·rename_i I hI
   split
   ·rename_i s hg
    obtain⟨a,b⟩:=ZfR G hS h1 h2 hI hg;refine⟨a,b,λz hz=>?_,by simp;lia⟩
    rcases Yf.mp hz with hz|hz
    ·exact h3 z hz
    ·rw[Y6]at hz;subst hz;exact XU.mpr ⟨I,XG hI,rfl⟩
   ·exact⟨h1.up (by lia),h2,h3,by lia⟩
  ·exact⟨h1.up (by lia),h2,h3,by lia⟩
noncomputable def FA(W:Wld)(S:Std):Std:=(XV W S W.isl.length).1
noncomputable def YZ(W:Wld)(S:Std):List Str:=(XV W S W.isl.length).2
theorem Wld.Good.in_nd{W:Wld}(G:W.Good):W.ins.Nodup:=(Zb.mp G.nd).2.1
theorem Wld.Good.fn_nd{W:Wld}(G:W.Good):W.fns.Nodup:=(Zb.mp G.nd).1
theorem Z0{W:Wld}{i:Nat}{I:Isl}(h:W.isl[i]?=some I):W.ins[i]?=some I.name:=by unfold Wld.ins;rw[Xo,h];rfl
theorem FB{W:Wld}{i:Nat}{f:Fer}(h:W.fer[i]?=some f):W.fns[i]?=some f.name:=by unfold Wld.fns;rw[Xo,h];rfl
noncomputable abbrev WK:SpM:=λvs M Q=>∃(ns:List Str) (ys:List MV) (i:Nat) (z:Str) (y:MV),vs=[.tup ys,.str z]/\(∀(j:Nat) u,ys[j]?=some u->∃x r,u=.tup (.str x::r)/\ns[j]?=some x)/\ns.Nodup/\ns[i]?=some z/\ys[i]?=some y/\Q y M
theorem OV:MonW WK:=by walk_at "m"
theorem OW(T:Txt K mg t):FnOk P w K mg base CX0 1 t.f_one_called t.d_one_called ["row","name"] (liSp K WK):=by
 refine T.F_one_called.okM Zb9 (Xx (Φ:=[]) (Xy T) (Xz T) rfl nl0 nl0:Fts P w K mg base 0 LB []) EC Zbx (λvs M Q h=>?_) (λvs M Q h=>?_)
 ·obtain⟨_,_,_,_,_,rfl,_⟩:=h;rfl
 obtain⟨ns,ys,i,z,y,rfl,ha,nd,hz,hy,q⟩:=h;show wSs _ _ _ [some (.tup ys),some (.str z),none] M;rw[EC,LA];walk_at "s";obtain⟨J,hJ⟩:∃J:Nat->Sm->MH->Prop,∀j σ M',J j σ M'↔M'=M/\j≤i/\∃v,σ=[some (.tup ys),some (.str z),v]:=⟨_,λ_ _ _=>Yp⟩;refine⟨J,(hJ _ _ _).mpr ⟨rfl,YN _,_,rfl⟩,λj σ M' h=>trivial,?_,?_⟩
 ·rintro j u σ M' hu h;obtain⟨rfl,hj,v,rfl⟩:=(hJ _ _ _).mp h;have hu:ys[j]?=some u:=hu;obtain⟨x,r,rfl,hx⟩:=ha j u hu;rw[Lz];walk_at "s";refine Yb (λe=>?_) (λe=>?_)
  ·subst e;have hij:j=i:=(Vv (XE.mp hx).1 nd).mp (hx.trans hz.symm);subst hij;rw[Ly];walk_at "s";rw[hy]at hu;cases hu;exact q
  ·refine(hJ _ _ _).mpr ⟨rfl,?_,_,rfl⟩;rcases Nat.lt_or_ge j i with l|l
   ·exact l
   ·exfalso;have hij:j=i:=Nat.le_antisymm hj l;subst hij;rw[hx]at hz;exact e (Yg hz)
 ·rintro σ M' h;exfalso;obtain⟨_,hj,_⟩:=(hJ _ _ _).mp h;have hj:ys.length≤i:=hj;have:=(XE.mp hy).1;lia
noncomputable abbrev VW:SpM:=λvs M Q=>∃(W:Wld) (i:Nat) (I:Isl),vs=[W.mv,.str I.name]/\W.Good/\W.isl[i]?=some I/\Q I.mv M
theorem OX:MonW VW:=by walk_at "m"
theorem OY(T:Txt K mg t):FnOk P w K mg base CX0 2 t.f_island_of t.d_island_of ["world","name"] (liSp K VW):=by
 refine T.F_island_of.okM ZbP (Xx (Φ:=[("one_called",WK)]) (Xy T) (Xz T) rfl (fMc ⟨OV,nl0⟩) (fMc ⟨⟨_,_,_,(FnOk.mono (OW T) (by decide)),T.m_one_called,T.F_one_called.kp,T.b_one_called⟩,nl0⟩):Fts P w K mg base 1 LD [("one_called",WK)]) ED ZcA (fun vs M Q h=>?_) (fun vs M Q h=>?_)
 ·obtain⟨_,_,_,rfl,_⟩:=h;rfl
 obtain⟨W,i,I,rfl,G,hI,q⟩:=h;show wSs _ _ _ [some W.mv,some (.str I.name)] M;rw[ED,LC,Wld.mv];walk_at "s";refine⟨W.ins,W.isl.map Isl.mv,i,I.name,I.mv,rfl,λj u hu=>?_,G.in_nd,Z0 hI,by rw[Xo,hI];rfl,q⟩
 obtain⟨hj,rfl⟩:=Yq hu;exact⟨_,_,rfl,Z0 (X8 hj)⟩
noncomputable abbrev WL:SpM:=λvs M Q=>∃(W:Wld) (i:Nat) (f:Fer),vs=[W.mv,.str f.name]/\W.Good/\W.fer[i]?=some f/\Q f.mv M
theorem OZ:MonW WL:=by walk_at "m"
theorem P0(T:Txt K mg t):FnOk P w K mg base CX0 2 t.f_ferry_of t.d_ferry_of ["world","name"] (liSp K WL):=by
 refine T.F_ferry_of.okM Zdc (Xx (Φ:=[("one_called",WK)]) (Xy T) (Xz T) rfl (fMc ⟨OV,nl0⟩) (fMc ⟨⟨_,_,_,(FnOk.mono (OW T) (by decide)),T.m_one_called,T.F_one_called.kp,T.b_one_called⟩,nl0⟩):Fts P w K mg base 1 LF [("one_called",WK)]) EE ZdO (fun vs M Q h=>?_) (fun vs M Q h=>?_)
 ·obtain⟨_,_,_,rfl,_⟩:=h;rfl
 obtain⟨W,i,I,rfl,G,hI,q⟩:=h;show wSs _ _ _ [some W.mv,some (.str I.name)] M;rw[EE,LE,Wld.mv];walk_at "s";refine⟨W.fns,W.fer.map Fer.mv,i,I.name,I.mv,rfl,λj u hu=>?_,G.fn_nd,FB hI,by rw[Xo,hI];rfl,q⟩
 obtain⟨hj,rfl⟩:=Yq hu;exact⟨_,_,rfl,FB (X8 hj)⟩
theorem FC{W:Wld}(G:W.Good){c:Nat}{S:Std}(hS:SOk W c S){i:Nat}{I:Isl}(hI:W.isl[i]?=some I):valM (zipK W.ins (S.num.map natM)) (XB I.name)=some (.int (S.num.getD i 0:Nat)):=UY G.in_nd (Z0 hI) (by rw[Xo,Fx hS hI];rfl)
theorem P1{W:Wld}(G:W.Good){ws:List Addr}{i:Nat}{I:Isl}{a:Addr}(hI:W.isl[i]?=some I) (ha:ws[i]?=some a):valM (zipK W.ins (ws.map MV.ref)) (XB I.name)=some (.ref a):=UY G.in_nd (Z0 hI) (by rw[Xo,ha];rfl)
theorem Cs{W:Wld}(G:W.Good){gs:List Addr}{f:Str}{a:Addr}(hf:f∈W.fns)(ha:gs[W.fat f]?=some a):valM (zipK W.fns (gs.map MV.ref)) (XB f)=some (.ref a):=UY G.fn_nd (U9 hf).1 (by rw[Xo,ha];rfl)
theorem Ct{W:Wld}(G:W.Good){c:Nat}{S:Std}(hS:SOk W c S){f:Str}(hf:f∈W.fns):valM (zipK W.fns (S.tak.map natM)) (XB f)=some (.int (S.tak.getD (W.fat f) 0:Nat)):=UY G.fn_nd (U9 hf).1 (by rw[Xo,ZnW hS (U9 hf).2];rfl)
theorem StdAt.ws_at{W:Wld}{S:Std}{M:MH}{A:StA}(h:StdAt W S M A){c:Nat}(hS:SOk W c S){i:Nat}{I:Isl}(hI:W.isl[i]?=some I):∃a,A.ws[i]?=some a/\M a=some (.dic (S.wd.getD i [])):=by
 have l:i<A.ws.length:=by rw[h.wl];exact(XE.mp hI).1
 exact⟨_,X8 l,h.wv i _ _ (X8 l) (Vq hS hI)⟩
theorem StdAt.gs_at{W:Wld}{S:Std}{M:MH}{A:StA}(h:StdAt W S M A){c:Nat}(hS:SOk W c S){f:Str}(hf:f∈W.fns):∃a,A.gs[W.fat f]?=some a/\M a=some (.lst ((S.giv.getD (W.fat f) []).map MV.int)):=by
 have l:W.fat f<A.gs.length:=by rw[h.gl];exact(U9 hf).2
 exact⟨_,X8 l,h.gv _ _ _ (X8 l) (AX hS (U9 hf).2)⟩
noncomputable abbrev WM:SpM:=λvs M Q=>∃(W:Wld) (S:Std) (A:StA) (c i:Nat) (I:Isl),vs=[W.mv,A.mv,.str I.name]/\W.Good/\SOk W c S/\StdAt W S M A/\W.isl[i]?=some I/\Q (dueM I.stps (rhoK (S.wd.getD i [])) W.w (S.num.getD i 0)) M
theorem P2:MonW WM:=by walk_at "m"
theorem P3(T:Txt K mg t):FnOk P w K mg base CX0 51 t.f_wish_of t.d_wish_of ["world","stand","name"] (liSp K WM):=by
 refine T.F_wish_of.okM ZeP (Xx (Φ:=[("island_of",VW),("wish",Ce)]) (Xy T) (Xz T) rfl (fMc ⟨OX,(fMc ⟨Zdh,nl0⟩)⟩) (fMc ⟨⟨_,_,_,(FnOk.mono (OY T) (by decide)),T.m_island_of,T.F_island_of.kp,T.b_island_of⟩,(fMc ⟨⟨_,_,_,(FnOk.mono (ZkM T) (by decide)),T.m_wish,T.F_wish.kp,T.b_wish⟩,nl0⟩)⟩):Fts P w K mg base 50 LR [("island_of",VW),("wish",Ce)]) EH Zfl (fun vs M Q h=>?_) (fun vs M Q h=>?_)
 ·obtain⟨_,_,_,_,_,_,rfl,_⟩:=h;rfl
 obtain⟨W,S,A,c,i,I,rfl,G,hS,hA,hI,q⟩:=h;show wSs _ _ _ [some W.mv,some A.mv,some (.str I.name)] M;obtain⟨a,a1,a2⟩:=hA.ws_at hS hI;have ok:=G.io I (XG hI);rw[EH,LQ,Wld.mv,StA.mv]
 repeat (first|walk_at "s"|simp only[hA.n,hA.w])
 refine⟨W,i,I,rfl,G,hI,?_⟩;rw[Isl.mv]
 repeat (first|walk_at "s"|simp only[hA.n,hA.w])
 refine⟨_,FC G hS hI,_,P1 G hI a1,?_⟩;refine⟨_,a,I.stps,S.num.getD i 0,W.w,S.wd.getD i [],rhoK (S.wd.getD i []),I.vars,rfl,.inl rfl,λs hs=>OS (ok.st s hs),hS.ni i I _ hI (Fx hS hI),G.w1,G.w2,a2,(hS.wi i I _ hI (Vq hS hI)).reads ok.nd,q⟩
noncomputable def askM(s:Stp)(ρ:Str->Int)(w:Nat):MV:=match s with
 |.take f _=>.tup [.str "take",.str f]
 |.give f T=>.tup [.str "give",.str f,.int (T.val ρ w)]
 |_=>.tup [.str "own"]
theorem P4{ss:List Stp}{i:Nat}{s:Stp}(h:ss[i]?=some s) (ρ:Str->Int) (w:Nat):dueM ss ρ w i=askM s ρ w:=by
 unfold dueM;rw[h];cases s<;>rfl
noncomputable abbrev WN:SpM:=λvs M Q=>∃(W:Wld) (S:Std) (A:StA) (c:Nat) (s:Stp) (ρ:Str->Int) (ns:List Str) (k:Nat),vs=[W.mv,A.mv,askM s ρ W.w]/\W.Good/\SOk W c S/\StdAt W S M A/\U8 W.fns ns k s/\Q (.bl (canM W S s)) M
theorem P5:MonW WN:=by walk_at "m"
theorem P6(T:Txt K mg t):FnOk P w K mg base CX0 3 t.f_can_be t.d_can_be ["world","stand","asked"] (liSp K WN):=by
 refine T.F_can_be.okM Zg1 (Xx (Φ:=[("ferry_of",WL),("two_to",Vk)]) (Xy T) (Xz T) rfl (fMc ⟨OZ,(fMc ⟨Fh,nl0⟩)⟩) (fMc ⟨⟨_,_,_,(FnOk.mono (P0 T) (by decide)),T.m_ferry_of,T.F_ferry_of.kp,T.b_ferry_of⟩,(fMc ⟨⟨_,_,_,(FnOk.mono (Fi T) (by decide)),T.m_two_to,T.F_two_to.kp,T.b_two_to⟩,nl0⟩)⟩):Fts P w K mg base 2 LV [("ferry_of",WL),("two_to",Vk)]) EL Zhg (fun vs M Q h=>?_) (fun vs M Q h=>?_)
 ·obtain⟨_,_,_,_,_,_,_,_,rfl,_⟩:=h;rfl
 obtain⟨W,S,A,c,s,ρ,ns,k,rfl,G,hS,hA,si,q⟩:=h;show wSs _ _ _ [some W.mv,some A.mv,some (askM s ρ W.w),none] M;rw[EL,LU,Wld.mv,StA.mv];cases s with
 |put x T=>
  simp only[askM];walk_at "s";rw[EK];walk_at "s";exact q
 |jump x T=>
  simp only[askM];walk_at "s";rw[EK];walk_at "s";exact q
 |take f x=>
  simp only[askM];obtain⟨a,a1,a2⟩:=hA.gs_at hS si.1;walk_at "s";rw[EJ]
  repeat (first|walk_at "s"|simp only[hA.g,hA.t])
  refine⟨_,Cs G si.1 a1,?_⟩
  repeat (first|walk_at "s"|simp only[a2,hA.t])
  refine⟨_,Ct G hS si.1,?_⟩;walk_at "s";rw[EI];walk_at "s";rw[LT];walk_at "s";have e:canM W S (.take f x)=decide ((((S.giv.getD (W.fat f) []).map MV.int).length:Int) - (S.tak.getD (W.fat f) 0:Nat)>0):=by
   unfold canM;rw[X7];exact decide_eq_decide.mpr ⟨λh=>by lia,λh=>by lia⟩
  rw[e]at q;exact q
 |give f T=>
  simp only[askM];obtain⟨a,a1,a2⟩:=hA.gs_at hS si.1;obtain⟨hf1,hf2⟩:=U9 si.1;have hf3:=X8 hf2;have hn:(W.fer[W.fat f]).name=f:=by have:=FB hf3;rw[hf1]at this;exact(Yg this).symm
  have fo:=G.fo _ (XY hf2);have k3:=fo.k3;walk_at "s";rw[EJ]
  repeat (first|walk_at "s"|simp only[hA.g,hA.t])
  refine⟨_,Cs G si.1 a1,?_⟩
  repeat (first|walk_at "s"|simp only[a2,hA.t])
  refine⟨_,Ct G hS si.1,?_⟩;walk_at "s";rw[EI];walk_at "s";rw[LS];walk_at "s";refine⟨W,W.fat f,W.fer[W.fat f],by rw[hn];rfl,G,hf3,?_⟩
  rw[Fer.mv];walk_at "s";refine⟨(W.fer[W.fat f]).k,rfl,by lia,?_⟩
  walk_at "s";have e:(W.fer.map (·.k)).getD (W.fat f) 0=(W.fer[W.fat f]).k:=by rw[Ym,Xo,hf3];rfl
  have e2:canM W S (.give f T)=decide (((S.giv.getD (W.fat f) []).length:Int) - (S.tak.getD (W.fat f) 0:Nat)<2^(W.fer.map (·.k)).getD (W.fat f) 0):=rfl;rw[e2,e]at q;rw[X7];exact q
noncomputable def StA.own(A:StA):List Addr:=A.pn::A.pw::A.pg::A.pt::A.gs
structure StA.New (A:StA) (M0:MH):Prop where
 nd:A.own.Nodup
 fr:∀a∈A.own,M0 a=none
 ws:∀a∈A.ws,a∉A.own
theorem Cu{A:StA}(nd:A.own.Nodup):(A.pn≠A.pw/\A.pn≠A.pg/\A.pn≠A.pt/\A.pn∉A.gs)/\(A.pw≠A.pg/\A.pw≠A.pt/\A.pw∉A.gs)/\(A.pg≠A.pt/\A.pg∉A.gs)/\A.pt∉A.gs/\A.gs.Nodup:=by
 unfold StA.own at nd;simp only[YH,Xu,not_or]at nd;obtain⟨⟨a1,a2,a3,a4⟩,⟨b1,b2,b3⟩,⟨c1,c2⟩,d1,e⟩:=nd;exact⟨⟨a1,a2,a3,a4⟩,⟨b1,b2,b3⟩,⟨c1,c2⟩,d1,e⟩
theorem P7{M:MH}{x a:Addr}{o:MO}(h:updM M x o a=none):M a=none:=by
 by_cases e:a=x
 ·subst e;rw[Xh]at h;cases h
 ·rwa [XD e]at h
theorem Cv{A:StA}{a:Addr}(h:a∈A.gs):a∈A.own:=by simp[StA.own,h]
theorem StdAt.put_t{W:Wld}{B:Std}{M M0:MH}{A:StA}(h:StdAt W B M A)(N:A.New M0)(t:List Nat):StdAt W {B with tak:=t} (updM M A.pt (.dic (zipK W.fns (t.map natM)))) A:=by
 obtain⟨⟨a1,a2,a3,a4⟩,⟨b1,b2,b3⟩,⟨c1,c2⟩,d1,e⟩:=Cu N.nd;refine⟨?_,?_,?_,Xh,h.wl,h.gl,λi a k x y=>?_,λi a k x y=>?_⟩
 ·rw[XD a3];exact h.n
 ·rw[XD b2];exact h.w
 ·rw[XD c1];exact h.g
 ·rw[XD λz=>N.ws a (XG x) (by rw[z];simp[StA.own])];exact h.wv i a k x y
 ·rw[XD λz=>d1 (by rw[<- z];exact XG x)];exact h.gv i a k x y
theorem StdAt.put_n{W:Wld}{B:Std}{M M0:MH}{A:StA}(h:StdAt W B M A)(N:A.New M0)(t:List Nat):StdAt W {B with num:=t} (updM M A.pn (.dic (zipK W.ins (t.map natM)))) A:=by
 obtain⟨⟨a1,a2,a3,a4⟩,⟨b1,b2,b3⟩,⟨c1,c2⟩,d1,e⟩:=Cu N.nd;refine⟨Xh,?_,?_,?_,h.wl,h.gl,λi a k x y=>?_,λi a k x y=>?_⟩
 ·rw[XD λz=>a1 z.symm];exact h.w
 ·rw[XD λz=>a2 z.symm];exact h.g
 ·rw[XD λz=>a3 z.symm];exact h.t
 ·rw[XD λz=>N.ws a (XG x) (by rw[z];simp[StA.own])];exact h.wv i a k x y
 ·rw[XD λz=>a4 (by rw[<- z];exact XG x)];exact h.gv i a k x y
theorem StdAt.put_g{W:Wld}{B:Std}{M M0:MH}{A:StA}(h:StdAt W B M A)(N:A.New M0){j:Nat}{b:Addr}(hb:A.gs[j]?=some b) (xs:List Int):StdAt W {B with giv:=B.giv.set j xs} (updM M b (.lst (xs.map MV.int))) A:=by
 obtain⟨⟨a1,a2,a3,a4⟩,⟨b1,b2,b3⟩,⟨c1,c2⟩,d1,e⟩:=Cu N.nd;have hm:=XG hb;refine⟨?_,?_,?_,?_,h.wl,h.gl,λi a k x y=>?_,λi a k x y=>?_⟩
 ·rw[XD λz:A.pn=b=>a4 (by rw[z];exact hm)];exact h.n
 ·rw[XD λz:A.pw=b=>b3 (by rw[z];exact hm)];exact h.w
 ·rw[XD λz:A.pg=b=>c2 (by rw[z];exact hm)];exact h.g
 ·rw[XD λz:A.pt=b=>d1 (by rw[z];exact hm)];exact h.t
 ·rw[XD λz=>N.ws a (XG x) (by rw[z];exact Cv hm)];exact h.wv i a k x y
 ·rcases UZ y with⟨rfl,rfl⟩|⟨ne,y⟩
  ·rw[hb]at x;cases x;exact Xh
  ·rw[XD λz=>ne ?_]
   ·exact h.gv i a k x y
   ·subst z;exact(Vv (XE.mp x).1 e).mp (x.trans hb.symm)
theorem StdAt.put_w{W:Wld}{B:Std}{M M0:MH}{A:StA}(h:StdAt W B M A)(N:A.New M0)(i:Nat){p:Addr}{kvs:List (Key×MV)}(hp:M p=some (.dic kvs))(np:p∉A.own):
  StdAt W {B with wd:=B.wd.set i kvs} (updM M A.pw (.dic (zipK W.ins ((A.ws.set i p).map MV.ref)))) {A with ws:=A.ws.set i p}/\StA.New {A with ws:=A.ws.set i p} M0:=by
 obtain⟨⟨a1,a2,a3,a4⟩,⟨b1,b2,b3⟩,⟨c1,c2⟩,d1,e⟩:=Cu N.nd;refine⟨⟨?_,Xh,?_,?_,by rw[A6];exact h.wl,h.gl,λi' a k x y=>?_,λj a k x y=>?_⟩,N.nd,N.fr,λa ha=>?_⟩
 ·rw[XD a1];exact h.n
 ·rw[XD λz=>b1 z.symm];exact h.g
 ·rw[XD λz=>b2 z.symm];exact h.t
 ·have hm:a∉A.own:=by
   rcases UZ x with⟨_,rfl⟩|⟨_,x⟩
   ·exact np
   ·exact N.ws a (XG x)
  rw[XD λz=>hm (by rw[z];simp[StA.own])]
  rcases UZ x with⟨rfl,rfl⟩|⟨ne,x⟩
  ·rcases UZ y with⟨_,rfl⟩|⟨ne,y⟩
   ·exact hp
   ·exact(ne rfl).elim
  ·rcases UZ y with⟨rfl,_⟩|⟨_,y⟩
   ·exact(ne rfl).elim
   ·exact h.wv i' a k x y
 ·rw[XD λz=>b3 (by rw[<- z];exact XG x)];exact h.gv j a k x y
 ·rcases CG ha with ha|rfl
  ·exact N.ws a ha
  ·exact np
noncomputable abbrev Cw:SpM:=λvs M Q=>∃(W:Wld) (S B:Std) (A A2:StA) (M0:MH) (c d i:Nat) (I:Isl) (s:Stp),vs=[W.mv,A.mv,.str I.name,askM s (rhoK (S.wd.getD i [])) W.w,A2.mv]/\W.Good/\SOk W c S/\SOk W d B/\d≤1000/\StdAt W S M0 A/\SameM M0 M/\StdAt W B M A2/\A2.New M0/\W.isl[i]?=some I/\YJ W S i I=some s/\
 ∀M' ws,SameM M0 M'->StA.New {A2 with ws:=ws} M0->(∀a∈ws,a∈A2.ws\/M a=none)->StdAt W (Vp W S i s B) M' {A2 with ws:=ws}->Q .non M'
theorem Za4:MonW Cw:=by walk_at "m"
theorem Zf1(T:Txt K mg t):FnOk P w K mg base CX0 52 t.f_do_step t.d_do_step ["world","stand","name","asked","behind"] (liSp K Cw):=by
 refine T.F_do_step.okM ZeT (Xx (Φ:=[("after",AL),("island_of",VW)]) (Xy T) (Xz T) rfl (fMc ⟨Zca,(fMc ⟨OX,nl0⟩)⟩) (fMc ⟨⟨_,_,_,(FnOk.mono (Zin T) (by decide)),T.m_after,T.F_after.kp,T.b_after⟩,(fMc ⟨⟨_,_,_,(FnOk.mono (OY T) (by decide)),T.m_island_of,T.F_island_of.kp,T.b_island_of⟩,nl0⟩)⟩):Fts P w K mg base 51 Mg [("after",AL),("island_of",VW)]) EN Zfp (fun vs M Q h=>?_) (fun vs M Q h=>?_)
 ·obtain⟨_,_,_,_,_,_,_,_,_,_,_,rfl,_⟩:=h;rfl
 obtain⟨W,S,B,A,A2,M0,c,d,i,I,s,rfl,G,hS,hB,hd,hA,s0,h2,N,hI,hg,q⟩:=h;show wSs _ _ _ [some W.mv,some A.mv,some (.str I.name),some (askM s (rhoK (S.wd.getD i [])) W.w),some A2.mv,none,none,none,none] M;obtain⟨hs,hc⟩:=Fy hg;have si:=VU G hI hs;have hn:S.num.getD i 0<I.stps.length:=(XE.mp hs).1;have ok:=G.io I (XG hI);have wd:=hS.wi i I _ hI (Vq hS hI);have nv:=ok.nv;have i5:=G.i5;have f6:=G.f6;have vl:I.vars.length=I.prs.length:=by unfold Isl.vars;rw[X7]
 have li:W.ins.length=W.isl.length:=by unfold Wld.ins;rw[X7]
 have lf:W.fns.length=W.fer.length:=by unfold Wld.fns;rw[X7]
 have hIl:i<W.isl.length:=(XE.mp hI).1;have rest:∀(M1:MH) (B1:Std) (v6:Option MV),SameM M0 M1->(∀a,M1 a=none->M a=none)->StdAt W B1 M1 A2->B1.num.length=W.isl.length->B1.giv.length=W.fer.length->{B1 with num:=B1.num.set i (Yk s (rhoK (S.wd.getD i [])) W.w (S.num.getD i 0)).toNat,wd:=B1.wd.set i (UV s (S.wd.getD i []) (rhoK (S.wd.getD i [])) W.w (UH W S s))}=Vp W S i s B->
   wSs ([("after",AL),("island_of",VW)]:List (Str×SpM)) EM {nx:=fun _ M'=>Q .non M',rt:=Q} [some W.mv,some A.mv,some (.str I.name),some (askM s (rhoK (S.wd.getD i [])) W.w),some A2.mv,some (UH W S s),v6,none,none] M1:=by
  intro M1 B1 v6 s1 fd h1 ln lg eB;have hA1:=hA.keep s1;obtain⟨a,a1,a2⟩:=hA1.ws_at hS hI;rw[EM];walk_at "s";refine⟨W,i,I,rfl,G,hI,?_⟩;rw[Isl.mv];walk_at "s";rw[LY,Wld.mv,StA.mv]
  repeat (first|walk_at "s"|simp only[hA1.n,hA1.w])
  refine⟨_,FC G hS hI,_,P1 G hI a1,?_⟩;refine⟨_,a,I.stps,S.num.getD i 0,W.w,S.wd.getD i [],rhoK (S.wd.getD i []),I.vars,s,UH W S s,rfl,.inl rfl,hs,OS si,G.w1,G.w2,a2,by rw[wd.len];lia,wd.reads ok.nd,λp hp=>?_⟩
  have s2:=SameM.new hp (.dic (UV s (S.wd.getD i []) (rhoK (S.wd.getD i [])) W.w (UH W S s)));have hp2:updM M1 p (.dic (UV s (S.wd.getD i []) (rhoK (S.wd.getD i [])) W.w (UH W S s))) p=some (.dic (UV s (S.wd.getD i []) (rhoK (S.wd.getD i [])) W.w (UH W S s))):=Xh;generalize updM M1 p _=M2 at*;have s02:=s1.trans s2;have h2:=h1.keep s2;have p0:=fd p hp;have np:p∉A2.own:=λz=>by
   have hh:∃o,M1 p=some o:=by
    unfold StA.own at z;simp only[Xu]at z;rcases z with z|z|z|z|z
    ·exact⟨_,z▸h1.n⟩
    ·exact⟨_,z▸h1.w⟩
    ·exact⟨_,z▸h1.g⟩
    ·exact⟨_,z▸h1.t⟩
    ·obtain⟨j,hj,e⟩:=Yn z;have hj2:j<B1.giv.length:=by rw[lg,<- h1.gl];exact hj
     exact⟨_,e▸h1.gv j _ _ (X8 hj) (X8 hj2)⟩
   obtain⟨o,ho⟩:=hh;rw[hp]at ho;cases ho
  obtain⟨l1,l2,l3⟩:=OT (ρ:=rhoK (S.wd.getD i [])) (w:=W.w) si hn;walk_at "s";rw[LX,StA.mv]
  repeat (first|walk_at "s"|simp only[h2.n])
  rw[VS (by rw[X7,ln,li]),AW (i:=i) (by rw[X7,ln,li]) G.in_nd (Z0 hI),l3]
  refine⟨by lia,?_⟩
  have e3:(B1.num.map natM).set i (.int ((Yk s (rhoK (S.wd.getD i [])) W.w (S.num.getD i 0)).toNat:Nat))=(B1.num.set i (Yk s (rhoK (S.wd.getD i [])) W.w (S.num.getD i 0)).toNat).map natM:=by rw[Bl];rfl
  rw[e3];have h3:=h2.put_n N (B1.num.set i (Yk s (rhoK (S.wd.getD i [])) W.w (S.num.getD i 0)).toNat);have s3:=s02.upd (N.fr A2.pn (by simp[StA.own])) (.dic (zipK W.ins ((B1.num.set i (Yk s (rhoK (S.wd.getD i [])) W.w (S.num.getD i 0)).toNat).map natM)))
  have hp3:updM M2 A2.pn (.dic (zipK W.ins ((B1.num.set i (Yk s (rhoK (S.wd.getD i [])) W.w (S.num.getD i 0)).toNat).map natM))) p=some (.dic (UV s (S.wd.getD i []) (rhoK (S.wd.getD i [])) W.w (UH W S s))):=by rw[XD λz=>np (by rw[z];simp[StA.own])];exact hp2
  generalize updM M2 A2.pn _=M3 at*;rw[LW]
  repeat (first|walk_at "s"|simp only[h3.w])
  rw[VS (by rw[X7,h1.wl,li]),AW (i:=i) (by rw[X7,h1.wl,li]) G.in_nd (Z0 hI)]
  refine⟨by lia,?_⟩
  have e4:(A2.ws.map MV.ref).set i (.ref p)=(A2.ws.set i p).map MV.ref:=by rw[Bl]
  rw[e4];obtain⟨h4,N4⟩:=h3.put_w N i hp3 np;exact q _ _ (s3.upd (N.fr A2.pw (by simp[StA.own])) _) N4 (λx hx=>(CG hx).elim .inl λz=>.inr (by rw[z];exact p0)) (eB▸h4)
 rw[EN,Mf];walk_at "s";rw[Me];cases s with
 |take f x=>
  obtain⟨v,w1,w2,w3⟩:=OU hS si.1 hc;have hA1:=hA.keep s0;obtain⟨b,b1,b2⟩:=hA1.gs_at hS si.1;simp only[askM];walk_at "s";rw[Md];walk_at "s";rw[Mc,StA.mv]
  repeat (first|walk_at "s"|simp only[hA1.g,hA1.t])
  refine⟨_,Cs G si.1 b1,?_⟩
  repeat (first|walk_at "s"|simp only[hA1.t,b2])
  refine⟨_,Ct G hS si.1,?_⟩
  repeat (first|walk_at "s"|simp only[b2])
  refine⟨.int v,XQ (by rw[Xo,w2];rfl),?_⟩
  rw[Mb]
  repeat (first|walk_at "s"|simp only[hA1.t])
  refine⟨_,Ct G hS si.1,?_⟩;rw[StA.mv]
  repeat (first|walk_at "s"|simp only[h2.t])
  rw[VS (by rw[X7,hB.tl,lf]),AW (i:=W.fat f) (by rw[X7,hB.tl,lf]) G.fn_nd (U9 si.1).1]
  refine⟨by lia,?_⟩
  have e3:(B.tak.map natM).set (W.fat f) (.int ((S.tak.getD (W.fat f) 0:Nat)+1))=(B.tak.set (W.fat f) (S.tak.getD (W.fat f) 0+1)).map natM:=by rw[Bl];rfl
  rw[e3];have h3:=h2.put_t N (B.tak.set (W.fat f) (S.tak.getD (W.fat f) 0+1));have s3:=s0.upd (N.fr A2.pt (by simp[StA.own])) (.dic (zipK W.fns ((B.tak.set (W.fat f) (S.tak.getD (W.fat f) 0+1)).map natM)))
  have fd3:∀a,updM M A2.pt (.dic (zipK W.fns ((B.tak.set (W.fat f) (S.tak.getD (W.fat f) 0+1)).map natM))) a=none->M a=none:=λ_=>P7;generalize updM M A2.pt _=M3 at*;rw[AH];walk_at "s";have r:=rest M3 _ (some (.str f)) s3 fd3 h3 hB.nl hB.gl rfl;rw[w1]at r;exact r
 |give f T=>
  obtain⟨b,b1,b2⟩:=h2.gs_at hB si.1;have hgi:=(hB.gi _ (XG (AX hB (U9 si.1).2))).1;simp only[askM];walk_at "s";rw[AH];walk_at "s";rw[LZ,StA.mv,StA.mv]
  repeat (first|walk_at "s"|simp only[h2.g])
  refine⟨_,Cs G si.1 b1,?_⟩
  repeat (first|walk_at "s"|simp only[b2])
  rw[X7];refine⟨⟨_,rfl⟩,by lia,?_⟩
  have e3:(B.giv.getD (W.fat f) []).map MV.int++[.int (T.val (rhoK (S.wd.getD i [])) W.w)]=(B.giv.getD (W.fat f) []++[T.val (rhoK (S.wd.getD i [])) W.w]).map MV.int:=by simp
  rw[e3];have h3:=h2.put_g N b1 (B.giv.getD (W.fat f) []++[T.val (rhoK (S.wd.getD i [])) W.w]);have s3:=s0.upd (N.fr b (Cv (XG b1))) (.lst ((B.giv.getD (W.fat f) []++[T.val (rhoK (S.wd.getD i [])) W.w]).map MV.int));have fd3:∀a,updM M b (.lst ((B.giv.getD (W.fat f) []++[T.val (rhoK (S.wd.getD i [])) W.w]).map MV.int)) a=none->M a=none:=λ_=>P7;generalize updM M b _=M3 at*;exact rest M3 _ none s3 fd3 h3 hB.nl (by rw[A6];exact hB.gl) rfl
 |put x T=>
  simp only[askM];walk_at "s";rw[AH];walk_at "s";exact rest M B none s0 (λ_ z=>z) h2 hB.nl hB.gl rfl
 |jump T j=>
  simp only[askM];walk_at "s";rw[AH];walk_at "s";exact rest M B none s0 (λ_ z=>z) h2 hB.nl hB.gl rfl
theorem Cy{ks:List Str}{α:Type}{xs:List α}(h:xs.length=ks.length):(ks.zip xs).map (·.1)=ks:=List.map_fst_zip (by lia)
theorem P8{ks:List Str}{vs:List MV}(h:vs.length=ks.length):(zipK ks vs).map (λp=>kM p.1)=ks.map MV.str:=by
 have:=Cn h;have e:(zipK ks vs).map (λp=>kM p.1)=((zipK ks vs).map (·.1)).map kM:=by rw[Y9];rfl
 rw[e,this,Y9];rfl
theorem FD{α β:Type}{xs:List α}{ys:List β}{p:α×β}(h:p∈xs.zip ys):∃i:Nat,xs[i]?=some p.1/\ys[i]?=some p.2:=by
 obtain⟨i,hi,rfl⟩:=Yn h;rw[Uu]at hi;refine⟨i,?_,?_⟩<;>rw[List.getElem_zip,X8]
theorem FE{α β:Type}{xs:List α}{ys:List β}{i:Nat}{x:α}{y:β}(h1:xs[i]?=some x) (h2:ys[i]?=some y):(xs.zip ys)[i]?=some (x,y):=by
 rw[FQ];exact⟨h1,h2⟩
theorem P9:∀{ks:List Str} {vs:List MV} {i:Nat} {k:Str} {v:MV},ks[i]?=some k->vs[i]?=some v->(XB k,v)∈zipK ks vs
 |[],_,_,_,_,h,_=>by simp at h
 |_::_,[],_,_,_,_,h=>by simp at h
 |a::ks,b::vs,0,k,v,h1,h2=>by simp at h1 h2;subst h1 h2;exact Ya ..
 |a::ks,b::vs,i+1,k,v,h1,h2=>Y5 _ (P9 (by simpa using h1) (by simpa using h2))
theorem StdAt.ws_ne{W:Wld}{S:Std}{M:MH}{A:StA}(h:StdAt W S M A)(G:W.Good){c:Nat}(hS:SOk W c S){i:Nat}{a:Addr}(ha:A.ws[i]?=some a):a≠A.pw:=by
 intro e;have hi:i<W.isl.length:=by rw[<- h.wl];exact(XE.mp ha).1
 have hI:=X8 hi;have h1:=h.wv i a _ ha (Vq hS hI);rw[e,h.w]at h1;have z:zipK W.ins (A.ws.map MV.ref)=S.wd.getD i []:=by injection h1 with h1;injection h1
 have:=((hS.wi i _ _ hI (Vq hS hI)).nodup (G.io _ (XY hi)).nd).2 (XB (W.isl[i]).name,.ref a);have:=this (by rw[<- z];exact P9 (Z0 hI) (by rw[Xo,ha];rfl))
 cases this
noncomputable abbrev Cz:SpM:=λvs M Q=>∃(W:Wld) (S:Std) (A:StA) (c:Nat),vs=[A.mv]/\W.Good/\SOk W c S/\StdAt W S M A/\∀M' A',SameM M M'->StdAt W S M' A'->A'.New M->(∀a∈A'.ws,M a=none)->Q A'.mv M'
theorem Za5:MonW Cz:=by walk_at "m"
theorem Zf2(T:Txt K mg t):FnOk P w K mg base CX0 1 t.f_copy_of t.d_copy_of ["stand"] (liSp K Cz):=by
 refine T.F_copy_of.okM ZeU (Xx (Φ:=[]) (Xy T) (Xz T) rfl nl0 nl0:Fts P w K mg base 0 LP []) EG Zfq (λvs M Q h=>?_) (λvs M Q h=>?_)
 ·obtain⟨_,_,_,_,rfl,_⟩:=h;rfl
 obtain⟨W,S,A,c,rfl,G,hS,hA,q⟩:=h;show wSs _ _ _ [some A.mv,none,none] M;have i5:=G.i5;have f6:=G.f6;have li:W.ins.length=W.isl.length:=by unfold Wld.ins;rw[X7]
 have lf:W.fns.length=W.fer.length:=by unfold Wld.fns;rw[X7]
 have hΦ:=(Uk (Φ:=[]) nl0);rw[EG,LO,StA.mv];walk_at "s";refine Co (W.ins.zip S.wd) (λx=>.str x.1) (·.1) (λx=>.dic x.2) (λM1=>∃o,M1=updM M A.pw (.fdic o (zipK W.ins (A.ws.map MV.ref)))) ?_ ?_ hΦ λD1 ws M1 hD1 s1 l1 nd1 dn1 fr1 at1 hd1=>?_
 ·repeat (first|walk_at "s"|simp only[hA.w])
  intro o;refine⟨?_,by rw[Uu];lia,.inr ⟨_,_,_,rfl,hA.w,rfl⟩,o,rfl⟩
  show(zipK W.ins (A.ws.map MV.ref)).map (λp=>kM p.1)=_;rw[P8 (by rw[X7,hA.wl,li])]
  conv=>lhs;rw[<- Cy (ks:=W.ins) (xs:=S.wd) (by rw[hS.wl,li])]
  rw[Y9];rfl
 ·rintro⟨z,kvs⟩ hx M1 M' ⟨o,rfl⟩ s;obtain⟨i,i1,i2⟩:=FD hx;have hw:=s _ _ (Xh (M:=M));have hi:i<A.ws.length:=by rw[hA.wl,<- li];exact(XE.mp i1).1
  have hv:=hA.wv i _ _ (X8 hi) i2;have hne:A.ws[i]≠A.pw:=hA.ws_ne G hS (X8 hi);have hv':=s _ _ ((XD (M:=M) hne).trans hv);simp only[sCm,XA,Y8,Yh,Yi,Ye,Y7]
  repeat (first|walk_at "s"|simp only[hw])
  refine⟨.ref A.ws[i],UY G.in_nd i1 (by rw[Xo,X8 hi];rfl),?_⟩
  repeat (first|walk_at "s"|simp only[hv'])
  intro p hp;exact⟨p,hp,rfl,rfl⟩
 rw[Cy (by rw[hS.wl,li])]at hd1
 rw[Uu,hS.wl,li,Nat.min_self]at l1;have lw:(ws.map MV.ref).length=W.ins.length:=by rw[X7,l1,li]
 repeat (first|walk_at "s"|simp only[hd1])
 refine⟨_,rfl,λpw hpw=>?_⟩;rw[VT lw G.in_nd];have s2:=SameM.new hpw (.dic (zipK W.ins (ws.map MV.ref)));have h2:updM M1 pw (.dic (zipK W.ins (ws.map MV.ref))) pw=some (.dic (zipK W.ins (ws.map MV.ref))):=Xh;generalize updM M1 pw _=M2 at*;have hA2:=hA.keep (s1.trans s2);rw[LN];walk_at "s";refine Co (W.fns.zip S.giv) (λx=>.str x.1) (·.1) (λx=>.lst (x.2.map MV.int)) (λM3=>∃o,M3=updM M2 A.pg (.fdic o (zipK W.fns (A.gs.map MV.ref)))) ?_ ?_ hΦ λD2 gs M3 hD2 s3 l3 nd3 dn3 fr3 at3 hd3=>?_
 ·repeat (first|walk_at "s"|simp only[hA2.g])
  intro o;refine⟨?_,by rw[Uu];lia,.inr ⟨_,_,_,rfl,hA2.g,rfl⟩,o,rfl⟩
  show(zipK W.fns (A.gs.map MV.ref)).map (λp=>kM p.1)=_;rw[P8 (by rw[X7,hA.gl,lf])]
  conv=>lhs;rw[<- Cy (ks:=W.fns) (xs:=S.giv) (by rw[hS.gl,lf])]
  rw[Y9];rfl
 ·rintro⟨z,xs⟩ hx Ma M' ⟨o,rfl⟩ s;obtain⟨i,i1,i2⟩:=FD hx;have hw:=s _ _ (Xh (M:=M2));have hi:i<A.gs.length:=by rw[hA.gl,<- lf];exact(XE.mp i1).1
  have hv:=hA2.gv i _ _ (X8 hi) i2;have hne:A.gs[i]≠A.pg:=λe=>by rw[e,hA2.g]at hv;cases hv
  have hv':=s _ _ ((XD (M:=M2) hne).trans hv);simp only[sCm,XA,Y8,Yh,Yi,Ye,Y7]
  repeat (first|walk_at "s"|simp only[hw])
  refine⟨.ref A.gs[i],UY G.fn_nd i1 (by rw[Xo,X8 hi];rfl),?_⟩
  repeat (first|walk_at "s"|simp only[hv'])
  intro p hp;exact⟨p,hp,rfl,rfl⟩
 rw[Cy (by rw[hS.gl,lf])]at hd3
 rw[Uu,hS.gl,lf,Nat.min_self]at l3;have lg:(gs.map MV.ref).length=W.fns.length:=by rw[X7,l3,lf]
 repeat (first|walk_at "s"|simp only[hd3])
 refine⟨_,rfl,λpg hpg=>?_⟩;rw[VT lg G.fn_nd];have s4:=SameM.new hpg (.dic (zipK W.fns (gs.map MV.ref)));have h4:updM M3 pg (.dic (zipK W.fns (gs.map MV.ref))) pg=some (.dic (zipK W.fns (gs.map MV.ref))):=Xh;generalize updM M3 pg _=M4 at*;have s24:=s3.trans s4;have s04:=(s1.trans s2).trans s24;have hA4:=hA.keep s04;rw[LM]
 repeat (first|walk_at "s"|simp only[hA4.n])
 intro pn hpn;have s5:=SameM.new hpn (.dic (zipK W.ins (S.num.map natM)));have h5:updM M4 pn (.dic (zipK W.ins (S.num.map natM))) pn=some (.dic (zipK W.ins (S.num.map natM))):=Xh;generalize updM M4 pn _=M5 at*;have hA5:=hA4.keep s5
 repeat (first|walk_at "s"|simp only[hA5.t])
 intro pt hpt;have s6:=SameM.new hpt (.dic (zipK W.fns (S.tak.map natM)));have h6:updM M5 pt (.dic (zipK W.fns (S.tak.map natM))) pt=some (.dic (zipK W.fns (S.tak.map natM))):=Xh;generalize updM M5 pt _=M6 at*;have s46:=s5.trans s6;have s36:=s4.trans s46;have wv:∀(i:Nat) a kvs,ws[i]?=some a->S.wd[i]?=some kvs->M1 a=some (.dic kvs):=λi a kvs x y=>by
  have hi:i<W.ins.length:=by rw[li,<- l1];exact(XE.mp x).1
  exact at1 i a (W.ins[i],kvs) x (FE (X8 hi) y)
 have gv:∀(i:Nat) a xs,gs[i]?=some a->S.giv[i]?=some xs->M3 a=some (.lst (xs.map MV.int)):=λi a xs x y=>by
  have hi:i<W.fns.length:=by rw[lf,<- l3];exact(XE.mp x).1
  exact at3 i a (W.fns[i],xs) x (FE (X8 hi) y)
 have wm:∀a∈ws,∃o,M1 a=some o:=λa ha=>by
  obtain⟨i,hi,rfl⟩:=Yn ha;have hi2:i<S.wd.length:=by rw[hS.wl,<- l1];exact hi
  exact⟨_,wv i _ _ (X8 hi) (X8 hi2)⟩
 have gm:∀a∈gs,∃o,M3 a=some o:=λa ha=>by
  obtain⟨i,hi,rfl⟩:=Yn ha;have hi2:i<S.giv.length:=by rw[hS.gl,<- l3];exact hi
  exact⟨_,gv i _ _ (X8 hi) (X8 hi2)⟩
 refine q M6 ⟨pn,pw,pg,pt,ws,gs⟩ (s04.trans s46) ⟨s6 _ _ h5,(s24.trans s46) _ _ h2,s46 _ _ h4,h6,l1,l3,λi a k x y=>((s2.trans s24).trans s46) _ _ (wv i a k x y),λi a k x y=>s36 _ _ (gv i a k x y)⟩ ⟨?_,?_,?_⟩ (λa ha=>fr1 a ha)
 ·show(pn::pw::pg::pt::gs).Nodup;simp only[YH,Xu,not_or];refine⟨⟨(neM (s24 _ _ h2) hpn).symm,(neM h4 hpn).symm,neM h5 hpt,λz=>?_⟩,⟨neM (s3 _ _ h2) hpg,neM ((s24.trans s5) _ _ h2) hpt,λz=>?_⟩,⟨neM (s5 _ _ h4) hpt,λz=>?_⟩,λz=>?_,nd3⟩
  ·obtain⟨o,ho⟩:=gm _ z;exact neM (s4 _ _ ho) hpn rfl
  ·exact neM h2 (fr3 _ z) rfl
  ·obtain⟨o,ho⟩:=gm _ z;exact neM ho hpg rfl
  ·obtain⟨o,ho⟩:=gm _ z;exact neM ((s4.trans s5) _ _ ho) hpt rfl
 ·intro a ha;have ha:a∈pn::pw::pg::pt::gs:=ha;simp only[Xu]at ha;rcases ha with rfl|rfl|rfl|rfl|ha
  ·exact s04.free hpn
  ·exact s1.free hpw
  ·exact((s1.trans s2).trans s3).free hpg
  ·exact(s04.trans s5).free hpt
  ·exact(s1.trans s2).free (fr3 _ ha)
 ·intro a ha hb;obtain⟨o,ho⟩:=wm a ha;have hb:a∈pn::pw::pg::pt::gs:=hb;simp only[Xu]at hb;rcases hb with rfl|rfl|rfl|rfl|hb
  ·exact neM ((s2.trans s24) _ _ ho) hpn rfl
  ·exact neM ho hpw rfl
  ·exact neM ((s2.trans s3) _ _ ho) hpg rfl
  ·exact neM (((s2.trans s24).trans s5) _ _ ho) hpt rfl
  ·exact neM (s2 _ _ ho) (fr3 _ hb) rfl
noncomputable def wd0(I:Isl):List (Key×MV):=zipK I.vars (I.prs.map λp=>.int p.2)
noncomputable def Y1(W:Wld):Std:=⟨W.isl.map λ_=>0,W.isl.map wd0,W.fer.map λ_=>[],W.fer.map λ_=>0⟩
theorem Pa{W:Wld}(G:W.Good):SOk W 0 (Y1 W):=by
 refine⟨X7 _,X7 _,X7 _,X7 _,λi I n hI h=>?_,λi I kvs hI h=>?_,λxs hx=>?_,λj xs n h1 h2=>?_⟩
 ·rw[show(Y1 W).num=W.isl.map λ_=>0 from rfl,Xo,hI]at h;cases h;exact YN _
 ·rw[show(Y1 W).wd=W.isl.map wd0 from rfl,Xo,hI]at h;cases h;have ok:=G.io I (XG hI);refine⟨I.prs.map (·.2),by unfold Isl.vars;rw[X7,X7],?_,λv hv=>?_⟩
  ·unfold wd0;rw[Y9];rfl
  ·obtain⟨p,hp,rfl⟩:=XU.mp hv;exact ok.wd p hp
 ·obtain⟨_,_,rfl⟩:=XU.mp hx;exact⟨Xl _,λv hv=>(nomatch hv)⟩
 ·rw[show(Y1 W).tak=W.fer.map λ_=>0 from rfl,Xo]at h2;cases hf:W.fer[j]? with
  |none=>rw[hf]at h2;cases h2
  |some f=>rw[hf]at h2;cases h2;exact YN _
theorem Zgb(I:Isl):I.prs.map prV=(wd0 I).map prM:=Fw I.prs (·.1) (λp=>.int p.2)
theorem ZjX{I:Isl}(nd:I.vars.Nodup):US (wd0 I)=wd0 I:=VT (by unfold Isl.vars;rw[X7,X7]) nd
noncomputable abbrev CA:SpM:=λvs M Q=>∃W:Wld,vs=[W.mv]/\W.Good/\∀M' A,SameM M M'->StdAt W (Y1 W) M' A->A.New M->(∀a∈A.ws,M a=none)->Q A.mv M'
theorem Z6B:MonW CA:=by walk_at "m"
theorem Za1(T:Txt K mg t):FnOk P w K mg base CX0 1 t.f_first_stand t.d_first_stand ["world"] (liSp K CA):=by
 refine T.F_first_stand.okM Z9X (Xx (Φ:=[]) (Xy T) (Xz T) rfl nl0 nl0:Fts P w K mg base 0 LL []) EF Zag (λvs M Q h=>?_) (λvs M Q h=>?_)
 ·obtain⟨_,rfl,_⟩:=h;rfl
 obtain⟨W,rfl,G,q⟩:=h;show wSs _ _ _ [some W.mv,none,none,none,none] M;have i5:=G.i5;have f6:=G.f6;have li:W.ins.length=W.isl.length:=by unfold Wld.ins;rw[X7]
 have lf:W.fns.length=W.fer.length:=by unfold Wld.fns;rw[X7]
 have hΦ:=(Uk (Φ:=[]) nl0);rw[EF,LK,Wld.mv];walk_at "s";refine UU W.isl Isl.mv (λx=>.tup [.str x.name,.int 0]) ?_ ?_ hΦ λD hD=>?_
 ·walk_at "s";exact⟨rfl,by lia,trivial⟩
 ·intro x hx M' s;simp only[sCm,XA,Y8,Yh,Yi,Ye,Y7]
  repeat (first|walk_at "s"|simp only[Isl.mv])
  try exact⟨rfl,rfl⟩
 have e1:(W.isl.map λx=>MV.tup [.str x.name,.int 0])=(zipK W.ins ((Y1 W).num.map natM)).map prM:=by
  rw[Fw W.isl (·.name) (λ_=>.int 0),show(Y1 W).num=W.isl.map λ_=>0 from rfl,Y9];rfl
 have ln:((Y1 W).num.map natM).length=W.ins.length:=by rw[X7,li];exact X7 _
 have lt:((Y1 W).tak.map natM).length=W.fns.length:=by rw[X7,lf];exact X7 _
 rw[e1];have s1:=SameM.new hD (.lst ((zipK W.ins ((Y1 W).num.map natM)).map prM));have hd1:updM M D (.lst ((zipK W.ins ((Y1 W).num.map natM)).map prM)) D=some (.lst ((zipK W.ins ((Y1 W).num.map natM)).map prM)):=Xh;generalize updM M D _=M1 at*
 repeat (first|walk_at "s"|simp only[hd1])
 refine⟨_,rfl,λpn hpn=>?_⟩;rw[VT ln G.in_nd];have s2:=s1.trans (SameM.new hpn (.dic (zipK W.ins ((Y1 W).num.map natM))));have h2:updM M1 pn (.dic (zipK W.ins ((Y1 W).num.map natM))) pn=some (.dic (zipK W.ins ((Y1 W).num.map natM))):=Xh;generalize updM M1 pn _=M2 at*;rw[LJ];walk_at "s";refine Co W.isl Isl.mv (·.name) (λx=>.dic (wd0 x)) (λM3=>M3=M2) ?_ ?_ hΦ λD2 ws M3 hD2 s3 l3 nd3 dn3 fr3 at3 hd3=>?_
 ·walk_at "s";exact⟨rfl,by lia,.inl ⟨trivial,rfl⟩⟩
 ·rintro I hI Ma M' rfl s;simp only[sCm,XA,Y8,Yh,Yi,Ye,Y7]
  repeat (first|walk_at "s"|simp only[Isl.mv])
  refine⟨wd0 I,Zgb I,λp hp=>?_⟩;rw[ZjX (G.io I hI).nd];exact⟨p,hp,rfl,rfl⟩
 have lw:(ws.map MV.ref).length=W.ins.length:=by rw[X7,l3,li]
 have hd3:M3 D2=some (.lst ((zipK W.ins (ws.map MV.ref)).map prM)):=hd3
 repeat (first|walk_at "s"|simp only[hd3])
 refine⟨_,rfl,λpw hpw=>?_⟩;rw[VT lw G.in_nd];have s34:=SameM.new hpw (.dic (zipK W.ins (ws.map MV.ref)));have h4:updM M3 pw (.dic (zipK W.ins (ws.map MV.ref))) pw=some (.dic (zipK W.ins (ws.map MV.ref))):=Xh;generalize updM M3 pw _=M4 at*;have s24:=s3.trans s34;rw[LI];walk_at "s";refine Co W.fer Fer.mv (·.name) (λx=>.lst []) (λM5=>M5=M4) ?_ ?_ hΦ λD5 gs M5 hD5 s5 l5 nd5 dn5 fr5 at5 hd5=>?_
 ·walk_at "s";exact⟨rfl,by lia,.inl ⟨trivial,rfl⟩⟩
 ·rintro I hI Ma M' rfl s;simp only[sCm,XA,Y8,Yh,Yi,Ye,Y7]
  repeat (first|walk_at "s"|simp only[Fer.mv])
  intro p hp;exact⟨p,hp,rfl,rfl⟩
 have lg:(gs.map MV.ref).length=W.fns.length:=by rw[X7,l5,lf]
 have hd5:M5 D5=some (.lst ((zipK W.fns (gs.map MV.ref)).map prM)):=hd5
 repeat (first|walk_at "s"|simp only[hd5])
 refine⟨_,rfl,λpg hpg=>?_⟩;rw[VT lg G.fn_nd];have s56:=SameM.new hpg (.dic (zipK W.fns (gs.map MV.ref)));have h6:updM M5 pg (.dic (zipK W.fns (gs.map MV.ref))) pg=some (.dic (zipK W.fns (gs.map MV.ref))):=Xh;generalize updM M5 pg _=M6 at*;rw[LH];walk_at "s";refine UU W.fer Fer.mv (λx=>.tup [.str x.name,.int 0]) ?_ ?_ hΦ λD hD=>?_
 ·walk_at "s";exact⟨rfl,by lia,trivial⟩
 ·intro x hx M' s;simp only[sCm,XA,Y8,Yh,Yi,Ye,Y7]
  repeat (first|walk_at "s"|simp only[Fer.mv])
  try exact⟨rfl,rfl⟩
 have e1:(W.fer.map λx=>MV.tup [.str x.name,.int 0])=(zipK W.fns ((Y1 W).tak.map natM)).map prM:=by
  rw[Fw W.fer (·.name) (λ_=>.int 0),show(Y1 W).tak=W.fer.map λ_=>0 from rfl,Y9];rfl
 rw[e1];have s67:=SameM.new hD (.lst ((zipK W.fns ((Y1 W).tak.map natM)).map prM));have hd7:updM M6 D (.lst ((zipK W.fns ((Y1 W).tak.map natM)).map prM)) D=some (.lst ((zipK W.fns ((Y1 W).tak.map natM)).map prM)):=Xh;generalize updM M6 D _=M7 at*
 repeat (first|walk_at "s"|simp only[hd7])
 refine⟨_,rfl,λpt hpt=>?_⟩;rw[VT lt G.fn_nd];have s78:=SameM.new hpt (.dic (zipK W.fns ((Y1 W).tak.map natM)));have h8:updM M7 pt (.dic (zipK W.fns ((Y1 W).tak.map natM))) pt=some (.dic (zipK W.fns ((Y1 W).tak.map natM))):=Xh;generalize updM M7 pt _=M8 at*;rw[LG];walk_at "s";have s68:=s67.trans s78;have s48:=(s5.trans s56).trans s68;have wm:∀a∈ws,∃o,M3 a=some o:=λa ha=>by
  obtain⟨i,hi,rfl⟩:=Yn ha;exact⟨_,at3 i _ _ (X8 hi) (X8 (by rw[<- l3];exact hi))⟩
 have gm:∀a∈gs,∃o,M5 a=some o:=λa ha=>by
  obtain⟨i,hi,rfl⟩:=Yn ha;exact⟨_,at5 i _ _ (X8 hi) (X8 (by rw[<- l5];exact hi))⟩
 refine q M8 ⟨pn,pw,pg,pt,ws,gs⟩ (s2.trans (s24.trans s48)) ⟨(s24.trans s48) _ _ h2,s48 _ _ h4,s68 _ _ h6,h8,l3,l5,λi a k x y=>?_,λi a k x y=>?_⟩ ⟨?_,?_,?_⟩ (λa ha=>s2.free (fr3 a ha))
 ·rw[show(Y1 W).wd=W.isl.map wd0 from rfl,Xo]at y;have hi:i<W.isl.length:=by rw[<- l3];exact(XE.mp x).1
  rw[X8 hi]at y;cases y;exact(s34.trans s48) _ _ (at3 i a _ x (X8 hi))
 ·rw[show(Y1 W).giv=W.fer.map (λ_=>[])from rfl,Xo]at y;have hi:i<W.fer.length:=by rw[<- l5];exact(XE.mp x).1
  rw[X8 hi]at y;cases y;exact(s56.trans s68) _ _ (at5 i a _ x (X8 hi))
 ·show(pn::pw::pg::pt::gs).Nodup;simp only[YH,Xu,not_or];refine⟨⟨neM (s3 _ _ h2) hpw,neM ((s24.trans s5) _ _ h2) hpg,neM ((s24.trans (s5.trans (s56.trans s67))) _ _ h2) hpt,λz=>neM (s24 _ _ h2) (fr5 _ z) rfl⟩,⟨neM (s5 _ _ h4) hpg,neM ((s5.trans (s56.trans s67)) _ _ h4) hpt,λz=>neM h4 (fr5 _ z) rfl⟩,⟨neM (s67 _ _ h6) hpt,λz=>?_⟩,λz=>?_,nd5⟩
  ·obtain⟨o,ho⟩:=gm _ z;exact neM ho hpg rfl
  ·obtain⟨o,ho⟩:=gm _ z;exact neM ((s56.trans s67) _ _ ho) hpt rfl
 ·intro a ha;have ha:a∈pn::pw::pg::pt::gs:=ha;simp only[Xu]at ha;rcases ha with rfl|rfl|rfl|rfl|ha
  ·exact s1.free hpn
  ·exact(s2.trans s3).free hpw
  ·exact(s2.trans (s24.trans s5)).free hpg
  ·exact(s2.trans (s24.trans (s5.trans (s56.trans s67)))).free hpt
  ·exact(s2.trans s24).free (fr5 _ ha)
 ·intro a ha hb;obtain⟨o,ho⟩:=wm a ha;have hb:a∈pn::pw::pg::pt::gs:=hb;simp only[Xu]at hb;rcases hb with rfl|rfl|rfl|rfl|hb
  ·exact neM h2 (fr3 _ ha) rfl
  ·exact neM ho hpw rfl
  ·exact neM ((s34.trans s5) _ _ ho) hpg rfl
  ·exact neM ((s34.trans (s5.trans (s56.trans s67))) _ _ ho) hpt rfl
  ·exact neM (s34 _ _ ho) (fr5 _ hb) rfl
noncomputable def AY(L:List Addr)(M:MH):MH:=λa=>if a∈L then none else M a
theorem FF{L:List Addr}{M:MH}{a:Addr}(h:a∉L):AY L M a=M a:=if_neg h
theorem Pb{L:List Addr}{M:MH}{a:Addr}(h:a∈L):AY L M a=none:=if_pos h
theorem ZgY(L:List Addr)(M:MH):SameM (AY L M) M:=λa o h=>by
 by_cases e:a∈L
 ·rw[Pb e]at h;cases h
 ·rwa [FF e]at h
theorem StdAt.off{W:Wld}{S:Std}{M:MH}{A:StA}(h:StdAt W S M A){D:Addr}{xs:List MV}(hD:M D=some (.lst xs))(nD:D∉A.gs)(o:MO):StdAt W S (updM M D o) A:=by
 have ne:∀{a:Addr} {kvs:List (Key×MV)},M a=some (.dic kvs)->updM M D o a=some (.dic kvs):=fun{a kvs} e=>by
  rw[XD λz=>by rw[z,hD]at e;cases e];exact e
 refine⟨ne h.n,ne h.w,ne h.g,ne h.t,h.wl,h.gl,λi a k x y=>ne (h.wv i a k x y),λi a k x y=>?_⟩;rw[XD λz=>nD (by rw[<- z];exact XG x)]
 exact h.gv i a k x y
noncomputable abbrev V0:SpM:=λvs M Q=>∃(W:Wld) (S:Std) (A:StA) (c:Nat),vs=[W.mv,A.mv]/\W.Good/\SOk W c S/\c≤900/\StdAt W S M A/\∀M' A' p,SameM M M'->StdAt W (FA W S) M' A'->A'.New M->(∀a∈A'.ws,M a=none)->M p=none->M' p=some (.lst ((YZ W S).map MV.str))->Q (.tup [A'.mv,.ref p]) M'
theorem FG:MonW V0:=by walk_at "m"
theorem Pc(T:Txt K mg t):FnOk P w K mg base CX0 53 t.f_round_of t.d_round_of ["world","stand"] (liSp K V0):=by
 refine T.F_round_of.okM Zd9 (Xx (Φ:=[("can_be",WN),("copy_of",Cz),("do_step",Cw),("wish_of",WM)]) (Xy T) (Xz T) rfl (fMc ⟨P5,(fMc ⟨Za5,(fMc ⟨Za4,(fMc ⟨P2,nl0⟩)⟩)⟩)⟩) (fMc ⟨⟨_,_,_,(FnOk.mono (P6 T) (by decide)),T.m_can_be,T.F_can_be.kp,T.b_can_be⟩,(fMc ⟨⟨_,_,_,(FnOk.mono (Zf2 T) (by decide)),T.m_copy_of,T.F_copy_of.kp,T.b_copy_of⟩,(fMc ⟨⟨_,_,_,(FnOk.mono (Zf1 T) (by decide)),T.m_do_step,T.F_do_step.kp,T.b_do_step⟩,(fMc ⟨⟨_,_,_,(FnOk.mono (P3 T) (by decide)),T.m_wish_of,T.F_wish_of.kp,T.b_wish_of⟩,nl0⟩)⟩)⟩)⟩):Fts P w K mg base 52 Mq [("can_be",WN),("copy_of",Cz),("do_step",Cw),("wish_of",WM)]) EO ZdL (fun vs M Q h=>?_) (fun vs M Q h=>?_)
 ·obtain⟨_,_,_,_,rfl,_⟩:=h;rfl
 obtain⟨W,S,A,c,rfl,G,hS,hc,hA,q⟩:=h;show wSs _ _ _ [some W.mv,some A.mv,none,none,none,none] M;have i5:=G.i5;rw[EO,Mp];walk_at "s";refine⟨W,S,A,c,rfl,G,hS,hA,λM1 A2 s1 h1 N1 w1=>?_⟩;rw[Mo];walk_at "s";intro D hD;have s2:=s1.trans (SameM.new hD (.lst []));have h2:=h1.keep (SameM.new hD (.lst []));have hd2:updM M1 D (.lst []) D=some (.lst []):=Xh;have hDo:D∉A2.own:=λz=>by
  unfold StA.own at z;simp only[Xu]at z;rcases z with z|z|z|z|z
  ·exact neM h1.n hD z.symm
  ·exact neM h1.w hD z.symm
  ·exact neM h1.g hD z.symm
  ·exact neM h1.t hD z.symm
  ·obtain⟨j,hj,e⟩:=Yn z;have hj2:j<S.giv.length:=by rw[hS.gl,<- h1.gl];exact hj
   exact neM (h1.gv j _ _ (X8 hj) (X8 hj2)) hD e
 have hD0:=s1.free hD;generalize updM M1 D _=M2 at*;rw[Mn,Wld.mv];walk_at "s";obtain⟨J,hJ⟩:∃J:Nat->Sm->MH->Prop,∀j σ M',J j σ M'↔SameM M M'/\(∃ws,StA.New {A2 with ws:=ws} M/\(∀a∈ws,M a=none)/\StdAt W (XV W S j).1 M' {A2 with ws:=ws})/\M' D=some (.lst ((XV W S j).2.map MV.str))/\∃v4 v5,σ=[some W.mv,some A.mv,some A2.mv,some (.ref D),v4,v5]:=⟨_,λ_ _ _=>Yp⟩;refine⟨J,(hJ _ _ _).mpr ⟨s2,⟨A2.ws,N1,w1,h2⟩,hd2,_,_,rfl⟩,λj σ M' h=>trivial,?_,?_⟩
 ·rintro j u σ M' hu h;obtain⟨s,⟨ws,N,wf,hB⟩,hd,v4,v5,rfl⟩:=(hJ _ _ _).mp h;obtain⟨hj,rfl⟩:=Yq (show(W.isl.map Isl.mv)[j]?=some u from hu);have hI:=X8 hj;obtain⟨k1,k2,k3,k4⟩:=Fz G hS j;have hA':=hA.keep s;have hr:XV W S (j+1)=YK W S j (XV W S j):=rfl;have back:∀M'' v,YJ W S j W.isl[j]=none->M''=M'->J (j+1) [some W.mv,some A.mv,some A2.mv,some (.ref D),some W.isl[j].mv,v] M'':=by
   rintro M'' v e rfl;have e2:YK W S j (XV W S j)=XV W S j:=by unfold YK;rw[hI];dsimp only;rw[e]
   refine(hJ _ _ _).mpr ⟨s,⟨ws,N,wf,?_⟩,?_,_,_,rfl⟩
   ·rw[hr,e2];exact hB
   ·rw[hr,e2];exact hd
  rw[Mm]
  repeat (first|walk_at "s"|simp only[Isl.mv])
  refine⟨W,S,A,c,j,W.isl[j],rfl,G,hS,hA',hI,?_⟩;rw[Ml];cases hs:(W.isl[j]).stps[S.num.getD j 0]? with
  |none=>
   have e:dueM (W.isl[j]).stps (rhoK (S.wd.getD j [])) W.w (S.num.getD j 0)=.non:=by unfold dueM;rw[hs]
   rw[e];walk_at "s";exact back M' _ (by unfold YJ;rw[hs]) rfl
  |some st=>
   rw[P4 hs];have si:=VU G hI hs;have hnn:YX (askM st (rhoK (S.wd.getD j [])) W.w)=false:=by cases st<;>rfl
   repeat (first|walk_at "s"|simp only[hnn])
   refine⟨W,S,A,c,st,rhoK (S.wd.getD j []),(W.isl[j]).vars,_,rfl,G,hS,hA',si,?_⟩;show if canM W S st=true then _ else _;cases hcan:canM W S st with
   |false=>
    rw[if_neg (by simp)]
    exact back M' _ (by unfold YJ;rw[hs];dsimp only;rw[hcan];rfl) rfl
   |true=>
    have hg:YJ W S j W.isl[j]=some st:=by unfold YJ;rw[hs];dsimp only;rw[hcan];rfl
    rw[if_pos rfl,Mj];walk_at "s";have hown:StA.own {A2 with ws:=ws}=A2.own:=rfl;have sM:SameM M (AY A2.own M'):=λa o e=>by
     rw[FF λz=>neM e (N1.fr a z) rfl];exact s _ _ e
    refine⟨W,S,(XV W S j).1,A,{A2 with ws:=ws},AY A2.own M',c,c+j,j,W.isl[j],st,rfl,G,hS,k1,by lia,hA.keep sM,ZgY _ _,hB,⟨N.nd,λa ha=>Pb ha,N.ws⟩,hI,hg,λM'' ws' s'' N'' wf'' h''=>?_⟩
    rw[Mi];have hd'':M'' D=some (.lst ((XV W S j).2.map MV.str)):=s'' _ _ (by rw[FF hDo];exact hd)
    repeat (first|walk_at "s"|simp only[hd'',X7])
    refine⟨⟨_,rfl⟩,by lia,?_⟩
    have e2:YK W S j (XV W S j)=(Vp W S j st (XV W S j).1,(XV W S j).2++[(W.isl[j]).name]):=by unfold YK;rw[hI];dsimp only;rw[hg]
    refine(hJ _ _ _).mpr ⟨(sM.trans s'').upd hD0 _,⟨ws',⟨N''.nd,N.fr,N''.ws⟩,λa ha=>(wf'' a ha).elim (wf a) s.free,?_⟩,?_,_,_,rfl⟩
    ·rw[hr,e2];exact h''.off hd'' (λz=>hDo (Cv z)) _
    ·rw[hr,e2,Xh,YD];rfl
 ·rintro σ M' h;obtain⟨s,⟨ws,N,wf,hB⟩,hd,v4,v5,rfl⟩:=(hJ _ _ _).mp h;rw[Mh];walk_at "s";have el:(Src.tup (W.isl.map Isl.mv)).len=W.isl.length:=X7 _;rw[el]at hB hd;exact q M' {A2 with ws:=ws} D s hB N wf hD0 hd
noncomputable abbrev AZ:SpM:=λvs M Q=>∃(ns:List Int) (k:Nat),vs=[.frl (ns.map .int),.int k]/\k≤1000/\∀v:Int,Q (.int v) M
theorem Pd:MonW AZ:=by walk_at "m"
theorem Zc5(T:Txt K mg t):FnOk P w K mg base CX0 1 t.f__law_cell t.d__law_cell ["script","k"] (liSp K AZ):=by
 refine T.F__law_cell.okM ZbV (Xx (Φ:=[]) (Xy T) (Xz T) rfl nl0 nl0:Fts P w K mg base 0 MQ []) EV ZcG (λvs M Q h=>?_) (λvs M Q h=>?_)
 ·obtain⟨_,_,rfl,_⟩:=h;rfl
 obtain⟨ns,k,rfl,hk1,q⟩:=h;show wSs _ _ _ [some (.frl (ns.map .int)),some (.int k)] M;rw[EV,MP];walk_at "s";rw[X7];refine Yb (λc=>?_) (λc=>?_)
 ·rw[MN];walk_at "s";have hk:k<ns.length:=by omega
  refine⟨.int ns[k],XQ (by rw[Xo,X8 hk];rfl),?_⟩
  walk_at "s";exact q _
 ·rw[MM];walk_at "s";exact⟨.inl ⟨by omega,by omega⟩,q _⟩
noncomputable def Yr(n s:Int):Int:=(n*69621+s*16807+1013)%2147483647*((n*69621+s*16807+1013)%2147483647)%2147483629
theorem FH(n s:Int):0≤Yr n s/\Yr n s<2147483629:=⟨Yo _ (by decide),YB _ (by decide)⟩
noncomputable abbrev Yc:SpM:=λvs M Q=>∃n s:Int,vs=[.int n,.int s]/\Q (.int (Yr n s)) M
theorem V1:MonW Yc:=by walk_at "m"
theorem WO(T:Txt K mg t):FnOk P w K mg base CX0 1 t.f__law_mix t.d__law_mix ["number","salt"] (liSp K Yc):=by
 refine T.F__law_mix.okM Zdd (Xx (Φ:=[]) (Xy T) (Xz T) rfl nl0 nl0:Fts P w K mg base 0 MU []) EW ZdP (λvs M Q h=>?_) (λvs M Q h=>?_)
 ·obtain⟨n,s,rfl,_⟩:=h;rfl
 obtain⟨n,s,rfl,q⟩:=h;show wSs _ _ _ [some (.int n),some (.int s),none] M;rw[EW,MS];walk_at "s";rw[MR];walk_at "s";refine⟨.inl ⟨by omega,by omega⟩,?_⟩
 exact q
noncomputable def Pe(n:Int):Int:=(Yr n 7*2147483629+Yr n 8)*8+n%8
noncomputable def Vr(n:Int)(w:Nat):Int:=(if n/8%4=0\/n/8%4=1 then Pe n else if n/8%4=2 then 0 else 2^w - 1)%2^w
theorem Zdn(n:Int)(w:Nat):0≤Vr n w/\Vr n w<2^w:=AK _ _
noncomputable abbrev V2:SpM:=λvs M Q=>∃(n:Int) (w:Nat),vs=[.int n,.int w]/\w≤64/\∀M',SameM M M'->Q (.int (Vr n w)) M'
theorem FI:MonW V2:=by walk_at "m"
theorem Pf(T:Txt K mg t):FnOk P w K mg base CX0 2 t.f__law_word t.d__law_word ["number","width"] (liSp K V2):=by
 refine T.F__law_word.okM ZbR (Xx (Φ:=[("_law_mix",Yc)]) (Xy T) (Xz T) rfl (fMc ⟨V1,nl0⟩) (fMc ⟨⟨_,_,_,(FnOk.mono (WO T) (by decide)),T.m__law_mix,T.F__law_mix.kp,T.b__law_mix⟩,nl0⟩):Fts P w K mg base 1 Nf [("_law_mix",Yc)]) EY ZcC (fun vs M Q h=>?_) (fun vs M Q h=>?_)
 ·obtain⟨_,_,rfl,_⟩:=h;rfl
 obtain⟨n,w,rfl,hw,q⟩:=h;show wSs _ _ _ [some (.int n),some (.int w),none] M;rw[EY,Nd];walk_at "s";refine⟨n,7,rfl,?_⟩;walk_at "s";refine⟨n,8,rfl,?_⟩;walk_at "s";rw[Nc];walk_at "s";have ew:(1:Int)*2^((w:Nat):Int).toNat=2^w:=by rw[UN,Int.one_mul]
 rw[ew];refine⟨⟨by omega,by omega⟩,λp hp=>?_⟩
 have s:=λo=>q _ (SameM.new hp o);have pp:=AJ w;have dm:∀(v:Int) (M':MH),Q (.int (v%2^w)) M'->wBin Operator.Mod (.int v) (.int (2^w)) M' Q:=λv M' h=>by
  rw[Jb];exact⟨pp,h⟩
 rcases(show n/8%4=0\/n/8%4=1\/n/8%4=2\/n/8%4=3 by omega)with e|e|e|e<;>simp only[Vr,Pe,e]at s<;>rw[e]
 ·exact⟨_,at0,⟨by omega,by omega⟩,dm _ _ (s _)⟩
 ·exact⟨_,at1,⟨by omega,by omega⟩,dm _ _ (s _)⟩
 ·exact⟨_,at2,⟨by omega,by omega⟩,dm _ _ (s _)⟩
 ·exact⟨_,at3,⟨by omega,by omega⟩,dm _ _ (s _)⟩
noncomputable def alph:Str:="abcdefghijklmnopqrstuvwxyz"
theorem ZhA:alph.length≤16777216:=by decide+kernel
theorem ZlS:alph.cps.toList=(XM 26).map (97+·):=by decide+kernel
theorem FJ{i:Int}(h0:0≤i)(h1:i<26):atI alph.cps.toList i=some (97+i.toNat):=by
 have hk:i.toNat<26:=by omega
 have:=XQ (xs:=alph.cps.toList) (j:=i.toNat) (v:=97+i.toNat) (by rw[ZlS,Xo,List.getElem?_range hk];rfl)
 rwa [Vf h0]at this
theorem CB(c:Nat):(⟨#[c]⟩:Str).length=1:=rfl
theorem ZlR(a b:Str):(a++b).length=a.length+b.length:=by
 show(a.cps++b.cps).size=_;rw[Array.size_append]
 rfl
theorem FK(a b:Str):(a++b).cps.toList=a.cps.toList++b.cps.toList:=by
 show(a.cps++b.cps).toList=_;rw[Bx]
theorem Pg(c:Nat):∀(k:Nat) (acc:Array Nat),((Vw k #[c]).foldl (·++·) acc).toList=acc.toList++Vw k c
 |0,acc=>by simp
 |k+1,acc=>by
  rw[List.replicate_succ,We,Pg c k,Bx,A0,List.replicate_succ];rfl
theorem mul_one(c:Nat)(i:Int):(Txt.mul (⟨#[c]⟩:Str) i).cps.toList=Vw i.toNat c:=by
 unfold Txt.mul;by_cases h:i<1
 ·rw[if_pos h];have:i.toNat=0:=by omega
  rw[this];rfl
 rw[if_neg h];by_cases h2:(i==1||(⟨#[c]⟩:Str).length==0)=true
 ·rw[if_pos h2];rcases(Bool.or_eq_true _ _).mp h2 with e|e
  ·have:i=1:=by simpa using e
   subst this;rfl
  ·have:(⟨#[c]⟩:Str).length=0:=by simpa using e
   cases this
 ·rw[if_neg h2];show((Vw i.toNat #[c]).foldl (·++·) #[]).toList=_;rw[Pg];rfl
theorem Vs(z:Str):z.length=z.cps.toList.length:=XW.symm
noncomputable def one(c:Nat):Str:=⟨#[c]⟩
theorem Ph:∀(cs:List Nat) (acc:Array Nat),((cs.map one).foldl (fun acc p=>acc++(XX "").cps++p.cps) acc).toList=acc.toList++cs
 |[],acc=>by simp
 |c::cs,acc=>by
  rw[XA,We,Ph cs];have:(acc++(XX "").cps++(one c).cps).toList=acc.toList++[c]:=by
   rw[Bx,Bx,show(XX "").cps.toList=[]from by decide+kernel,Wc];rfl
  rw[this,A0];rfl
theorem Zh2(cs:List Nat):(Uw (XX "") (cs.map one)).cps.toList=cs:=by
 cases cs with
 |nil=>decide+kernel
 |cons c cs=>
  show(((cs.map one)).foldl (fun acc p=>acc++(XX "").cps++p.cps) (one c).cps).toList=_;rw[Ph];rfl
theorem Pi:∀(cs:List Nat) (a:Nat),(cs.map one).foldl (fun n z=>n+z.length+(XX "").length) a=a+cs.length
 |[],a=>rfl
 |c::cs,a=>by
  rw[XA,We,Pi cs];have:(one c).length=1:=rfl;have h2:(XX "").length=0:=by decide+kernel
  rw[this,h2,YG];omega
theorem Pj(z:Str)(k:Nat):(cutS z none (some (k:Int))).cps.toList=z.cps.toList.take k:=by
 unfold cutS;simp only[HT.sIx_none,HT.sIx_nat];rw[Bj,Bw];show List.take (min k z.cps.toList.length) _=_;by_cases h:k≤z.cps.toList.length
 ·rw[D3 h]
 ·rw[CZ (by omega),V7 (Xl _),V7 (by omega)]
theorem Pk(z:Str)(k:Nat):(cutS z (some (k:Int)) none).cps.toList=z.cps.toList.drop k:=by
 unfold cutS;simp only[HT.sIx_none,HT.sIx_nat];show List.take _ (List.drop (min k _) _)=_;by_cases h:k≤z.cps.toList.length
 ·rw[D3 h,V7 (by rw[V8];exact Xl _)]
 ·rw[CZ (by omega),Bh (Xl _),Bh (by omega)]
  simp
theorem ZhS{i:Int}(h0:0≤i)(h1:i<8):∃st:Int,atI [MV.int 1,.int 3,.int 5,.int 7,.int 9,.int 11,.int 15,.int 17] i=some (.int st)/\(st=1\/st=3\/st=5\/st=7\/st=9\/st=11\/st=15\/st=17):=by
 rcases(show i=0\/i=1\/i=2\/i=3\/i=4\/i=5\/i=6\/i=7 by omega)with rfl|rfl|rfl|rfl|rfl|rfl|rfl|rfl
 ·exact⟨1,XQ (j:=0) rfl,by omega⟩
 ·exact⟨3,XQ (j:=1) rfl,by omega⟩
 ·exact⟨5,XQ (j:=2) rfl,by omega⟩
 ·exact⟨7,XQ (j:=3) rfl,by omega⟩
 ·exact⟨9,XQ (j:=4) rfl,by omega⟩
 ·exact⟨11,XQ (j:=5) rfl,by omega⟩
 ·exact⟨15,XQ (j:=6) rfl,by omega⟩
 ·exact⟨17,XQ (j:=7) rfl,by omega⟩
theorem ZhV{f st:Int}(hs:st=1\/st=3\/st=5\/st=7\/st=9\/st=11\/st=15\/st=17){k k':Nat}(h:k<17)(h':k'<17)(e:(f+k*st)%26=(f+k'*st)%26):k=k':=by
 rcases hs with rfl|rfl|rfl|rfl|rfl|rfl|rfl|rfl<;>omega
noncomputable def nmA(b:Bool)(cs:List Nat)(at':Nat)(f st:Int)(k:Nat):List Nat:=if b then cs.take at'++(97+((f+k*st)%26).toNat)::cs.drop (at'+1)else Vw (k%4) (97+f.toNat)++[97+((f+k*st)%26).toNat]
theorem ZkT{b:Bool}{cs:List Nat}{at':Nat}{f st:Int}(hs:st=1\/st=3\/st=5\/st=7\/st=9\/st=11\/st=15\/st=17){k k':Nat}(h:k<17)(h':k'<17)(e:nmA b cs at' f st k=nmA b cs at' f st k'):k=k':=by
 have key:97+((f+k*st)%26).toNat=97+((f+k'*st)%26).toNat:=by
  unfold nmA at e;cases b with
  |true=>
   rw[if_pos rfl,if_pos rfl]at e;exact(List.cons.inj (List.append_cancel_left e)).1
  |false=>
   rw[if_neg (by simp),if_neg (by simp)]at e
   have:=congrArg List.getLast? e
   simpa using this
 have a:=Yo (f+k*st) (show(26:Int)≠0 by decide)
 have a':=Yo (f+k'*st) (show(26:Int)≠0 by decide)
 exact ZhV (f:=f) hs h h' (by omega)
theorem Ziq{b:Bool}{cs:List Nat}{at':Nat}{f st:Int}{k:Nat}(hcs:cs.length≤8)(hat:at'<cs.length)(hc:∀c∈cs,97≤c/\c≤122)(hf:0≤f/\f<26){z:Str}(hz:z.cps.toList=nmA b cs at' f st k):UF z:=by
 have a:=Yo (f+k*st) (show(26:Int)≠0 by decide)
 have a2:=YB (f+k*st) (show(0:Int)<26 by decide)
 unfold nmA at hz;cases b with
 |true=>
  rw[if_pos rfl]at hz;refine⟨?_,?_,λc hcm=>?_⟩
  ·rw[Vs,hz,Y0,YG];omega
  ·rw[Vs,hz,Y0,YG,Yz,V8];omega
  ·rw[hz]at hcm;rcases Yf.mp hcm with hm|hm
   ·exact hc c (CK hm)
   ·rcases Xu.mp hm with rfl|hm
    ·omega
    ·exact hc c (List.mem_of_mem_drop hm)
 |false=>
  rw[if_neg (by simp)]at hz
  refine⟨?_,?_,λc hcm=>?_⟩
  ·rw[Vs,hz,Y0,Us];omega
  ·rw[Vs,hz,Y0,Us,CI];omega
  ·rw[hz]at hcm;rcases Yf.mp hcm with hm|hm
   ·rw[List.eq_of_mem_replicate hm];omega
   ·rw[Y6]at hm;omega
theorem VX{α:Type}{xs:List α}{x y:α}{j:Nat}(h:(xs++[x])[j]?=some y):(j<xs.length/\xs[j]?=some y)\/(j=xs.length/\y=x):=by
 by_cases l:j<xs.length
 ·rw[Uc l]at h;exact .inl ⟨l,h⟩
 ·rw[UL (by omega)]at h
  cases e:j - xs.length with
  |zero=>rw[e]at h;exact .inr ⟨by omega,(Yg h).symm⟩
  |succ m=>rw[e]at h;simp at h
noncomputable abbrev B0:SpM:=λvs M Q=>∃(n:Int) (m:Nat),vs=[.int n,.int m]/\m≤17/\∀(p:Addr) (zs:List Str) M',SameM M M'->M p=none->M' p=some (.lst (zs.map MV.str))->zs.length=m->zs.Nodup->(∀z∈zs,UF z)->Q (.ref p) M'
theorem Pl:MonW B0:=by walk_at "m"
theorem Zbh(T:Txt K mg t):FnOk P w K mg base CX0 2 t.f__law_names t.d__law_names ["number","many"] (liSp K B0):=by
 refine T.F__law_names.okM Zbc (Xx (Φ:=[("_law_mix",Yc)]) (Xy T) (Xz T) rfl (fMc ⟨V1,nl0⟩) (fMc ⟨⟨_,_,_,(FnOk.mono (WO T) (by decide)),T.m__law_mix,T.F__law_mix.kp,T.b__law_mix⟩,nl0⟩):Fts P w K mg base 1 Nb [("_law_mix",Yc)]) EX ZbA (fun vs M Q h=>?_) (fun vs M Q h=>?_)
 ·obtain⟨_,_,rfl,_⟩:=h;rfl
 obtain⟨n,m,rfl,hm,q⟩:=h;show wSs _ _ _ [some (.int n),some (.int m),none,none,none,none,none,none,none,none,none] M;have hΦ:=(Uk (Φ:=[("_law_mix",Yc)]) (fMc ⟨V1,nl0⟩));have al:=ZhA;rw[EX,Na];walk_at "s";rw[N9];walk_at "s";rw[N8];walk_at "s";intro p0 hp0;obtain⟨st,hst1,hst⟩:=ZhS (i:=n/26%8) (by omega) (by omega)
 refine⟨_,hst1,?_⟩;have s0:=SameM.new hp0 (.lst [.int 1,.int 3,.int 5,.int 7,.int 9,.int 11,.int 15,.int 17]);generalize updM M p0 _=M0 at*;rw[N7];walk_at "s";rw[N6];walk_at "s";obtain⟨sz,hsz,hsz1,hsz2⟩:∃sz:Nat,1+n/208%8=(sz:Int)/\1≤sz/\sz≤8:=⟨(1+n/208%8).toNat,by omega,by omega,by omega⟩
 rw[hsz];refine⟨by omega,?_⟩
 have am0:0≤n/1664%(sz:Int):=Yo _ (by omega)
 have am1:n/1664%(sz:Int)<(sz:Int):=YB _ (by omega)
 obtain⟨a,ha⟩:∃a:Nat,n/1664%(sz:Int)=(a:Int):=⟨_,(Vf am0).symm⟩;rw[ha]at am1 ⊢;have f0:0≤n%26:=Yo _ (by decide)
 have f1:n%26<26:=YB _ (by decide)
 rw[N5];walk_at "s";obtain⟨cs,hcs⟩:∃cs:List Nat,(XM sz).map (λi:Nat=>97+(Yr n (20+(0+(i:Nat)))%26).toNat)=cs:=⟨_,rfl⟩;have cl:cs.length=sz:=by rw[<- hcs,X7,YW]
 have cin:∀c∈cs,97≤c/\c≤122:=λc hc=>by
  rw[<- hcs]at hc;obtain⟨i,_,rfl⟩:=XU.mp hc;have:=Yo (Yr n (20+(0+(i:Nat)))) (show(26:Int)≠0 by decide)
  have:=YB (Yr n (20+(0+(i:Nat)))) (show(0:Int)<26 by decide)
  omega
 refine UU (XM sz) (λi=>.int (0+(i:Nat))) (λi=>.str (one (97+(Yr n (20+(0+(i:Nat)))%26).toNat))) ?_ ?_ hΦ λD hD=>?_
 ·walk_at "s";refine⟨by omega,by omega,rfl,by rw[YW];omega,trivial⟩
 ·intro i hi M' s;have e0:=Yo (Yr n (20+(0+(i:Nat)))) (show(26:Int)≠0 by decide)
  have e1:=YB (Yr n (20+(0+(i:Nat)))) (show(0:Int)<26 by decide)
  simp only[sCm,XA,Y8,Yh,Yi,Ye,Y7];walk_at "s";refine⟨n,20+(0+(i:Nat)),rfl,?_⟩;walk_at "s";exact⟨al,_,FJ e0 e1,rfl⟩
 have hl1:(XM sz).map (λi:Nat=>MV.str (one (97+(Yr n (20+(0+(i:Nat)))%26).toNat)))=(cs.map one).map MV.str:=by
  rw[<- hcs,Y9,Y9];rfl
 rw[hl1];have s1:=SameM.new hD (.lst ((cs.map one).map MV.str));have hd1:updM M0 D (.lst ((cs.map one).map MV.str)) D=some (.lst ((cs.map one).map MV.str)):=Xh;generalize updM M0 D _=M1 at*;walk_at "s";have gl:=Zh2 cs;have gll:(Uw (XX "") (cs.map one)).length=cs.length:=by rw[Vs,gl]
 refine⟨_,hd1,?_,by rw[gll];omega,?_⟩
 ·rw[List.foldl_toArray' _ _ _ rfl];exact Y3 (Wj (Pi cs 0)) (by omega)
 generalize Uw (XX "") (cs.map one)=sm at*;rw[N3];walk_at "s";intro p hp;have s2:=SameM.new hp (.lst []);have hd2:updM M1 p (.lst []) p=some (.lst []):=Xh;generalize updM M1 p _=M2 at*;rw[N2];walk_at "s";obtain⟨J,hJ⟩:∃J:Nat->Sm->MH->Prop,∀j σ M',J j σ M'↔∃v9 v10,SameM M1 M'/\(∃zs:List Str,M' p=some (.lst (zs.map MV.str))/\zs.length=j/\∀(i:Nat) z,zs[i]?=some z->z.cps.toList=nmA (decide (n/13312%2=0)) cs a (n%26) st i)/\
  σ=[some (.int n),some (.int m),some (.str alph),some (.int (n%26)),some (.int st),some (.int sz),some (.int a),some (.str sm),some (.ref p),v9,v10]:=⟨_,λ_ _ _=>Yp⟩
 refine⟨by omega,by omega,J,(hJ 0 _ _).mpr ⟨_,_,s2,⟨[],hd2,rfl,λi z h=>by simp at h⟩,rfl⟩,λj σ M' h=>trivial,?_,?_⟩
 ·rintro k u σ M' hu h;obtain⟨v9,v10,s,⟨zs,hd,zl,zv⟩,rfl⟩:=(hJ _ _ _).mp h;obtain⟨hk,rfl⟩:=AI hu;have g0:=Yo (n%26+(0+(k:Nat))*st) (show(26:Int)≠0 by decide)
  have g1:=YB (n%26+(0+(k:Nat))*st) (show(0:Int)<26 by decide)
  have done:∀z:Str,z.cps.toList=nmA (decide (n/13312%2=0)) cs a (n%26) st k->∀v9 v10,J (k+1) [some (.int n),some (.int m),some (.str alph),some (.int (n%26)),some (.int st),some (.int sz),some (.int a),some (.str sm),some (.ref p),v9,v10] (updM M' p (.lst (zs.map MV.str++[.str z]))):=λz hz v9 v10=>by
   refine(hJ _ _ _).mpr ⟨_,_,s.upd hp _,⟨zs++[z],by rw[Xh,YD];rfl,by rw[Y0,zl];rfl,λi y hy=>?_⟩,rfl⟩
   rcases VX hy with⟨_,hy⟩|⟨rfl,rfl⟩
   ·exact zv i y hy
   ·rw[zl];exact hz
  rw[N0];walk_at "s";refine⟨?_,al,_,FJ g0 g1,?_⟩
  ·exact .inl ⟨by omega,by omega⟩
  have ek:((0:Int)+(k:Nat))=(k:Nat):=by omega
  rw[ek]at g0 g1 ⊢;rw[MZ];walk_at "s";by_cases hb:n/13312%2=0
  ·rw[if_pos hb,MX]
   repeat (first|walk_at "s"|simp only[hd])
   have e1:((a:Int)+1)=((a+1:Nat):Int):=by omega
   rw[e1];have l1:(cutS sm none (some (a:Int))).length≤8:=by rw[Vs,Pj,gl,Yz];omega
   have l2:(cutS sm (some ((a+1:Nat):Int)) none).length≤8:=by rw[Vs,Pk,gl,V8];omega
   refine⟨⟨_,rfl⟩,by omega,by rw[CB];omega,by omega,by rw[ZlR,CB];omega,by rw[X7];omega,?_⟩
   refine done _ ?_ _ _;rw[FK,FK,Pj,Pk,gl];unfold nmA;rw[decide_eq_true hb,if_pos rfl,A0];rfl
  ·rw[if_neg hb,MY]
   repeat (first|walk_at "s"|simp only[hd])
   have l1:(Txt.mul ⟨#[97+(n%26).toNat]⟩ ((k:Int)%4)).length≤8:=by rw[Vs,mul_one,CI];omega
   refine⟨⟨_,rfl⟩,al,_,FJ f0 f1,by rw[CB];omega,by omega,by omega,by rw[CB];omega,by rw[X7];omega,?_⟩
   refine done _ ?_ _ _;rw[FK,mul_one];unfold nmA;rw[decide_eq_false hb,if_neg (by simp)]
   have e4:((k:Int)%4).toNat=k%4:=by omega
   rw[e4]
 ·rintro σ M' h;obtain⟨v9,v10,s,⟨zs,hd,zl,zv⟩,rfl⟩:=(hJ _ _ _).mp h;rw[MW];walk_at "s";have zl:zs.length=m:=zl.trans (UN m);refine q p zs M' ((s0.trans s1).trans s) ((s0.trans s1).free hp) hd zl ?_ λz hz=>?_
  ·refine FR.mpr λi j hi hj hij e=>?_;have e1:=zv i _ (X8 hi);have e2:=zv j _ (X8 hj);rw[e]at e1;have:=ZkT hst (by omega) (by omega) (e1.symm.trans e2)
   omega
  ·obtain⟨i,hi,rfl⟩:=Yn hz;exact Ziq (by omega) (by omega) cin ⟨f0,f1⟩ (zv i _ (X8 hi))
noncomputable abbrev Z1(N:Nat):SpM:=λvs M Q=>∃(n:Int) (a:Addr) (zs:List Str) (k:Nat),vs=[.int n,.ref a,.int k]/\k<N/\k≤2/\M a=some (.lst (zs.map MV.str))/\zs.length≤6/\
 ∀(U:Tm) M',SameM M M'->U.depth≤k+1->2*U.size+1≤3^(k+1)->(∀x∈U.reads,x∈zs)->Q U.mv M'
theorem FL(n:Nat):MonW (Z1 n):=by walk_at "m"
theorem FM{zs:List Str}{i:Int}(h0:0≤i)(h1:i<zs.length):∃z∈zs,atI (zs.map MV.str) i=some (.str z):=by
 have hk:i.toNat<zs.length:=by lia
 refine⟨zs[i.toNat],XY hk,?_⟩;have:=XQ (xs:=zs.map MV.str) (j:=i.toNat) (v:=.str zs[i.toNat]) (by rw[Xo,X8 hk];rfl)
 rwa [Vf h0]at this
theorem ZlI{a b c d i:Int}(h0:0≤i)(h1:i<4):∃v:Int,atI [MV.int a,.int b,.int c,.int d] i=some (.int v):=by
 rcases(show i=0\/i=1\/i=2\/i=3 by lia)with rfl|rfl|rfl|rfl
 ·exact⟨_,at0⟩
 ·exact⟨_,at1⟩
 ·exact⟨_,at2⟩
 ·exact⟨_,at3⟩
theorem ZnX{i:Int}(h0:0≤i)(h1:i<6):∃f:Form,atI [MV.str "plus",.str "minus",.str "times",.str "less",.str "same",.str "minus"] i=some (.str f.str):=by
 rcases(show i=0\/i=1\/i=2\/i=3\/i=4\/i=5 by lia)with rfl|rfl|rfl|rfl|rfl|rfl
 ·exact⟨.plus,XQ (j:=0) rfl⟩
 ·exact⟨.minus,XQ (j:=1) rfl⟩
 ·exact⟨.times,XQ (j:=2) rfl⟩
 ·exact⟨.less,XQ (j:=3) rfl⟩
 ·exact⟨.same,XQ (j:=4) rfl⟩
 ·exact⟨.minus,XQ (j:=5) rfl⟩
theorem Pn(T:Txt K mg t):∀N:Nat,FnOk P w K mg base CX0 (N+8) t.f__law_term t.d__law_term ["number","own","deep"] (liSp K (Z1 N))
 |0=>by
  have no:∀vs M Q,¬Z1 0 vs M Q:=λvs M Q h=>by
   obtain⟨_,_,_,k,_,h0,_⟩:=h;lia
  exact⟨λvs H Q E ⟨ms,M,r,rh,h⟩=>absurd h (no _ _ _),λA outer s H args us vs Q E _ _ _ _ ⟨ms,M,r,rh,h⟩=>absurd h (no _ _ _)⟩
 |N+1=>by
  have ih:=Pn T N;refine T.F__law_term.okM ZbS (Xx (Φ:=[("_law_mix",Yc),("_law_term",(Z1 N)),("_law_word",V2)]) (Xy T) (Xz T) rfl (fMc ⟨V1,(fMc ⟨(FL _),(fMc ⟨FI,nl0⟩)⟩)⟩) (fMc ⟨⟨_,_,_,FnOk.mono (WO T) (by lia),T.m__law_mix,T.F__law_mix.kp,T.b__law_mix⟩,(fMc ⟨⟨_,_,_,ih,T.m__law_term,T.F__law_term.kp,T.b__law_term⟩,(fMc ⟨⟨_,_,_,FnOk.mono (Pf T) (by lia),T.m__law_word,T.F__law_word.kp,T.b__law_word⟩,nl0⟩)⟩)⟩):Fts P w K mg base (N+8) Nq [("_law_mix",Yc),("_law_term",(Z1 N)),("_law_word",V2)]) F1 ZcD (fun vs M Q h=>?_) (fun vs M Q h=>?_)
  ·obtain⟨_,_,_,_,rfl,_⟩:=h;rfl
  obtain⟨n,a,zs,k,rfl,hk,k2,ha,zl,q⟩:=h;show wSs _ _ _ [some (.int n),some (.ref a),some (.int k),none,none,none,none,none] M;rw[F1,Np];walk_at "s";rw[No];walk_at "s";refine⟨n,1,rfl,?_⟩;obtain⟨mr,hmr⟩:∃mr,Yr n 1=mr:=⟨_,rfl⟩;rw[hmr];have p3:1≤3^k:=Nat.one_le_pow _ _ (by decide)
  have p4:3^(k+1)=3*3^k:=by rw[Nat.pow_succ,Nat.mul_comm]
  have leaf:∀D:EndM,D.rt=Q->wSs [("_law_mix",Yc),("_law_term",Z1 N),("_law_word",V2)] F0 D [some (.int n),some (.ref a),some (.int k),some (.int (n%9)),some (.int mr),none,none,none] M:=by
   rintro D hD;rw[F0];walk_at "s";intro p hp;refine VP (SameM.new hp _ _ _ ha) Xh ?_;have s1:=SameM.new hp (.lst []);generalize updM M p _=M1 at*;have ha1:=s1 _ _ ha;have num:wSs [("_law_mix",Yc),("_law_term",Z1 N),("_law_word",V2)] EZ D [some (.int n),some (.ref a),some (.int k),some (.int (n%9)),some (.int mr),none,none,none] M1:=by
    rw[EZ];walk_at "s";refine⟨mr,64,rfl,by decide,λM2 s2=>?_⟩
    rw[Nl];walk_at "s";intro p3 hp3;obtain⟨v,hv⟩:=ZlI (a:=mr/8%9 - 4) (b:=Vr mr 64) (c:=0 - Vr mr 64) (d:=mr/8%2) (i:=mr/128%4) (by lia) (by lia)
    refine⟨_,hv,?_⟩
    try walk_at "s"
    rw[hD];exact q (.num v) _ ((s1.trans s2).trans (SameM.new hp3 _)) (by simp[Tm.depth]) (by simp only[Tm.size];lia) (λx hx=>by simp[Tm.reads]at hx)
   refine Yb (λc1=>Yb (λc2=>?_) λ_=>num) λ_=>num;have z0:0<zs.length:=by
    cases zs with
    |nil=>simp at c1
    |cons _ _=>simp
   rw[Nm]
   repeat (first|walk_at "s"|simp only[ha1])
   rw[X7];have e0:=Yo (mr/3) (show(zs.length:Int)≠0 by lia)
   have e1:=YB (mr/3) (show(0:Int)<zs.length by lia)
   obtain⟨z,hz,az⟩:=FM e0 e1;refine⟨by lia,_,az,?_⟩
   try walk_at "s"
   rw[hD];exact q (.var z) _ s1 (by simp[Tm.depth]) (by simp only[Tm.size];lia) (λx hx=>by simp[Tm.reads]at hx;rw[hx];exact hz)
  rw[Nn];walk_at "s";refine Yb (λ_=>leaf _ rfl) λc1=>Yb (λ_=>leaf _ rfl) λc2=>?_;have k1:1≤k:=by lia
  obtain⟨k',rfl⟩:∃k',k=k'+1:=⟨k - 1,by lia⟩
  have ek:((k'+1:Nat):Int) - 1=(k':Nat):=by lia
  have n9:0≤n%9/\n%9<9:=⟨Yo _ (by decide),YB _ (by decide)⟩
  rw[Nk];walk_at "s";refine⟨n,2,rfl,?_⟩;walk_at "s";rw[ek];refine⟨_,a,zs,k',rfl,by lia,by lia,ha,zl,λU1 M1 s1 d1 z1 r1=>?_⟩
  rw[Nj];walk_at "s";refine⟨n,3,rfl,?_⟩;walk_at "s";rw[ek];refine⟨_,a,zs,k',rfl,by lia,by lia,s1 _ _ ha,zl,λU2 M2 s2 d2 z2 r2=>?_⟩
  have s12:=s1.trans s2;rw[Ni];walk_at "s";refine Yb (λc8=>?_) λc8=>?_
  ·rw[Nh];walk_at "s";refine⟨n,4,rfl,?_⟩;walk_at "s";rw[ek];refine⟨_,a,zs,k',rfl,by lia,by lia,s12 _ _ ha,zl,λU3 M3 s3 d3 z3 r3=>?_⟩
   try walk_at "s"
   exact q (.pick U3 U1 U2) _ (s12.trans s3) (by simp only[Tm.depth];lia) (by simp only[Tm.size];lia) (λx hx=>by
    simp only[Tm.reads,Yf]at hx;exact hx.elim (r3 x) (·.elim (r1 x) (r2 x)))
  ·rw[Ng];walk_at "s";intro p3 hp3;obtain⟨f,hf⟩:=ZnX (i:=n%9 - 2) (by lia) (by lia)
   refine⟨_,hf,?_⟩
   try walk_at "s"
   exact q (.two f U1 U2) _ (s12.trans (SameM.new hp3 _)) (by simp only[Tm.depth];lia) (by simp only[Tm.size];lia) (λx hx=>by
    simp only[Tm.reads,Yf]at hx;exact hx.elim (r1 x) (r2 x))
theorem Po{F:List Fer}{b:Fer->Bool}{i:Int}(h:0<(F.filter b).length):∃v,v∈F/\b v=true/\atI ((F.filter b).map λv=>MV.str v.name) (i%((F.filter b).length:Int))=some (.str v.name):=by
 have e0:=Yo i (show((F.filter b).length:Int)≠0 by lia)
 have e1:=YB i (show(0:Int)<(F.filter b).length by lia)
 obtain⟨j,hj⟩:∃j:Nat,i%((F.filter b).length:Int)=j:=⟨_,(Vf e0).symm⟩;have hl:j<(F.filter b).length:=by lia
 have hm:=A5.mp (XY hl);refine⟨(F.filter b)[j],hm.1,hm.2,?_⟩;rw[hj];exact XQ (by rw[Xo,X8 hl];rfl)
theorem Pp{F:List Fer}(nd:(F.map (·.name)).Nodup){v x:Fer}(hv:v∈F)(hx:x∈F)(e:x.name=v.name):x=v:=by
 obtain⟨i,hi,rfl⟩:=Yn hv;obtain⟨j,hj,rfl⟩:=Yn hx;have:=(Vv (l:=F.map (·.name)) (i:=j) (j:=i) (by rw[X7];exact hj) nd).mp (by
  rw[Xo,Xo,X8 hj,X8 hi];exact congrArg some e)
 subst this;rfl
noncomputable abbrev B3:SpM:=λvs M Q=>∃(n:Int) (z:Str) (f a:Addr) (F:List Fer) (zs:List Str) (m:Nat),vs=[.int n,.str z,.ref f,.ref a,.int m]/\M f=some (.lst (F.map Fer.mv))/\F.length≤6/\(F.map (·.name)).Nodup/\M a=some (.lst (zs.map MV.str))/\zs.length≤6/\m≤12/\
 ∀(S:Stp) M',SameM M M'->U8 (F.map (·.name)) zs m S->WI F z S->Q S.mv M'
theorem Pq:MonW B3:=by walk_at "m"
theorem Zc3(T:Txt K mg t):FnOk P w K mg base CX0 12 t.f__law_step t.d__law_step ["number","name","ferries","own","many"] (liSp K B3):=by
 refine T.F__law_step.okM ZbT (Xx (Φ:=[("_law_mix",Yc),("_law_term",(Z1 3))]) (Xy T) (Xz T) rfl (fMc ⟨V1,(fMc ⟨(FL _),nl0⟩)⟩) (fMc ⟨⟨_,_,_,FnOk.mono (WO T) (by decide),T.m__law_mix,T.F__law_mix.kp,T.b__law_mix⟩,(fMc ⟨⟨_,_,_,FnOk.mono (Pn T 3) (by decide),T.m__law_term,T.F__law_term.kp,T.b__law_term⟩,nl0⟩)⟩):Fts P w K mg base 11 NA [("_law_mix",Yc),("_law_term",(Z1 3))]) F7 ZcE (fun vs M Q h=>?_) (fun vs M Q h=>?_)
 ·obtain⟨_,_,_,_,_,_,_,rfl,_⟩:=h;rfl
 obtain⟨n,z,f,a,F,zs,m,rfl,hf,f6,nd,ha,zl,m12,q⟩:=h;show wSs _ _ _ [some (.int n),some (.str z),some (.ref f),some (.ref a),some (.int m),none,none,none,none,none] M;have hΦ:=Uk (Φ:=[("_law_mix",Yc),("_law_term",Z1 3)]) (fMc ⟨V1,fMc ⟨FL 3,nl0⟩⟩);rw[F7,Nz];walk_at "s";refine Cp F Fer.mv (λv=>.str v.name) (λv=>decide (v.taker=z)) ?_ ?_ hΦ λD1 hD1=>?_
 ·repeat (first|walk_at "s"|simp only[hf])
  exact⟨rfl,by lia,hf⟩
 ·intro v hv M' s;simp only[sCm,XA,Y8,Yh,Yi,Ye,Y7]
  repeat (first|walk_at "s"|simp only[Fer.mv])
  try simp
 have s1:=SameM.new hD1 (.lst ((F.filter λv=>decide (v.taker=z)).map λv=>MV.str v.name));have d1:updM M D1 (.lst ((F.filter λv=>decide (v.taker=z)).map λv=>MV.str v.name)) D1=some (.lst ((F.filter λv=>decide (v.taker=z)).map λv=>MV.str v.name)):=Xh;generalize updM M D1 _=M1 at*;have hf1:=s1 _ _ hf;rw[Ny];walk_at "s";refine Cp F Fer.mv (λv=>.str v.name) (λv=>decide (v.giver=z)) ?_ ?_ hΦ λD2 hD2=>?_
 ·repeat (first|walk_at "s"|simp only[hf1])
  exact⟨rfl,by lia,hf1⟩
 ·intro v hv M' s;simp only[sCm,XA,Y8,Yh,Yi,Ye,Y7]
  repeat (first|walk_at "s"|simp only[Fer.mv])
  try simp
 have s2:=SameM.new hD2 (.lst ((F.filter λv=>decide (v.giver=z)).map λv=>MV.str v.name));have d2:updM M1 D2 (.lst ((F.filter λv=>decide (v.giver=z)).map λv=>MV.str v.name)) D2=some (.lst ((F.filter λv=>decide (v.giver=z)).map λv=>MV.str v.name)):=Xh;generalize updM M1 D2 _=M2 at*;have d12:=s2 _ _ d1;have ss:=s1.trans s2;have ha2:=ss _ _ ha;rw[Nw];walk_at "s";rw[Nv];walk_at "s";refine⟨n,5,rfl,?_⟩;obtain⟨mr,hmr⟩:∃mr,Yr n 5=mr:=⟨_,rfl⟩;rw[hmr];have n8:0≤n%8/\n%8<8:=⟨Yo _ (by decide),YB _ (by decide)⟩
 have rest:∀M3,SameM M2 M3->wSs [("_law_mix",Yc),("_law_term",Z1 3)] F6 {nx:=fun _ M'=>Q .non M',rt:=Q} [some (.int n),some (.str z),some (.ref f),some (.ref a),some (.int m),some (.ref D1),some (.ref D2),some (.int (n%8)),some (.int mr),none] M3:=by
  intro M3 s3;rw[F6];walk_at "s";refine⟨n,6,rfl,?_⟩;walk_at "s";obtain⟨k,hk,hk2⟩:∃k:Nat,mr/64%3=(k:Int)/\k≤2:=⟨(mr/64%3).toNat,by lia,by lia⟩
  rw[hk];refine⟨_,a,zs,k,rfl,by lia,hk2,s3 _ _ ha2,zl,λU M4 s4 u1 u2 u3=>?_⟩
  have hU:TmIn zs U:=⟨by lia,by
   have:3^(k+1)≤3^3:=Nat.pow_le_pow_right (by decide) (by lia)
   lia,u3⟩
  have s34:=s3.trans s4;have rest2:∀M5,SameM M2 M5->wSs [("_law_mix",Yc),("_law_term",Z1 3)] F4 {nx:=fun _ M'=>Q .non M',rt:=Q} [some (.int n),some (.str z),some (.ref f),some (.ref a),some (.int m),some (.ref D1),some (.ref D2),some (.int (n%8)),some (.int mr),some U.mv] M5:=by
   intro M5 s5;have jmp:∀M6,SameM M2 M6->wSs [("_law_mix",Yc),("_law_term",Z1 3)] F3 {nx:=fun σ M=>wSs [("_law_mix",Yc),("_law_term",Z1 3)] F2 {nx:=fun _ M'=>Q .non M',rt:=Q} σ M,rt:=Q} [some (.int n),some (.str z),some (.ref f),some (.ref a),some (.int m),some (.ref D1),some (.ref D2),some (.int (n%8)),some (.int mr),some U.mv] M6:=by
    intro M6 s6;have e0:=Yo (mr/512) (show((m:Int)+1)≠0 by lia)
    have e1:=YB (mr/512) (show(0:Int)<(m:Int)+1 by lia)
    rw[F3];walk_at "s";refine⟨by lia,?_⟩
    exact q (.jump U (mr/512%((m:Int)+1))) _ (ss.trans s6) ⟨hU,e0,by lia⟩ trivial
   rw[F4];walk_at "s";refine Yb (λ_=>jmp M5 s5) λc7=>?_;intro p hp;refine VP (SameM.new hp _ _ _ (s5 _ _ ha2)) Xh ?_;have s6:=s5.trans (SameM.new hp (.lst []));generalize updM M5 p _=M6 at*;refine Yb (λ_=>jmp M6 s6) λc1=>?_;have z0:0<zs.length:=by
    cases zs with
    |nil=>simp at c1
    |cons _ _=>simp
   rw[F2]
   repeat (first|walk_at "s"|simp only[s6 _ _ ha2])
   rw[X7];have e0:=Yo (mr/8) (show(zs.length:Int)≠0 by lia)
   have e1:=YB (mr/8) (show(0:Int)<zs.length by lia)
   obtain⟨x,hx,ax⟩:=FM e0 e1;refine⟨by lia,_,ax,?_⟩
   try walk_at "s"
   exact q (.put x U) _ (ss.trans s6) ⟨hx,hU⟩ trivial
  show wSs _ F5 _ _ _;rw[F5];walk_at "s";refine Yb (λc6=>?_) λ_=>rest2 M4 s34;intro p hp;refine VP (SameM.new hp _ _ _ (s34 _ _ d2)) Xh ?_;have s5:=s34.trans (SameM.new hp (.lst []));generalize updM M4 p _=M5 at*;refine Yb (λc1=>?_) λ_=>rest2 M5 s5;have g0:0<(F.filter λv=>decide (v.giver=z)).length:=by
   cases hF:F.filter λv=>decide (v.giver=z)with
   |nil=>rw[hF]at c1;simp at c1
   |cons _ _=>simp
  rw[Nr]
  repeat (first|walk_at "s"|simp only[s5 _ _ d2])
  rw[X7];obtain⟨v,hv,bv,av⟩:=Po (i:=mr) g0;refine⟨by lia,_,av,?_⟩
  try walk_at "s"
  exact q (.give v.name U) _ (ss.trans s5) ⟨XU.mpr ⟨v,hv,rfl⟩,hU⟩ (λx hx e=>by rw[Pp nd hv hx e];exact of_decide_eq_true bv)
 rw[Nu];walk_at "s";refine Yb (λc3=>?_) λ_=>rest M2 (SameM.refl _);intro p hp;refine VP (SameM.new hp _ _ _ d12) Xh ?_;have s3:=SameM.new hp (.lst []);generalize updM M2 p _=M3 at*;refine Yb (λc1=>?_) λ_=>rest M3 s3
 try walk_at "s"
 intro p2 hp2;refine VP (SameM.new hp2 _ _ _ (s3 _ _ ha2)) Xh ?_;have s4:=s3.trans (SameM.new hp2 (.lst []));generalize updM M3 p2 _=M4 at*;refine Yb (λc2=>?_) λ_=>rest M4 s4;have g0:0<(F.filter λv=>decide (v.taker=z)).length:=by
  cases hF:F.filter λv=>decide (v.taker=z)with
  |nil=>rw[hF]at c1;simp at c1
  |cons _ _=>simp
 have z0:0<zs.length:=by
  cases zs with
  |nil=>simp at c2
  |cons _ _=>simp
 rw[Nt]
 repeat (first|walk_at "s"|simp only[s4 _ _ d12,s4 _ _ ha2])
 obtain⟨v,hv,bv,av⟩:=Po (i:=mr) g0;have e0:=Yo (mr/8) (show(zs.length:Int)≠0 by lia)
 have e1:=YB (mr/8) (show(0:Int)<zs.length by lia)
 obtain⟨x,hx,ax⟩:=FM e0 e1;rw[X7];refine⟨by lia,_,av,?_⟩
 rw[X7];refine⟨by lia,_,ax,?_⟩
 try walk_at "s"
 exact q (.take v.name x) _ (ss.trans s4) ⟨XU.mpr ⟨v,hv,rfl⟩,hx⟩ (λy hy e=>by rw[Pp nd hv hy e];exact of_decide_eq_true bv)
theorem ZjY{g e m:Int}(h0:0≤g)(h1:g<m)(e1:1≤e)(e2:e≤m - 1):(g+e)%m≠g:=by
 by_cases h:g+e<m
 ·rw[Int.emod_eq_of_lt (by lia) h];lia
 ·have:(g+e)%m=g+e - m:=by
   rw[show g+e=(g+e - m)+m by lia,Int.add_emod_right,Int.emod_eq_of_lt (by lia) (by lia)];lia
  rw[this];lia
theorem WP{zs:List Str}{i:Int}{k:Nat}(e:i=k){z:Str}(h:zs[k]?=some z):atI (zs.map MV.str) i=some (.str z):=by
 rw[e];exact XQ (by rw[Xo,h];rfl)
noncomputable abbrev B4:SpM:=λvs M Q=>∃(n:Int) (p:Addr) (zs:List Str) (m:Nat),vs=[.int n,.ref p,.int m]/\M p=some (.lst (zs.map MV.str))/\zs.length=15/\zs.Nodup/\m≤5/\
 ∀(F:List Fer) (pf:Addr) M',SameM M M'->M pf=none->M' pf=some (.lst (F.map Fer.mv))->F.length≤6->(∀(i:Nat) f,F[i]?=some f->zs[5+i]?=some f.name)->(∀f∈F,FerOk (zs.take m) f)->Q (.ref pf) M'
theorem Pr:MonW B4:=by walk_at "m"
theorem Z92(T:Txt K mg t):FnOk P w K mg base CX0 2 t.f__law_ferries t.d__law_ferries ["number","names","many"] (liSp K B4):=by
 refine T.F__law_ferries.okM Z8R (Xx (Φ:=[("_law_mix",Yc)]) (Xy T) (Xz T) rfl (fMc ⟨V1,nl0⟩) (fMc ⟨⟨_,_,_,(FnOk.mono (WO T) (by decide)),T.m__law_mix,T.F__law_mix.kp,T.b__law_mix⟩,nl0⟩):Fts P w K mg base 1 NJ [("_law_mix",Yc)]) F9 Z9I (fun vs M Q h=>?_) (fun vs M Q h=>?_)
 ·obtain⟨_,_,_,_,rfl,_⟩:=h;rfl
 obtain⟨n,p,zs,m,rfl,hp,zl,nd,m5,q⟩:=h;show wSs _ _ _ [some (.int n),some (.ref p),some (.int m),none,none,none,none,none,none] M;rw[F9,NI];walk_at "s";intro pf hpf;have s1:=SameM.new hpf (.lst []);have hd1:updM M pf (.lst []) pf=some (.lst []):=Xh;generalize updM M pf _=M1 at*;rw[NH];walk_at "s";refine Yb (λc1=>?_) λc1=>?_
 ·rw[NG];walk_at "s";obtain⟨r,hr,hr6⟩:∃r:Nat,n/8%7=(r:Int)/\r≤6:=⟨(n/8%7).toNat,by lia,by lia⟩
  rw[hr];obtain⟨J,hJ⟩:∃J:Nat->Sm->MH->Prop,∀j σ M',J j σ M'↔∃v4 v5 v6 v7 v8,SameM M M'/\(∃F:List Fer,M' pf=some (.lst (F.map Fer.mv))/\F.length=j/\(∀(i:Nat) f,F[i]?=some f->zs[5+i]?=some f.name)/\∀f∈F,FerOk (zs.take m) f)/\
   σ=[some (.int n),some (.ref p),some (.int m),some (.ref pf),v4,v5,v6,v7,v8]:=⟨_,λ_ _ _=>Yp⟩
  refine⟨by lia,by lia,J,(hJ 0 _ _).mpr ⟨_,_,_,_,_,s1,⟨[],hd1,rfl,λi f h=>by simp at h,λf h=>by simp at h⟩,rfl⟩,λj σ M' h=>trivial,?_,?_⟩
  ·rintro j u σ M' hu h;obtain⟨v4,v5,v6,v7,v8,s,⟨F,hd,fl,fn,fo⟩,rfl⟩:=(hJ _ _ _).mp h;obtain⟨hj,rfl⟩:=AI hu;have hj:j<r:=by simpa using hj
   rw[NF];walk_at "s";refine⟨n,10+(0+(j:Nat)),rfl,?_⟩;obtain⟨mr,hmr⟩:∃mr,Yr n (10+(0+(j:Nat)))=mr:=⟨_,rfl⟩;rw[hmr];have g0:=Yo mr (show(m:Int)≠0 by lia)
   have g1:=YB mr (show(0:Int)<m by lia)
   have d0:=Yo (mr/8) (show((m:Int) - 1)≠0 by lia)
   have d1:=YB (mr/8) (show(0:Int)<(m:Int) - 1 by lia)
   rw[NE];walk_at "s";refine⟨by lia,?_⟩
   rw[ND];walk_at "s";refine⟨by lia,by lia,?_⟩
   have t0:=Yo (mr%(m:Int)+1+mr/8%((m:Int) - 1)) (show(m:Int)≠0 by lia)
   have t1:=YB (mr%(m:Int)+1+mr/8%((m:Int) - 1)) (show(0:Int)<m by lia)
   have tn:(mr%(m:Int)+1+mr/8%((m:Int) - 1))%(m:Int)≠mr%(m:Int):=by
    rw[Int.add_assoc];exact ZjY g0 g1 (by lia) (by lia)
   obtain⟨g,hg⟩:∃g:Nat,mr%(m:Int)=(g:Int):=⟨_,(Vf g0).symm⟩;rw[hg]at t0 t1 tn ⊢;obtain⟨tk,htk⟩:∃tk:Nat,((g:Int)+1+mr/8%((m:Int) - 1))%(m:Int)=(tk:Int):=⟨_,(Vf t0).symm⟩;rw[htk]at t1 tn ⊢;have gm:g<m:=by lia
   have tm:tk<m:=by lia
   have gt:g≠tk:=λe=>tn (by rw[e])
   rw[NC]
   repeat (first|walk_at "s"|simp only[s _ _ hp])
   have h5:=X8 (show 5+j<zs.length by lia)
   have hgg:=X8 (show g<zs.length by lia)
   have htt:=X8 (show tk<zs.length by lia)
   refine⟨_,WP (by lia) h5,_,WP rfl hgg,_,WP rfl htt,?_⟩
   obtain⟨kk,hkk,hkk3⟩:∃kk:Nat,mr/64%4=(kk:Int)/\kk≤3:=⟨(mr/64%4).toNat,by lia,by lia⟩
   obtain⟨st,hst,hst1,hst3⟩:∃st:Nat,1+mr/256%3=(st:Int)/\1≤st/\st≤3:=⟨(1+mr/256%3).toNat,by lia,by lia,by lia⟩
   have zg:zs[g]∈zs.take m:=XG (i:=g) (by rw[Bg gm];exact hgg)
   have zt:zs[tk]∈zs.take m:=XG (i:=tk) (by rw[Bg tm];exact htt)
   have zn:zs[g]≠zs[tk]:=λe=>gt ((Vv (show g<zs.length by lia) nd).mp (hgg.trans ((congrArg some e).trans htt.symm)))
   generalize zs[5+j]'(by lia)=z5 at*
   generalize zs[g]'(by lia)=z1 at*
   generalize zs[tk]'(by lia)=z2 at*
   rw[NB]
   repeat (first|walk_at "s"|simp only[hd,hkk,hst,Ye,Y7])
   rw[X7];refine⟨⟨_,rfl⟩,by lia,?_⟩
   refine(hJ _ _ _).mpr ⟨_,_,_,_,_,s.upd hpf _,⟨F++[⟨z5,z1,z2,kk,st⟩],?_,by rw[Y0,fl];rfl,λi f hi=>?_,λf hf=>?_⟩,rfl⟩
   ·rw[Xh,YD];rfl
   ·rcases VX hi with⟨_,hi⟩|⟨rfl,rfl⟩
    ·exact fn i f hi
    ·rw[fl];exact h5
   ·rcases Yf.mp hf with hf|hf
    ·exact fo f hf
    ·rw[Y6]at hf;subst hf;exact⟨zg,zt,zn,hkk3,hst1,hst3⟩
  ·rintro σ M' h;obtain⟨v4,v5,v6,v7,v8,s,⟨F,hd,fl,fn,fo⟩,rfl⟩:=(hJ _ _ _).mp h;have fl:F.length=r:=fl.trans (UN r);rw[F8];walk_at "s";exact q F pf M' s hpf hd (by lia) fn fo
 ·rw[F8];walk_at "s";exact q [] pf M1 s1 hpf hd1 (by simp) (λi f h=>by simp at h) (λf h=>by simp at h)
structure IslsNew (M0 M:MH) (Is:List Isl) (ys:List MV):Prop where
 len:ys.length=Is.length
 at_:∀(i:Nat) (I:Isl) (y:MV),Is[i]?=some I->ys[i]?=some y->∃a b,y=.tup [.str I.name,.ref a,.ref b]/\M0 a=none/\M0 b=none/\M a=some (.lst (I.prs.map prV))/\M b=some (.lst (I.stps.map Stp.mv))
theorem IslsNew.inn{M0 M:MH}{Is:List Isl}{ys:List MV}(h:IslsNew M0 M Is ys):IslsIn M Is ys:=⟨h.len,λi I y a b=>by
 obtain⟨c,d,e,_,_,h1,h2⟩:=h.at_ i I y a b;exact⟨c,d,e,h1,h2⟩⟩
theorem IslsNew.keep{M0 M M':MH}{Is:List Isl}{ys:List MV}(h:IslsNew M0 M Is ys)(s:∀a o,M a=some o->M0 a=none->M' a=some o):IslsNew M0 M' Is ys:=⟨h.len,λi I y a b=>by
 obtain⟨c,d,e,n1,n2,h1,h2⟩:=h.at_ i I y a b;exact⟨c,d,e,n1,n2,s _ _ h1 n1,s _ _ h2 n2⟩⟩
theorem Ps{α:Type}{v y:α}{xs:List α}{i:Nat}(h:(xs++[v])[i]?=some y):xs[i]?=some y\/(i=xs.length/\y=v):=by
 rw[List.getElem?_append]at h;split at h
 ·exact .inl h
 ·rename_i e
  obtain⟨d,hd⟩:∃d,i - xs.length=d:=⟨_,rfl⟩;rw[hd]at h;cases d with
  |zero=>simp at h;exact .inr ⟨by lia,h.symm⟩
  |succ d=>simp at h
theorem IslsNew.add{M0 M:MH}{Is:List Isl}{ys:List MV}(h:IslsNew M0 M Is ys){I:Isl}{a b:Addr}(n1:M0 a=none)(n2:M0 b=none)(h1:M a=some (.lst (I.prs.map prV)))(h2:M b=some (.lst (I.stps.map Stp.mv))):IslsNew M0 M (Is++[I]) (ys++[.tup [.str I.name,.ref a,.ref b]]):=by
 refine⟨by simp[h.len],λi J y hJ hy=>?_⟩
 have l:=h.len;rcases Ps hJ with hJ'|⟨e1,rfl⟩<;>rcases Ps hy with hy'|⟨e2,rfl⟩
 ·exact h.at_ i J y hJ' hy'
 ·have:=(XE.mp hJ').1;lia
 ·have:=(XE.mp hy').1;lia
 ·exact⟨a,b,rfl,n1,n2,h1,h2⟩
theorem ZiO{Φ:List (Str×SpM)}{own:List Str}{fr:List Nat}{src:ISr}{tg:ITg}{elt:IE}{σ:Sm}{M:MH}{Q:QM}{α:Type}(xs:List α)(f:α->MV)(R:α->MV->Prop)
  (hs:wSr Φ src σ M λS M1=>S.items=xs.map f/\xs.length<sizeLine/\S.okF M1/\SameM M M1)
  (ht:∀x∈xs,∀M',SameM M M'->wTg tg (f x) (sCm own fr σ) λσ2=>wE Φ elt σ2 M' λy M2=>R x y/\SameM M' M2)
  (hΦ:∀(j:Nat) f sp,Φ[j]?=some (f,sp)->MonW sp)
  (q:∀D M' ys,M D=none->SameM M M'->ys.length=xs.length->(∀(i:Nat) x y,xs[i]?=some x->ys[i]?=some y->R x y)->M' D=some (.lst ys)->Q (.ref D) M'):wE Φ (.comp own fr src tg .none elt) σ M Q:=by
 rw[AA];refine mon_sr hΦ src (λS M1 ⟨h1,h2,h3,h4⟩=>?_) hs;have hl:S.len=xs.length:=by rw[<- S.items_len,h1,X7]
 refine⟨by rw[hl];exact h2,λD hD=>⟨λi ys M2=>SameM M1 M2/\M2 D=some (.lst ys)/\ys.length=i/\∀(j:Nat) x y,xs[j]?=some x->ys[j]?=some y->R x y,⟨SameM.new hD _,Xh,rfl,λj x y _ h=>by simp at h⟩,?_,?_,?_⟩⟩
 ·rintro i ys M2 ⟨s2,d2,e,_⟩;refine⟨d2,by lia,?_⟩
  cases S with
  |dic _ _ _=>exact h3.elim
  |lst a zs=>exact s2 _ _ h3
  |_=>trivial
 ·rintro i x ys M2 hx ⟨s2,d2,e,hr⟩;rw[h1]at hx;obtain⟨hi,rfl⟩:=Yq hx;refine Vh tg (λσ2 h=>?_) (ht xs[i] (XY hi) M2 (h4.trans s2));rw[wI,if_pos rfl];refine Xc hΦ elt (λy M3 ⟨r,s3⟩=>?_) h;refine⟨s3 _ _ d2,(s2.trans s3).upd hD _,Xh,by rw[Y0,e];rfl,λj x' y' hx' hy'=>?_⟩
  rcases VX hy' with⟨_,hy'⟩|⟨rfl,rfl⟩
  ·exact hr j x' y' hx' hy'
  ·rw[e,X8 hi]at hx';cases hx';exact r
 ·rintro ys M2 ⟨s2,d2,e,hr⟩;rw[AB h3];exact q D M2 ys (h4.free hD) (h4.trans s2) (by lia) hr d2
theorem Pt{α:Type}{P:Stp->Prop}:∀{xs:List α} {ys:List MV},ys.length=xs.length->(∀(i:Nat) x y,xs[i]?=some x->ys[i]?=some y->∃S:Stp,y=S.mv/\P S)->∃ss:List Stp,ys=ss.map Stp.mv/\ss.length=xs.length/\∀S∈ss,P S
 |[],[],_,_=>⟨[],rfl,rfl,λ_ h=>nomatch h⟩
 |[],_::_,h,_=>by cases h
 |_::_,[],h,_=>by cases h
 |x::xs,y::ys,h,r=>by
  obtain⟨S,rfl,hS⟩:=r 0 x y rfl rfl;obtain⟨ss,rfl,l,hs⟩:=Pt (xs:=xs) (ys:=ys) (by simpa using h) λi x y a b=>r (i+1) x y (by simpa using a) (by simpa using b)
  refine⟨S::ss,rfl,by rw[YG,YG,l],λS' h'=>?_⟩
  rcases Xu.mp h' with rfl|h'
  ·exact hS
  ·exact hs S' h'
theorem Zl2{i:Int}(h0:0≤i)(h1:i<8):∃m:Nat,atI [MV.int 2,.int 3,.int 4,.int 5,.int 2,.int 3,.int 1,.int 0] i=some (.int m)/\m≤5:=by
 rcases(show i=0\/i=1\/i=2\/i=3\/i=4\/i=5\/i=6\/i=7 by lia)with rfl|rfl|rfl|rfl|rfl|rfl|rfl|rfl
 ·exact⟨2,XQ (j:=0) rfl,by lia⟩
 ·exact⟨3,XQ (j:=1) rfl,by lia⟩
 ·exact⟨4,XQ (j:=2) rfl,by lia⟩
 ·exact⟨5,XQ (j:=3) rfl,by lia⟩
 ·exact⟨2,XQ (j:=4) rfl,by lia⟩
 ·exact⟨3,XQ (j:=5) rfl,by lia⟩
 ·exact⟨1,XQ (j:=6) rfl,by lia⟩
 ·exact⟨0,XQ (j:=7) rfl,by lia⟩
noncomputable abbrev VY:SpM:=λvs M Q=>∃ns:List Int,vs=[.frl (ns.map .int),.int 3]/\ns.length≤63/\
 ∀(W:Wld) (pi pf:Addr) (ys:List MV) M',SameM M M'->W.Good->M pi=none->M pf=none->pi≠pf->M' pi=some (.lst ys)->IslsIn M' W.isl ys->M' pf=some (.lst (W.fer.map Fer.mv))->Q (.tup [.int W.w,.ref pi,.ref pf]) M'
theorem Pu:MonW VY:=by walk_at "m"
theorem Zbg(T:Txt K mg t):FnOk P w K mg base CX0 13 t.f__law_world t.d__law_world ["script","start"] (liSp K VY):=by
 refine T.F__law_world.okM Zbb (Xx (Φ:=[("_law_cell",AZ),("_law_ferries",B4),("_law_mix",Yc),("_law_names",B0),("_law_step",B3),("_law_word",V2)]) (Xy T) (Xz T) rfl (fMc ⟨Pd,(fMc ⟨Pr,(fMc ⟨V1,(fMc ⟨Pl,(fMc ⟨Pq,(fMc ⟨FI,nl0⟩)⟩)⟩)⟩)⟩)⟩) (fMc ⟨⟨_,_,_,(FnOk.mono (Zc5 T) (by decide)),T.m__law_cell,T.F__law_cell.kp,T.b__law_cell⟩,(fMc ⟨⟨_,_,_,(FnOk.mono (Z92 T) (by decide)),T.m__law_ferries,T.F__law_ferries.kp,T.b__law_ferries⟩,(fMc ⟨⟨_,_,_,(FnOk.mono (WO T) (by decide)),T.m__law_mix,T.F__law_mix.kp,T.b__law_mix⟩,(fMc ⟨⟨_,_,_,(FnOk.mono (Zbh T) (by decide)),T.m__law_names,T.F__law_names.kp,T.b__law_names⟩,(fMc ⟨⟨_,_,_,(FnOk.mono (Zc3 T) (by decide)),T.m__law_step,T.F__law_step.kp,T.b__law_step⟩,(fMc ⟨⟨_,_,_,(FnOk.mono (Pf T) (by decide)),T.m__law_word,T.F__law_word.kp,T.b__law_word⟩,nl0⟩)⟩)⟩)⟩)⟩)⟩):Fts P w K mg base 12 O0 [("_law_cell",AZ),("_law_ferries",B4),("_law_mix",Yc),("_law_names",B0),("_law_step",B3),("_law_word",V2)]) Fa Zbz (fun vs M Q h=>?_) (fun vs M Q h=>?_)
 ·obtain⟨_,rfl,_⟩:=h;rfl
 obtain⟨ns,rfl,nl,q⟩:=h;show wSs _ _ _ [some (.frl (ns.map .int)),some (.int 3),none,none,none,none,none,none,none,none,none,none,none,none,none,none] M;have hΦ:=(Uk (Φ:=[("_law_cell",AZ),("_law_ferries",B4),("_law_mix",Yc),("_law_names",B0),("_law_step",B3),("_law_word",V2)]) (fMc ⟨Pd,(fMc ⟨Pr,(fMc ⟨V1,(fMc ⟨Pl,(fMc ⟨Pq,(fMc ⟨FI,nl0⟩)⟩)⟩)⟩)⟩)⟩));rw[Fa,NZ];walk_at "s";refine⟨ns,0,rfl,by decide,λv0=>?_⟩
 walk_at "s";refine⟨v0,1,rfl,?_⟩;obtain⟨h0,h1⟩:=FH v0 1;generalize Yr v0 1=hd at*;rw[NY];walk_at "s";intro p0 hp0;obtain⟨m,hm,m5⟩:=Zl2 (i:=hd%8) (by lia) (by lia)
 refine⟨_,hm,?_⟩;have s0:=SameM.new hp0 (.lst [MV.int 2,.int 3,.int 4,.int 5,.int 2,.int 3,.int 1,.int 0]);generalize updM M p0 _=M0 at*;rw[NX];walk_at "s";refine⟨ns,1,rfl,by decide,λv1=>?_⟩
 walk_at "s";refine⟨v1,2,rfl,?_⟩;walk_at "s";refine⟨_,15,rfl,by decide,λpn zs M1 s1 hpn hn zl znd zg=>?_⟩
 rw[NW];walk_at "s";refine⟨ns,2,rfl,by decide,λv2=>?_⟩
 walk_at "s";refine⟨v2,3,rfl,?_⟩;obtain⟨z0,z1⟩:=FH v2 3;generalize Yr v2 3=sz at*;rw[NV];walk_at "s";intro p1 hp1;obtain⟨wd,hwd,wd1,wd2⟩:∃wd:Nat,atI [MV.int (1+sz/4%64),.int 64,.int (1+sz/4%5),.int 8] (sz%4)=some (.int wd)/\1≤wd/\wd≤64:=by
  rcases(show sz%4=0\/sz%4=1\/sz%4=2\/sz%4=3 by lia)with e|e|e|e<;>rw[e]
  ·exact⟨(1+sz/4%64).toNat,by rw[Vf (by lia)];exact at0,by lia,by lia⟩
  ·exact⟨64,at1,by lia,by lia⟩
  ·exact⟨(1+sz/4%5).toNat,by rw[Vf (by lia)];exact at2,by lia,by lia⟩
  ·exact⟨8,at3,by lia,by lia⟩
 refine⟨_,hwd,?_⟩;have s2:=SameM.new hp1 (.lst [MV.int (1+sz/4%64),.int 64,.int (1+sz/4%5),.int 8]);generalize updM M1 p1 _=M2 at*;have hn2:=s2 _ _ hn;rw[NU];walk_at "s";refine⟨hd,pn,zs,m,rfl,hn2,zl,znd,m5,λF pf M3 s3 hpf hf fl fn fo=>?_⟩;rw[NT];walk_at "s";intro pi hpi;have s4:=SameM.new hpi (.lst []);have hi4:updM M3 pi (.lst []) pi=some (.lst []):=Xh;have only:∀a,a≠pi->updM M3 pi (.lst []) a=M3 a:=λa e=>XD e;generalize updM M3 pi _=M4 at*;have ndF:(F.map (·.name)).Nodup:=by
  refine FR.mpr λi j hi hj hij e=>?_;rw[X7]at hi hj;rw[CP,CP]at e;have e1:=fn i _ (X8 hi);have e2:=fn j _ (X8 hj);rw[e]at e1;have:=(Vv (show 5+i<zs.length by lia) znd).mp (e1.trans e2.symm)
  lia
 rw[NS];walk_at "s";obtain⟨J,hJ⟩:∃J:Nat->Sm->MH->Prop,∀j σ M',J j σ M'↔∃(Is:List Isl) (ys:List MV) (v9 v10 v11 v12 v13 v14 v15:Option MV),SameM M3 M'/\M' pi=some (.lst ys)/\IslsNew M4 M' Is ys/\Is.length=j/\(∀(k:Nat) I,Is[k]?=some I->zs[k]?=some I.name)/\(∀I∈Is,IslOk wd (F.map (·.name)) I/\∀s∈I.stps,WI F I.name s)/\
  σ=[some (.frl (ns.map MV.int)),some (.int 3),some (.int hd),some (.int m),some (.ref pn),some (.int sz),some (.int wd),some (.ref pf),some (.ref pi),v9,v10,v11,v12,v13,v14,v15]:=⟨_,λ_ _ _=>Yp⟩
 refine⟨by lia,by lia,J,(hJ 0 _ _).mpr ⟨[],[],_,_,_,_,_,_,_,s4,hi4,⟨rfl,λi I y h=>by simp at h⟩,rfl,λk I h=>by simp at h,λI h=>(nomatch h),rfl⟩,λj σ M' h=>trivial,?_,?_⟩
 ·rintro i u σ M' hu h;obtain⟨Is,ys,v9,v10,v11,v12,v13,v14,v15,s,hys,hI,il,inm,io,rfl⟩:=(hJ _ _ _).mp h;obtain⟨hi,rfl⟩:=AI hu;have hi:i<m:=by simpa using hi
  have hyl:=hI.len;have bk:∀x,M' x=none->M4 x=none:=λx hx=>by
   by_cases e:x=pi
   ·subst e;rw[hys]at hx;cases hx
   ·rw[only x e];exact s.free hx
  rw[NR];walk_at "s";refine⟨sz,20+(0+(i:Nat)),rfl,?_⟩;obtain⟨r0,r1⟩:=FH sz (20+(0+(i:Nat)));generalize Yr sz (20+(0+(i:Nat)))=mr at*;have hn5:=s _ _ (s3 _ _ hn2);rw[NQ]
  repeat (first|walk_at "s"|simp only[hn5])
  intro po hpo;obtain⟨zo,hzo,zol,zond,zoin⟩:∃zo:List Str,cutM (zs.map MV.str) (some 11) (some (11+mr%5))=zo.map MV.str/\zo.length≤6/\zo.Nodup/\∀z∈zo,z∈zs:=by
   refine⟨(zs.drop (HT.sIx (zs.map MV.str).length 0 (some 11))).take (HT.sIx (zs.map MV.str).length (zs.map MV.str).length (some (11+mr%5)) - HT.sIx (zs.map MV.str).length 0 (some 11)),?_,?_,?_,λz hz=>List.mem_of_mem_drop (CK hz)⟩
   ·unfold cutM;rw[List.map_take,List.map_drop]
   ·have e1:HT.sIx (zs.map MV.str).length 0 (some 11)=11:=by
     have:=HT.sIx_nat (zs.map MV.str).length 0 11;rw[X7,zl]at this ⊢;exact this
    rw[Yz,V8,e1];lia
   ·exact(znd.sublist (List.drop_sublist ..)).sublist (CN ..)
  rw[hzo];have s5:=SameM.new hpo (.lst (zo.map MV.str));have ho5:updM M' po (.lst (zo.map MV.str)) po=some (.lst (zo.map MV.str)):=Xh;generalize updM M' po _=M5 at*;rw[NP];walk_at "s";refine Cp (XM ((ns.length:Int) - 3).toNat) (λk=>.int (3+(k:Nat))) (λk=>.int (ns.getD (3+k) 0%1000000007)) (λk=>decide ((3+(k:Int) - 3)%(m:Int)=0+(i:Nat))) ?_ ?_ hΦ λpc hpc=>?_
  ·walk_at "s";rw[X7];refine⟨⟨by lia,by lia⟩,rfl,by rw[YW];lia,trivial⟩
  ·intro k hk M6 s6;have hk:k<((ns.length:Int) - 3).toNat:=V9.mp hk;have hkn:3+k<ns.length:=by lia
   simp only[sCm,XA,Y8,Yh,Yi,Ye,Y7];walk_at "s";refine⟨by lia,λ_=>⟨.int ns[3+k],?_,?_⟩⟩
   ·have e:(3:Int)+(k:Nat)=((3+k:Nat):Int):=by lia
    rw[e];exact XQ (by rw[Xo,X8 hkn];rfl)
   ·walk_at "s";rw[Ym,X8 hkn];rfl
  obtain⟨cs,hcs,csl⟩:∃cs:List Int,((XM ((ns.length:Int) - 3).toNat).filter (λk:Nat=>decide ((3+(k:Int) - 3)%(m:Int)=0+(i:Nat)))).map (λk=>MV.int (ns.getD (3+k) 0%1000000007))=cs.map MV.int/\cs.length≤63:=by
   refine⟨((XM ((ns.length:Int) - 3).toNat).filter (λk:Nat=>decide ((3+(k:Int) - 3)%(m:Int)=0+(i:Nat)))).map (λk=>ns.getD (3+k) 0%1000000007),by rw[Y9];rfl,?_⟩
   rw[X7];exact Y3 (List.length_filter_le ..) (by rw[YW];lia)
  rw[hcs];have s6:=SameM.new hpc (.lst (cs.map MV.int));have hc6:updM M5 pc (.lst (cs.map MV.int)) pc=some (.lst (cs.map MV.int)):=Xh;generalize updM M5 pc _=M6 at*;rw[NO]
  repeat (first|walk_at "s"|simp only[hc6])
  obtain⟨ln,hln,hln2⟩:∃ln:Nat,(if(12:Int)<((cs.map MV.int).length:Nat)then(12:Int)else((cs.map MV.int).length:Nat))=(ln:Int)/\ln=min 12 cs.length:=by
   rw[X7];by_cases h:(12:Int)<(cs.length:Nat)
   ·rw[if_pos h];exact⟨12,rfl,by lia⟩
   ·rw[if_neg h];exact⟨cs.length,rfl,by lia⟩
  rw[hln,NN];walk_at "s";refine Jf (XM zo.length) (λj=>.int (0+(j:Nat))) (λj=>.tup [.str (zo.getD j default),.int (Vr (Yr mr (0+(j:Nat))) wd)]) ?_ ?_ hΦ λpp M7 hpp s7 hp7=>?_
  ·repeat (first|walk_at "s"|simp only[s6 _ _ ho5])
   rw[X7];exact⟨by lia,by lia,rfl,by rw[YW];lia,trivial,λ_ _ e=>e⟩
  ·intro j hj M7 s7;have hj:j<zo.length:=V9.mp hj;simp only[sCm,XA,Y8,Yh,Yi,Ye,Y7]
   repeat (first|walk_at "s"|simp only[s7 _ _ (s6 _ _ ho5)])
   refine⟨_,WP (k:=j) (by lia) (X8 hj),?_⟩
   try walk_at "s"
   refine⟨mr,_,rfl,?_⟩
   try walk_at "s"
   refine⟨_,wd,rfl,wd2,λM8 s8=>?_⟩
   try walk_at "s"
   refine⟨?_,s8⟩;rw[Ym,X8 hj];rfl
  have s7:SameM M6 M7:=s7;obtain⟨prs,hprs⟩:∃prs:List (Str×Int),(XM zo.length).map (λj:Nat=>(zo.getD j default,Vr (Yr mr (0+(j:Nat))) wd))=prs:=⟨_,rfl⟩;have hp7:M7 pp=some (.lst (prs.map prV)):=by rw[hp7,<- hprs,Y9];rfl
  have hzi:=X8 (show i<zs.length by lia)
  generalize zs[i]'(by lia)=zi at*
  have s57:=(s5.trans s6).trans s7;have hf7:=s57 _ _ (s _ _ hf);rw[NM];walk_at "s";refine ZiO (cs.take 12) MV.int (λ_ y=>∃S:Stp,y=S.mv/\(U8 (F.map (·.name)) zo ln S/\WI F zi S)) ?_ ?_ hΦ λps M8 yss hps s8 ysl hyr hs8=>?_
  ·repeat (first|walk_at "s"|simp only[s7 _ _ hc6])
   intro p hp;have e12:=Zfi (cs.map MV.int) 12;have e12:cutM (cs.map MV.int) none (some 12)=(cs.take 12).map MV.int:=by rw[List.map_take];exact e12
   rw[e12]
   try walk_at "s"
   refine⟨rfl,by rw[Yz];lia,?_,SameM.new hp _⟩
   exact Xh
  ·intro c hc M8 s8;simp only[sCm,XA,Y8,Yh,Yi,Ye,Y7];walk_at "s";refine⟨c,4,rfl,?_⟩
   repeat (first|walk_at "s"|simp only[s8 _ _ (s57 _ _ hn5)])
   refine⟨_,WP (k:=i) (by lia) hzi,?_⟩
   try walk_at "s"
   refine⟨_,zi,pf,po,F,zo,ln,rfl,s8 _ _ hf7,fl,ndF,s8 _ _ ((s6.trans s7) _ _ ho5),zol,by lia,λS M9 s9 si se=>?_⟩
   exact⟨⟨S,rfl,si,se⟩,s9⟩
  obtain⟨ss,rfl,ssl,ssP⟩:=Pt ysl hyr;have ssl:ss.length=ln:=by rw[ssl,Yz];lia
  have s78:=s57.trans s8;rw[NL]
  repeat (first|walk_at "s"|simp only[s78 _ _ hn5,s78 _ _ hys])
  refine⟨⟨_,rfl⟩,_,WP (k:=i) (by lia) hzi,?_⟩
  repeat (first|walk_at "s"|simp only[s78 _ _ hys])
  have vars:prs.map (·.1)=zo:=by
   rw[<- hprs,Y9];apply A1;intro k;rw[Xo];by_cases hk:k<zo.length
   ·rw[List.getElem?_range hk,X8 hk];show some (zo.getD k default)=_;rw[Ym,X8 hk];rfl
   ·rw[Ud (by rw[YW];lia),Ud (by lia)];rfl
  have prl:prs.length=zo.length:=by rw[<- vars,X7]
  have n1:M4 pp=none:=bk _ ((s5.trans s6).free hpp);have n2:M4 ps=none:=bk _ (s57.free hps);have s8':∀x o,M8 x=some o->M4 x=none->updM M8 pi (.lst (ys++[.tup [.str zi,.ref pp,.ref ps]])) x=some o:=λx o h n=>by
   rw[XD (λe=>by subst e;rw[hi4]at n;cases n)];exact h
  refine⟨by lia,(hJ _ _ _).mpr ⟨Is++[⟨zi,prs,ss⟩],_,_,_,_,_,_,_,_,(s.trans s78).upd hpi _,Xh,?_,by rw[Y0,il];rfl,λk I hk=>?_,λI hI'=>?_,rfl⟩⟩
  ·refine(hI.keep λx o h n=>s8' x o (s78 _ _ h) n).add (I:=⟨zi,prs,ss⟩) n1 n2 (s8' _ _ (s8 _ _ hp7) n1) (s8' _ _ hs8 n2)
  ·rcases VX hk with⟨_,hk⟩|⟨rfl,rfl⟩
   ·exact inm k I hk
   ·rw[il];exact hzi
  ·rcases Yf.mp hI' with h'|h'
   ·exact io I h'
   ·rw[Y6]at h';subst h';refine⟨⟨by show prs.length≤6;lia,by show ss.length≤12;lia,?_,?_,?_,?_⟩,λS hS=>(ssP S hS).2⟩
    ·show(prs.map (·.1)).Nodup;rw[vars];exact zond
    ·intro x hx;have hx:x∈prs.map (·.1):=hx;rw[vars]at hx;exact zg x (zoin x hx)
    ·intro x hx;have hx:x∈prs:=hx;rw[<- hprs]at hx;obtain⟨j,_,rfl⟩:=XU.mp hx;exact Zdn _ _
    ·intro S hS;show U8 _ (prs.map (·.1)) ss.length S;rw[vars,ssl];exact(ssP S hS).1
 ·rintro σ M' h;obtain⟨Is,ys,v9,v10,v11,v12,v13,v14,v15,s,hys,hI,il,inm,io,rfl⟩:=(hJ _ _ _).mp h;have il:Is.length=m:=il.trans (UN m);rw[NK];walk_at "s";have s03:=((s0.trans s1).trans s2).trans s3;have eI:Is.map (·.name)=zs.take m:=by
   apply A1;intro k;by_cases hk:k<m
   ·rw[Xo,Bg hk,X8 (show k<Is.length by lia),inm k _ (X8 (show k<Is.length by lia))];rfl
   ·rw[Ud (by rw[X7];lia),Ud (by rw[Yz];lia)]
  have eF:∀z∈F.map (·.name),∃j:Nat,j<F.length/\zs[5+j]?=some z:=λz hz=>by
   obtain⟨f,hf,rfl⟩:=XU.mp hz;obtain⟨j,hj,rfl⟩:=Yn hf;exact⟨j,hj,fn j _ (X8 hj)⟩
  refine q ⟨wd,Is,F⟩ pi pf ys M' (s03.trans s) ?_ (s03.free hpi) (((s0.trans s1).trans s2).free hpf) (neM hf hpi).symm hys hI.inn (s _ _ hf);refine⟨wd1,wd2,by show Is.length≤5;lia,by show F.length≤6;exact fl,λz hz=>?_,λz hz=>?_,?_,λI hi=>(io I hi).1,λf hf=>?_,λI hi=>(io I hi).2⟩
  ·obtain⟨j,_,e⟩:=eF z hz;exact zg z (XG e)
  ·have hz:z∈Is.map (·.name):=hz;rw[eI]at hz;exact zg z (CK hz)
  ·show(F.map (·.name)++Is.map (·.name)).Nodup;rw[Zb,eI];refine⟨ndF,znd.sublist (CN ..),λa ha b hb e=>?_⟩;subst e;obtain⟨j,_,e1⟩:=eF a ha;obtain⟨k,hk,e2⟩:=Yn hb;rw[Yz]at hk;rw[List.getElem_take]at e2;have:=(Vv (show k<zs.length by lia) znd).mp ((X8 (show k<zs.length by lia)).trans ((congrArg some e2).trans e1.symm))
   lia
  ·show FerOk (Is.map (·.name)) f;rw[eI];exact fo f hf
noncomputable abbrev VZ:SpM:=λvs M Q=>∃(W:Wld) (pi pf:Addr) (ys:List MV),vs=[.tup [.int W.w,.ref pi,.ref pf]]/\W.Good/\M pi=some (.lst ys)/\IslsIn M W.isl ys/\M pf=some (.lst (W.fer.map Fer.mv))/\∀M',SameM M M'->Q W.mv M'
theorem Pv:MonW VZ:=by walk_at "m"
theorem Zc4(T:Txt K mg t):FnOk P w K mg base CX0 57 t.f__law_made t.d__law_made ["parts"] (liSp K VZ):=by
 refine T.F__law_made.okM ZbU (Xx (Φ:=[("made",AV)]) (Xy T) (Xz T) rfl (fMc ⟨OQ,nl0⟩) (fMc ⟨⟨_,_,_,(FnOk.mono (ZkN T) (by decide)),T.m_made,T.F_made.kp,T.b_made⟩,nl0⟩):Fts P w K mg base 56 O3 [("made",AV)]) Fb ZcF (fun vs M Q h=>?_) (fun vs M Q h=>?_)
 ·obtain⟨_,_,_,_,rfl,_⟩:=h;rfl
 obtain⟨W,pi,pf,ys,rfl,G,hpi,hIs,hpf,q⟩:=h;show wSs _ _ _ [some (.tup [.int W.w,.ref pi,.ref pf]),none] M;have i5:=G.i5;have hyl:=hIs.1;have hΦ:=(Uk (Φ:=[("made",AV)]) (fMc ⟨OQ,nl0⟩));rw[Fb,O2];walk_at "s";refine OR (W.isl.zip ys) (·.2) (λx y N M2=>∃a b,N=[a,b]/\y=.tup [.str x.1.name,.ref a,.ref b]/\M2 a=some (.lst (x.1.prs.map prV))/\M2 b=some (.lst (x.1.stps.map Stp.mv))) (λM1=>M1=M) ?_ ?_ ?_ hΦ λD zs Ns M1 hD s1 l1 l2 nd1 dn1 fr1 at1 hd1=>?_
 ·rintro x y N M2 M3 hk ⟨a,b,rfl,e1,e2,e3⟩;exact⟨a,b,rfl,e1,by rw[hk a (by simp)];exact e2,by rw[hk b (by simp)];exact e3⟩
 ·repeat (first|walk_at "s"|simp only[hpi])
  exact⟨show ys=(W.isl.zip ys).map (·.2)from(List.map_snd_zip (by lia)).symm,by rw[Uu];lia,.inl ⟨hpi,rfl⟩⟩
 ·rintro⟨I,y⟩ hx M1 M' rfl s;obtain⟨i,e1,e2⟩:=FD hx;obtain⟨a,b,rfl,h1,h2⟩:=hIs.2 i I y e1 e2;have h1':=s _ _ h1;have h2':=s _ _ h2;simp only[sCm,XA,Y8,Yh,Yi,Ye,Y7]
  repeat (first|walk_at "s"|simp only[h1'])
  intro p hp;have sp:=SameM.new hp (.lst (I.prs.map prV));have hpp:updM M' p (.lst (I.prs.map prV)) p=some (.lst (I.prs.map prV)):=Xh;have hb2:=sp _ _ h2'
  repeat (first|walk_at "s"|simp only[hb2])
  intro p' hp';have sp':=SameM.new hp' (.lst (I.stps.map Stp.mv));refine⟨sp.trans sp',[p,p'],by simp[neM hpp hp'],?_,p,p',rfl,rfl,sp' _ _ hpp,Xh⟩
  intro x hx;simp only[Xu,Yd,or_false]at hx;rcases hx with rfl|rfl
  ·exact⟨hp,_,sp' _ _ hpp⟩
  ·exact⟨sp.free hp',_,Xh⟩
 rw[O1];walk_at "s";have hpf1:=s1 _ _ hpf
 repeat (first|walk_at "s"|simp only[hpf1])
 intro p2 hp2;have s2:=SameM.new hp2 (.lst (W.fer.map Fer.mv));have h2:updM M1 p2 (.lst (W.fer.map Fer.mv)) p2=some (.lst (W.fer.map Fer.mv)):=Xh;generalize updM M1 p2 _=M2 at*;refine⟨D,p2,zs,W,rfl,s2 _ _ hd1,⟨by rw[l1,Uu];lia,λi I y hI hy=>?_⟩,h2,G,λM3 s3=>?_⟩
 ·have hi:i<ys.length:=by rw[hyl];exact(XE.mp hI).1
  have hN:i<Ns.length:=by rw[l2,Uu];lia
  obtain⟨a,b,_,e,h1,h2⟩:=at1 i (I,ys[i]) y _ (FE hI (X8 hi)) hy (X8 hN);exact⟨a,b,e,s2 _ _ h1,s2 _ _ h2⟩
 ·try walk_at "s"
  exact q _ ((s1.trans s2).trans s3)
theorem StdAt.own_at{W:Wld}{S:Std}{M:MH}{A:StA}(h:StdAt W S M A){c:Nat}(hS:SOk W c S){a:Addr}(ha:a∈A.own\/a∈A.ws):∃o,M a=some o:=by
 rcases ha with z|z
 ·unfold StA.own at z;simp only[Xu]at z;rcases z with z|z|z|z|z
  ·exact⟨_,z▸h.n⟩
  ·exact⟨_,z▸h.w⟩
  ·exact⟨_,z▸h.g⟩
  ·exact⟨_,z▸h.t⟩
  ·obtain⟨j,hj,rfl⟩:=Yn z;have hj2:j<S.giv.length:=by rw[hS.gl,<- h.gl];exact hj
   exact⟨_,h.gv j _ _ (X8 hj) (X8 hj2)⟩
 ·obtain⟨j,hj,rfl⟩:=Yn z;have hj2:j<S.wd.length:=by rw[hS.wl,<- h.wl];exact hj
  exact⟨_,h.wv j _ _ (X8 hj) (X8 hj2)⟩
theorem StdAt.offd{W:Wld}{S:Std}{M:MH}{A:StA}(h:StdAt W S M A){D:Addr}(n1:D∉A.own)(n2:D∉A.ws)(o:MO):StdAt W S (updM M D o) A:=by
 have k:∀{a:Addr} {u:MO},a∈A.own\/a∈A.ws->M a=some u->updM M D o a=some u:=λha e=>by
  rw[XD λz=>by subst z;exact ha.elim n1 n2];exact e
 exact⟨k (.inl (by simp[StA.own])) h.n,k (.inl (by simp[StA.own])) h.w,k (.inl (by simp[StA.own])) h.g,k (.inl (by simp[StA.own])) h.t,h.wl,h.gl,
  λi a kv x y=>k (.inr (XG x)) (h.wv i a kv x y),λi a kv x y=>k (.inl (Cv (XG x))) (h.gv i a kv x y)⟩
noncomputable def WQ(W:Wld):Nat->Std
 |0=>Y1 W
 |k+1=>FA W (WQ W k)
theorem B5{W:Wld}(G:W.Good):∀k:Nat,SOk W (5*k) (WQ W k)
 |0=>Pa G
 |k+1=>by
  have:=(Fz G (B5 G k) W.isl.length).1;have i5:=G.i5;exact this.up (by lia)
noncomputable def StA.has(A:StA)(a:Addr):Prop:=a∈A.own\/a∈A.ws
structure StFresh (M:MH) (A:StA):Prop where
 nd:A.own.Nodup
 ws:∀a∈A.ws,a∉A.own
 fr:∀a,A.has a->M a=none
theorem StA.New.fresh{A:StA}{M:MH}(h:A.New M)(w:∀a∈A.ws,M a=none):StFresh M A:=⟨h.nd,h.ws,λa ha=>ha.elim (h.fr a) (w a)⟩
theorem StFresh.back{M M':MH}{A:StA}(h:StFresh M' A)(s:SameM M M'):StFresh M A:=⟨h.nd,h.ws,λa ha=>s.free (h.fr a ha)⟩
structure RunAt (W:Wld) (M0 M:MH) (p:Addr) (As:List StA):Prop where
 l:M p=some (.lst (As.map StA.mv))
 st:∀(i:Nat) A,As[i]?=some A->StdAt W (WQ W i) M A
 fr:∀A∈As,StFresh M0 A
 np:∀A∈As,¬A.has p
 ap:∀(i j:Nat) A B,i≠j->As[i]?=some A->As[j]?=some B->∀a,A.has a->¬B.has a
theorem StdAt.alive{W:Wld}{c:Nat}{S:Std}{M:MH}{A:StA}(h:StdAt W S M A)(hS:SOk W c S){a:Addr}(ha:A.has a):∃o,M a=some o:=h.own_at hS ha
theorem StdAt.offh{W:Wld}{S:Std}{M:MH}{A:StA}(h:StdAt W S M A){D:Addr}(n:¬A.has D)(o:MO):StdAt W S (updM M D o) A:=h.offd (λz=>n (.inl z)) (λz=>n (.inr z)) o
theorem RunAt.add{W:Wld}(G:W.Good){M0 M M1:MH}{p:Addr}{As:List StA}(h:RunAt W M0 M p As)(s0:SameM M0 M)(s:SameM M M1){A:StA}(hA:StdAt W (WQ W As.length) M1 A)(fr:StFresh M A)(hp0:M0 p=none):
  RunAt W M0 (updM M1 p (.lst (As.map StA.mv++[A.mv]))) p (As++[A]):=by
 have nA:¬A.has p:=λz=>by have:=fr.fr p z;rw[h.l]at this;cases this
 refine⟨by rw[Xh,YD];rfl,λi B hB=>?_,λB hB=>?_,λB hB=>?_,λi j B C ij hB hC a ha hc=>?_⟩
 ·rcases VX hB with⟨_,hB⟩|⟨rfl,rfl⟩
  ·exact((h.st i B hB).keep s).offh (h.np B (XG hB)) _
  ·exact hA.offh nA _
 ·rcases Yf.mp hB with hB|hB
  ·exact h.fr B hB
  ·rw[Y6]at hB;subst hB;exact fr.back s0
 ·rcases Yf.mp hB with hB|hB
  ·exact h.np B hB
  ·rw[Y6]at hB;subst hB;exact nA
 ·rcases VX hB with⟨_,hB'⟩|⟨e1,rfl⟩<;>rcases VX hC with⟨_,hC'⟩|⟨e2,rfl⟩
  ·exact h.ap i j B C ij hB' hC' a ha hc
  ·obtain⟨o,ho⟩:=(h.st i B hB').alive (B5 G i) ha;rw[fr.fr a hc]at ho;cases ho
  ·obtain⟨o,ho⟩:=(h.st j C hC').alive (B5 G j) hc;rw[fr.fr a ha]at ho;cases ho
  ·lia
theorem ZlJ{xs:List MV}{k:Nat}{v:MV}(l:xs.length=k+1)(h:xs[k]?=some v):atI xs (-1)=some v:=by
 have e:=UM (l:=xs) (i:=k);rw[h,<- l,Bi]at e;rw[e];exact He _ _
noncomputable abbrev W0:SpM:=λvs M Q=>∃(W:Wld) (n:Nat),vs=[W.mv,.int n]/\W.Good/\n≤100/\∀M' p As,SameM M M'->M p=none->RunAt W M M' p As->As.length=n+1->Q (.ref p) M'
theorem Pw:MonW W0:=by walk_at "m"
theorem Zc0(T:Txt K mg t):FnOk P w K mg base CX0 54 t.f_run_plain t.d_run_plain ["world","n"] (liSp K W0):=by
 refine T.F_run_plain.okM ZbO (Xx (Φ:=[("first_stand",CA),("round_of",V0)]) (Xy T) (Xz T) rfl (fMc ⟨Z6B,(fMc ⟨FG,nl0⟩)⟩) (fMc ⟨⟨_,_,_,(FnOk.mono (Za1 T) (by decide)),T.m_first_stand,T.F_first_stand.kp,T.b_first_stand⟩,(fMc ⟨⟨_,_,_,(FnOk.mono (Pc T) (by decide)),T.m_round_of,T.F_round_of.kp,T.b_round_of⟩,nl0⟩)⟩):Fts P w K mg base 53 Mv [("first_stand",CA),("round_of",V0)]) EQ Zcz (fun vs M Q h=>?_) (fun vs M Q h=>?_)
 ·obtain⟨_,_,rfl,_⟩:=h;rfl
 obtain⟨W,n,rfl,G,hn,q⟩:=h;show wSs _ _ _ [some W.mv,some (.int n),none,none] M;rw[EQ,Mu];walk_at "s";refine⟨W,rfl,G,λM1 A s1 h1 n1 w1=>?_⟩;walk_at "s";intro p hp;have nA:¬A.has p:=λz=>by
  obtain⟨o,ho⟩:=h1.alive (Pa G) z;rw[hp]at ho;cases ho
 have R0:RunAt W M (updM M1 p (.lst [A.mv])) p [A]:=by
  refine⟨Xh,λi B hB=>?_,λB hB=>?_,λB hB=>?_,λi j B C ij hB hC=>?_⟩
  ·cases i with
   |zero=>cases hB;exact h1.offh nA _
   |succ i=>simp at hB
  ·rw[Y6]at hB;subst hB;exact n1.fresh w1
  ·rw[Y6]at hB;subst hB;exact nA
  ·cases i with
   |succ i=>simp at hB
   |zero=>
    cases j with
    |succ j=>simp at hC
    |zero=>exact(ij rfl).elim
 have s2:=s1.trans (SameM.new hp (.lst [A.mv]));have hp0:=s1.free hp;generalize updM M1 p _=M2 at*;rw[Mt];walk_at "s";obtain⟨J,hJ⟩:∃J:Nat->Sm->MH->Prop,∀j σ M',J j σ M'↔∃As v3,SameM M M'/\RunAt W M M' p As/\As.length=j+1/\σ=[some W.mv,some (.int n),some (.ref p),v3]:=⟨_,λ_ _ _=>Yp⟩;refine⟨by lia,by lia,J,(hJ 0 _ _).mpr ⟨[A],_,s2,R0,rfl,rfl⟩,λj σ M' h=>trivial,?_,?_⟩
 ·rintro k u σ M' hu h;obtain⟨As,v3,s,R,al,rfl⟩:=(hJ _ _ _).mp h;obtain⟨hk,rfl⟩:=AI hu;have hk:k<n:=by simpa using hk
  rw[Ms]
  repeat (first|walk_at "s"|simp only[R.l])
  obtain⟨Al,hAl⟩:∃Al,As[k]?=some Al:=⟨_,X8 (by lia)⟩
  refine⟨⟨_,rfl⟩,Al.mv,ZlJ (by rw[X7,al]) (by rw[Xo,hAl];rfl),?_⟩
  refine⟨W,WQ W k,Al,5*k,rfl,G,B5 G k,by lia,R.st k Al hAl,λM4 A4 q4 s4 h4 n4 w4 f4 d4=>?_⟩
  walk_at "s"
  repeat (first|walk_at "s"|simp only[s4 _ _ R.l])
  rw[X7];refine⟨by lia,(hJ _ _ _).mpr ⟨As++[A4],_,(s.trans s4).upd hp0 _,R.add G s s4 (by rw[al];exact h4) (n4.fresh w4) hp0,by rw[Y0,al];rfl,rfl⟩⟩
 ·rintro σ M' h;obtain⟨As,v3,s,R,al,rfl⟩:=(hJ _ _ _).mp h;have al:As.length=n+1:=al.trans (congrArg (·+1) (UN n));rw[Mr];walk_at "s";exact q M' p As s hp0 R al
noncomputable def YT(W:Wld)(S:Std)(k:Nat):Option Str:=match W.isl[k]? with
 |some I=>match I.stps[S.num.getD k 0]? with
  |some s=>if canM W S s then none else match s with
   |.take f _=>(W.fer[W.fat f]?).map (·.giver)
   |.give f _=>(W.fer[W.fat f]?).map (·.taker)
   |_=>none
  |none=>none
 |none=>none
noncomputable def optV:Option Str->MV
 |some z=>.str z
 |none=>.non
theorem WR{W:Wld}{f:Str}(h:f∈W.fns):∃F,W.fer[W.fat f]?=some F/\F.name=f:=by
 obtain⟨a,b⟩:=U9 h;refine⟨_,X8 b,?_⟩;unfold Wld.fns at a;rw[Xo,X8 b]at a;exact Yg a
noncomputable abbrev CC:SpM:=λvs M Q=>∃(W:Wld) (S:Std) (A:StA) (c i:Nat) (I:Isl),vs=[W.mv,A.mv,.str I.name]/\W.Good/\SOk W c S/\StdAt W S M A/\W.isl[i]?=some I/\Q (optV (YT W S i)) M
theorem Z8w:MonW CC:=by walk_at "m"
theorem ZbZ(T:Txt K mg t):FnOk P w K mg base CX0 52 t.f_waits_for t.d_waits_for ["world","stand","name"] (liSp K CC):=by
 refine T.F_waits_for.okM ZbN (Xx (Φ:=[("can_be",WN),("ferry_of",WL),("wish_of",WM)]) (Xy T) (Xz T) rfl (fMc ⟨P5,(fMc ⟨OZ,(fMc ⟨P2,nl0⟩)⟩)⟩) (fMc ⟨⟨_,_,_,(FnOk.mono (P6 T) (by decide)),T.m_can_be,T.F_can_be.kp,T.b_can_be⟩,(fMc ⟨⟨_,_,_,(FnOk.mono (P0 T) (by decide)),T.m_ferry_of,T.F_ferry_of.kp,T.b_ferry_of⟩,(fMc ⟨⟨_,_,_,(FnOk.mono (P3 T) (by decide)),T.m_wish_of,T.F_wish_of.kp,T.b_wish_of⟩,nl0⟩)⟩)⟩):Fts P w K mg base 51 MA [("can_be",WN),("ferry_of",WL),("wish_of",WM)]) ET Zcy (fun vs M Q h=>?_) (fun vs M Q h=>?_)
 ·obtain⟨_,_,_,_,_,_,rfl,_⟩:=h;rfl
 obtain⟨W,S,A,c,i,I,rfl,G,hS,hA,hI,q⟩:=h;show wSs _ _ _ [some W.mv,some A.mv,some (.str I.name),none,none] M;unfold YT at q;rw[hI]at q;dsimp only at q;rw[ET,Mz];walk_at "s";refine⟨W,S,A,c,i,I,rfl,G,hS,hA,hI,?_⟩;rw[Mx];cases hs:I.stps[S.num.getD i 0]? with
 |none=>
  rw[hs]at q;have e:dueM I.stps (rhoK (S.wd.getD i [])) W.w (S.num.getD i 0)=.non:=by unfold dueM;rw[hs]
  rw[e];walk_at "s";rw[ES];walk_at "s";exact q
 |some s=>
  rw[hs]at q;dsimp only at q;rw[P4 hs];have si:=VU G hI hs;have hnn:YX (askM s (rhoK (S.wd.getD i [])) W.w)=false:=by cases s<;>rfl
  repeat (first|walk_at "s"|simp only[hnn])
  refine⟨W,S,A,c,s,rhoK (S.wd.getD i []),I.vars,_,rfl,G,hS,hA,si,?_⟩;by_cases hc:canM W S s=true
  ·rw[if_pos hc]at q;rw[hc];walk_at "s";rw[ES];walk_at "s";exact q
  ·rw[if_neg hc]at q;have hc:canM W S s=false:=by simpa using hc
   rw[hc];walk_at "s";rw[Mw];cases s with
   |take f x=>
    obtain⟨F,hF,fn⟩:=WR si.1;dsimp only at q;rw[hF]at q;simp only[askM];walk_at "s";refine⟨W,W.fat f,F,by rw[fn],G,hF,?_⟩
    rw[ER,Fer.mv];walk_at "s";exact q
   |give f T=>
    obtain⟨F,hF,fn⟩:=WR si.1;dsimp only at q;rw[hF]at q;simp only[askM];walk_at "s";refine⟨W,W.fat f,F,by rw[fn],G,hF,?_⟩
    rw[ER,Fer.mv];walk_at "s";exact q
   |put x T=>cases hc
   |jump T k=>cases hc
noncomputable def V3(W:Wld)(S:Std):Nat->List Str->Option Str->List Str
 |0,ns,_=>ns
 |_+1,ns,none=>ns
 |m+1,ns,some z=>if z∈ns then ns++[z]else V3 W S m (ns++[z]) (YT W S (W.ins.idxOf z))
theorem FN{W:Wld}(G:W.Good){S:Std}{k:Nat}{z:Str}(h:YT W S k=some z):z∈W.ins:=by
 unfold YT at h;split at h
 ·rename_i I hI
  split at h
  ·rename_i s hs
   have si:=VU G hI hs;split at h
   ·cases h
   ·cases s with
    |take f x=>
     obtain⟨F,hF,_⟩:=WR si.1;dsimp only at h;rw[hF]at h;cases h;exact(G.fo F (XG hF)).g
    |give f T=>
     obtain⟨F,hF,_⟩:=WR si.1;dsimp only at h;rw[hF]at h;cases h;exact(G.fo F (XG hF)).t
    |put x T=>cases h
    |jump T k=>cases h
  ·cases h
 ·cases h
theorem Px{W:Wld}{z:Str}(h:z∈W.ins):∃I,W.isl[W.ins.idxOf z]?=some I/\I.name=z:=by
 have l:W.ins.idxOf z<W.ins.length:=FS.mpr h;have e:W.ins[W.ins.idxOf z]?=some z:=by rw[X8 l,List.getElem_idxOf l]
 unfold Wld.ins at e;rw[Xo]at e;cases hI:W.isl[(A7 (λx=>x.name) W.isl).idxOf z]? with
 |none=>rw[hI]at e;cases e
 |some I=>rw[hI]at e;exact⟨I,hI,Yg e⟩
theorem B6:∀{ns zs:List Str},ns.Nodup->(∀z∈ns,z∈zs)->ns.length≤zs.length
 |[],_,_,_=>YN _
 |a::ns,zs,nd,h=>by
  rw[YH]at nd;have ha:=h a (Ya ..);have:=B6 (zs:=zs.erase a) nd.2 λz hz=>(List.mem_erase_of_ne (λe=>nd.1 (by rw[<- e];exact hz))).mpr (h z (Y5 _ hz))
  rw[List.length_erase_of_mem ha]at this;have:=List.length_pos_of_mem ha;rw[YG];lia
noncomputable abbrev W3:SpM:=λvs M Q=>∃(W:Wld) (S:Std) (A:StA) (c i:Nat) (I:Isl),vs=[W.mv,A.mv,.str I.name]/\W.Good/\SOk W c S/\StdAt W S M A/\W.isl[i]?=some I/\
 ∀M' p,SameM M M'->M p=none->M' p=some (.lst ((V3 W S (W.isl.length+1) [I.name] (YT W S i)).map MV.str))->Q (.ref p) M'
theorem Py:MonW W3:=by walk_at "m"
theorem Zim(T:Txt K mg t):FnOk P w K mg base CX0 53 t.f_chain t.d_chain ["world","stand","name"] (liSp K W3):=by
 refine T.F_chain.okM Zi0 (Xx (Φ:=[("waits_for",CC)]) (Xy T) (Xz T) rfl (fMc ⟨Z8w,nl0⟩) (fMc ⟨⟨_,_,_,(FnOk.mono (ZbZ T) (by decide)),T.m_waits_for,T.F_waits_for.kp,T.b_waits_for⟩,nl0⟩):Fts P w K mg base 52 ML [("waits_for",CC)]) EU ZiQ (fun vs M Q h=>?_) (fun vs M Q h=>?_)
 ·obtain⟨_,_,_,_,_,_,rfl,_⟩:=h;rfl
 obtain⟨W,S,A,c,i,I,rfl,G,hS,hA,hI,q⟩:=h;show wSs _ _ _ [some W.mv,some A.mv,some (.str I.name),none,none,none] M;rw[EU,MK];walk_at "s";intro p hp;have s0:=SameM.new hp (.lst [.str I.name]);have hp0:updM M p (.lst [.str I.name]) p=some (.lst ([I.name].map MV.str)):=Xh;generalize updM M p _=M0 at*;rw[MJ];walk_at "s";refine⟨W,S,A,c,i,I,rfl,G,hS,hA.keep s0,hI,?_⟩;rw[MI];walk_at "s";have i5:=G.i5;have li:W.ins.length=W.isl.length:=by unfold Wld.ins;rw[X7]
 have hIn:I.name∈W.ins:=XG (Z0 hI);obtain⟨J,hJ⟩:∃J:Nat->Sm->MH->Prop,∀m σ M',J m σ M'↔∃(ns:List Str) (wo:Option Str) (v5:Option MV),SameM M M'/\M' p=some (.lst (ns.map MV.str))/\ns.Nodup/\(∀z∈ns,z∈W.ins)/\(∀z,wo=some z->z∈W.ins)/\ns.length+m=W.isl.length+2/\V3 W S m ns wo=V3 W S (W.isl.length+1) [I.name] (YT W S i)/\σ=[some W.mv,some A.mv,some (.str I.name),some (.ref p),some (optV wo),v5]:=⟨_,λ_ _ _=>Yp⟩;refine⟨J,⟨W.isl.length+1,(hJ _ _ _).mpr ⟨[I.name],_,_,s0,hp0,by simp,λz hz=>by rw[Y6]at hz;rw[hz];exact hIn,λz hz=>FN G hz,by simp;lia,rfl,rfl⟩⟩,?_⟩
 rintro m σ M' h;obtain⟨ns,wo,v5,s,hd,nd,nin,win,nm,ch,rfl⟩:=(hJ _ _ _).mp h;have nl:=B6 nd nin;obtain⟨m',rfl⟩:∃m',m=m'+1:=⟨m - 1,by lia⟩
 cases wo with
 |none=>
  have ch:ns=_:=ch;simp only[optV];walk_at "s";rw[MB];walk_at "s";exact q M' p s hp (by rw[hd];exact congrArg (λx=>some (MO.lst (A7 MV.str x))) ch)
 |some z=>
  have zi:=win z rfl;obtain⟨Iz,hIz,en⟩:=Px zi;simp only[optV];walk_at "s";rw[MG];walk_at "s";refine .inl ⟨_,hd,rfl,UX _,?_⟩;rw[UW,MF]
  repeat (first|walk_at "s"|simp only[hd])
  rw[X7];refine⟨⟨_,rfl⟩,by lia,?_⟩
  have s1:=s.upd hp (.lst (ns.map MV.str++[.str z]));have hd1:updM M' p (.lst (ns.map MV.str++[.str z])) p=some (.lst ((ns++[z]).map MV.str)):=by rw[Xh,YD];rfl
  generalize updM M' p _=M1 at*;rw[ME];walk_at "s";by_cases hz:z∈ns
  ·rw[if_pos hz,MD];walk_at "s";have ch:(if z∈ns then ns++[z]else _)=_:=ch;rw[if_pos hz]at ch;exact q M1 p s1 hp (by rw[hd1];exact congrArg (λx=>some (MO.lst (A7 MV.str x))) ch)
  ·rw[if_neg hz,MC];walk_at "s";refine⟨W,S,A,c,W.ins.idxOf z,Iz,by rw[en],G,hS,hA.keep s1,hIz,?_⟩
   have ch:(if z∈ns then _ else V3 W S m' (ns++[z]) (YT W S (W.ins.idxOf z)))=_:=ch;rw[if_neg hz]at ch;refine⟨m',Bu _,(hJ _ _ _).mpr ⟨ns++[z],_,_,s1,hd1,?_,λy hy=>?_,λy hy=>FN G hy,by rw[Y0];simp;lia,ch,rfl⟩⟩
   ·rw[Zb];exact⟨nd,by simp,λa ha b hb e=>by rw[Y6]at hb;subst hb;subst e;exact hz ha⟩
   ·rcases Yf.mp hy with hy|hy
    ·exact nin y hy
    ·rw[Y6]at hy;rw[hy];exact zi
theorem Pz:∀{ks:List Str} {vs:List MV} {k:Key} {u:MV},(k,u)∈zipK ks vs->∃(i:Nat) (z:Str),ks[i]?=some z/\k=XB z/\vs[i]?=some u
 |[],_,_,_,h=>by cases h
 |_::_,[],_,_,h=>by cases h
 |a::ks,b::vs,k,u,h=>by
  rcases Xu.mp h with h|h
  ·cases h;exact⟨0,a,rfl,rfl,rfl⟩
  ·obtain⟨i,z,h1,h2,h3⟩:=Pz h;exact⟨i+1,z,by simpa using h1,h2,by simpa using h3⟩
theorem CD{M:MH}{ks:List Str}(nd:ks.Nodup){vs vs':List MV}{a b:Addr}{n:Nat}(l:vs.length=ks.length)(l':vs'.length=ks.length)(h:M a=some (.dic (zipK ks vs)))(h':M b=some (.dic (zipK ks vs')))
  (e:∀(i:Nat) u v,vs[i]?=some u->vs'[i]?=some v->Alike M n u v):Alike M (n+1) (.ref a) (.ref b):=by
 refine Alike.dic h h' (by rw[VS l,VS l']) λk u hu=>?_
 obtain⟨i,z,hz,rfl,hi⟩:=Pz hu;have hin:=(XE.mp hz).1;have hv:=X8 (show i<vs'.length by rw[l'];exact hin)
 exact⟨_,UY nd hz hv,e i u _ hi hv⟩
theorem ZhB{W:Wld}(G:W.Good){c:Nat}{S:Std}(hS:SOk W c S){M:MH}{A B:StA}(h:StdAt W S M A)(h':StdAt W S M B):Alike M 4 A.mv B.mv:=by
 have li:W.ins.length=W.isl.length:=by unfold Wld.ins;rw[X7]
 have lf:W.fns.length=W.fer.length:=by unfold Wld.fns;rw[X7]
 have flat:∀{ns:List Nat} (i:Nat) u v,(ns.map natM)[i]?=some u->(ns.map natM)[i]?=some v->Alike M 2 u v:=λi u v a b=>by
  rw[a]at b;cases b;obtain⟨_,rfl⟩:=Yq a;exact Alike.flat 2 rfl
 refine Alike.tup rfl λi u v hu hv=>?_
 match i,hu,hv with
 |0,hu,hv=>
  cases hu;cases hv;exact CD G.in_nd (by rw[X7,hS.nl,li]) (by rw[X7,hS.nl,li]) h.n h'.n flat
 |1,hu,hv=>
  cases hu;cases hv;refine CD G.in_nd (by rw[X7,h.wl,li]) (by rw[X7,h'.wl,li]) h.w h'.w λi u v a b=>?_
  obtain⟨hi,rfl⟩:=Yq a;obtain⟨hi',rfl⟩:=Yq b;have hI:=X8 (show i<W.isl.length by rw[<- h.wl];exact hi)
  have hk:=Vq hS hI;have fl:=(hS.wi i _ _ hI hk).nodup (G.io _ (XG hI)).nd;exact Alike.dicFlat 1 (h.wv i _ _ (X8 hi) hk) (h'.wv i _ _ (X8 hi') hk) fl.1 fl.2
 |2,hu,hv=>
  cases hu;cases hv;refine CD G.fn_nd (by rw[X7,h.gl,lf]) (by rw[X7,h'.gl,lf]) h.g h'.g λi u v a b=>?_
  obtain⟨hi,rfl⟩:=Yq a;obtain⟨hi',rfl⟩:=Yq b;have hg:i<S.giv.length:=by rw[hS.gl,<- h.gl];exact hi
  refine Alike.lstFlat 1 (.inr ⟨_,rfl,h.gv i _ _ (X8 hi) (X8 hg)⟩) (.inr ⟨_,rfl,h'.gv i _ _ (X8 hi') (X8 hg)⟩) λv hv=>?_;obtain⟨x,_,rfl⟩:=XU.mp hv;rfl
 |3,hu,hv=>
  cases hu;cases hv;exact CD G.fn_nd (by rw[X7,hS.tl,lf]) (by rw[X7,hS.tl,lf]) h.t h'.t flat
 |n+4,hu,_=>simp at hu
theorem PB{W:Wld}{S:Std}{z:Str}:∀i:Nat,z∈(XV W S i).2↔∃j I s,j<i/\W.isl[j]?=some I/\I.name=z/\YJ W S j I=some s
 |0=>Iff.intro (λh=>nomatch h) fun⟨j,_,_,h,_⟩=>absurd h (D0 j)
 |i+1=>by
  have ih:=PB (W:=W) (S:=S) (z:=z) i;show z∈(YK W S i (XV W S i)).2↔_;have back:z∈(XV W S i).2->∃j I s,j<i+1/\W.isl[j]?=some I/\I.name=z/\YJ W S j I=some s:=λh=>by
   obtain⟨j,I,s,h1,h2⟩:=ih.mp h;exact⟨j,I,s,Vd h1,h2⟩
  unfold YK;cases hI:W.isl[i]? with
  |none=>
   refine⟨back,fun⟨j,I,s,h1,h2,h3⟩=>ih.mpr ⟨j,I,s,?_,h2,h3⟩⟩;rcases CY.mp h1 with h|h
   ·exact h
   ·rw[h,hI]at h2;cases h2
  |some I=>
   dsimp only;cases hg:YJ W S i I with
   |none=>
    refine⟨back,fun⟨j,I',s,h1,h2,h3,h4⟩=>ih.mpr ⟨j,I',s,?_,h2,h3,h4⟩⟩;rcases CY.mp h1 with h|h
    ·exact h
    ·subst h;rw[hI]at h2;cases h2;rw[hg]at h4;cases h4
   |some s=>
    dsimp only;rw[Yf,Y6];constructor
    ·rintro(h|rfl)
     ·exact back h
     ·exact⟨i,I,s,Bu _,hI,rfl,hg⟩
    ·rintro⟨j,I',s',h1,h2,h3,h4⟩;rcases CY.mp h1 with h|h
     ·exact .inl (ih.mpr ⟨j,I',s',h,h2,h3,h4⟩)
     ·subst h;rw[hI]at h2;cases h2;exact .inr h3.symm
theorem FO{W:Wld}{S:Std}:∀i:Nat,(XV W S i).2=[]->(XV W S i).1=S
 |0,_=>rfl
 |i+1,h=>by
  have h:(YK W S i (XV W S i)).2=[]:=h;show(YK W S i (XV W S i)).1=S;unfold YK at h ⊢;split at h
  ·split at h
   ·simp at h
   ·exact FO i h
  ·exact FO i h
noncomputable def W4(W:Wld)(S:Std)(k:Nat):Bool:=decide (S.num.getD k 0=((W.isl[k]?).map λI=>I.stps.length).getD 0)
noncomputable def Ua(W:Wld)(S:Std):List Str:=((XM W.isl.length).filter (W4 W S)).map fun k=>W.ins.getD k ""
theorem PC{W:Wld}(G:W.Good){i j:Nat}{I J:Isl}(hI:W.isl[i]?=some I) (hJ:W.isl[j]?=some J) (e:I.name=J.name):i=j:=
 (Vv (by have:=(XE.mp hI).1;unfold Wld.ins;rw[X7];exact this) G.in_nd).mp ((Z0 hI).trans ((congrArg some e).trans (Z0 hJ).symm))
theorem ZiH{W:Wld}(G:W.Good){S:Std}{i:Nat}{I:Isl}(hI:W.isl[i]?=some I):I.name∈Ua W S↔S.num.getD i 0=I.stps.length:=by
 unfold Ua;rw[XU];have e0:W4 W S i=decide (S.num.getD i 0=I.stps.length):=by unfold W4;rw[hI];rfl
 constructor
 ·rintro⟨k,hk,e⟩;obtain⟨h1,h2⟩:=A5.mp hk;have h1:=V9.mp h1;have hK:=X8 h1;have en:W.ins.getD k ""=_:=Cq (Z0 hK);rw[en]at e;have:=PC G hK hI e;subst this;rw[e0]at h2;exact of_decide_eq_true h2
 ·intro h;refine⟨i,A5.mpr ⟨V9.mpr (XE.mp hI).1,by rw[e0];exact decide_eq_true h⟩,Cq (Z0 hI)⟩
theorem ZhK{W:Wld}(G:W.Good){S:Std}{i:Nat}{I:Isl}(hI:W.isl[i]?=some I):I.name∈YZ W S↔∃s,YJ W S i I=some s:=by
 unfold YZ;rw[PB];constructor
 ·rintro⟨j,I',s,_,h2,h3,h4⟩;have:=PC G h2 hI h3;subst this;rw[hI]at h2;cases h2;exact⟨s,h4⟩
 ·rintro⟨s,hs⟩;exact⟨i,I,s,(XE.mp hI).1,hI,rfl,hs⟩
theorem ZhL{W:Wld}(G:W.Good){c:Nat}{S:Std}(hS:SOk W c S){i:Nat}{I:Isl}(hI:W.isl[i]?=some I):
  (∀z,YT W S i=some z->I.name∉Ua W S/\I.name∉YZ W S)/\(YT W S i=none->I.name∈Ua W S\/I.name∈YZ W S):=by
 rw[ZiH G hI,ZhK G hI];unfold YT YJ;rw[hI];dsimp only;cases hs:I.stps[S.num.getD i 0]? with
 |none=>
  refine⟨λz h=>(nomatch h),λ_=>.inl ?_⟩;have:=hS.ni i I _ hI (Fx hS hI);have:=CF.mp hs;lia
 |some s=>
  dsimp only;have hl:=(XE.mp hs).1;have si:=VU G hI hs;cases hc:canM W S s with
  |true=>
   rw[if_pos rfl,if_pos rfl];exact⟨λz h=>(nomatch h),λ_=>.inr ⟨s,rfl⟩⟩
  |false=>
   rw[if_neg (by simp),if_neg (by simp)]
   refine⟨λz _=>⟨by lia,fun⟨_,e⟩=>nomatch e⟩,λh=>?_⟩
   cases s with
   |take f x=>
    obtain⟨F,hF,_⟩:=WR si.1;dsimp only at h;rw[hF]at h;cases h
   |give f T=>
    obtain⟨F,hF,_⟩:=WR si.1;dsimp only at h;rw[hF]at h;cases h
   |put x T=>cases hc
   |jump T k=>cases hc
structure EndsM (W:Wld) (S:Std) (C:List Str) (ys:List Str) (z:Str):Prop where
 e:C=ys++[z]
 nd:ys.Nodup
 wt:∀y∈ys,y∉Ua W S/\y∉YZ W S
 en:z∈ys\/(z∉ys/\(z∈Ua W S\/z∈YZ W S))
theorem PD{W:Wld}(G:W.Good){c:Nat}{S:Std}(hS:SOk W c S):∀(m:Nat) (ys:List Str) (l:Str),(ys++[l]).Nodup->(∀z∈ys++[l],z∈W.ins)->ys.length+1+m=W.isl.length+2->(∀y∈ys,y∉Ua W S/\y∉YZ W S)->
  ∃us z,EndsM W S (V3 W S m (ys++[l]) (YT W S (W.ins.idxOf l))) us z/\us.length≤W.isl.length/\(us++[z])[0]?=(ys++[l])[0]?
 |m,ys,l,nd,inn,len,wt=>by
  have li:W.ins.length=W.isl.length:=by unfold Wld.ins;rw[X7]
  have nl:=B6 nd inn;rw[Y0,Us,li]at nl;have hl:=inn l (by simp)
  obtain⟨I,hI,en⟩:=Px hl;obtain⟨w1,w2⟩:=ZhL G hS hI;rw[en]at w1 w2;have nd':=Zb.mp nd;have nly:l∉ys:=λh=>nd'.2.2 l h l (by simp) rfl
  match m with
  |0=>lia
  |m+1=>
   cases hw:YT W S (W.ins.idxOf l)with
   |none=>
    exact⟨ys,l,⟨rfl,nd'.1,wt,.inr ⟨nly,w2 hw⟩⟩,by lia,rfl⟩
   |some z=>
    have wt':∀y∈ys++[l],y∉Ua W S/\y∉YZ W S:=λy hy=>by
     rcases Yf.mp hy with hy|hy
     ·exact wt y hy
     ·rw[Y6]at hy;subst hy;exact w1 z hw
    have zi:=FN G hw;have e0:∀x:Str,(ys++[l]++[x])[0]?=(ys++[l])[0]?:=λx=>Uc (by simp)
    by_cases hz:z∈ys++[l]
    ·refine⟨ys++[l],z,⟨?_,nd,wt',.inl hz⟩,by rw[Y0,Us];lia,e0 z⟩
     show(if z∈ys++[l]then ys++[l]++[z]else _)=_;rw[if_pos hz]
    ·have nd2:(ys++[l]++[z]).Nodup:=by
      rw[Zb];exact⟨nd,by simp,λa ha b hb e=>by rw[Y6]at hb;subst hb;subst e;exact hz ha⟩
     obtain⟨us,x,h1,h2,h3⟩:=PD G hS m (ys++[l]) z nd2 (λy hy=>by
      rcases Yf.mp hy with hy|hy
      ·exact inn y hy
      ·rw[Y6]at hy;rw[hy];exact zi) (by rw[Y0,Us];lia) wt'
     refine⟨us,x,?_,h2,h3.trans (e0 z)⟩;have ec:V3 W S (m+1) (ys++[l]) (some z)=V3 W S m (ys++[l]++[z]) (YT W S (W.ins.idxOf z)):=by
      show(if z∈ys++[l]then _ else _)=_;rw[if_neg hz]
     rw[ec];exact h1
theorem Zfs{W:Wld}(G:W.Good){c:Nat}{S:Std}(hS:SOk W c S){i:Nat}{I:Isl}(hI:W.isl[i]?=some I):
  ∃us z,EndsM W S (V3 W S (W.isl.length+1) [I.name] (YT W S i)) us z/\us.length≤W.isl.length/\(us++[z])[0]?=some I.name:=by
 have hn:=Z0 hI;have hi:i<W.ins.length:=(XE.mp hn).1;have ix:W.ins.idxOf I.name=i:=by
  have e:W.ins[i]=I.name:=Yg ((X8 hi).symm.trans hn);rw[<- e];exact List.Nodup.idxOf_getElem G.in_nd i hi
 have:=PD G hS (W.isl.length+1) [] I.name (by simp) (λz hz=>by rw[Y7,Y6]at hz;rw[hz];exact XG hn) (by simp;lia) (λy hy=>nomatch hy)
 rw[ix]at this;exact this
theorem PF(xs:List MV)(z:MV):cutM (xs++[z]) none (some (-1))=xs:=by
 unfold cutM;have e:HT.sIx (xs++[z]).length (xs++[z]).length (some (-1))=xs.length:=by
  have:(xs++[z]).length=xs.length+1:=by simp
  rw[this];simp[HT.sIx];lia
 have e0:HT.sIx (xs++[z]).length 0 none=0:=by simp[HT.sIx]
 rw[e,e0,Bj,Bw,List.take_left']
 rfl
noncomputable abbrev W5:SpM:=λvs M Q=>∃(pr pi pn:Addr) (ys idl nms:List Str) (z:Str),vs=[.ref pr,.ref pi,.ref pn]/\M pr=some (.lst ((ys++[z]).map MV.str))/\M pi=some (.lst (idl.map MV.str))/\M pn=some (.lst (nms.map MV.str))/\
 ys.length≤100/\ys.Nodup/\(∀y∈ys,y∉idl/\y∉nms)/\(z∈ys\/(z∉ys/\(z∈idl\/z∈nms)))/\∀M',SameM M M'->Q (.bl true) M'
theorem PH:MonW W5:=by walk_at "m"
theorem PJ{us ys:List Str}(a:us.Nodup)(b:ys.Nodup)(h:∀y,y∈us↔y∈ys):us.length=ys.length:=
 Nat.le_antisymm (B6 a λy hy=>(h y).mp hy) (B6 b λy hy=>(h y).mpr hy)
theorem Z7r(T:Txt K mg t):FnOk P w K mg base CX0 1 t.f__law_ends_well t.d__law_ends_well ["row","idle","names"] (liSp K W5):=by
 refine T.F__law_ends_well.okM Z7o (Xx (Φ:=[]) (Xy T) (Xz T) rfl nl0 nl0:Fts P w K mg base 0 Oa []) Fc Z7G (λvs M Q h=>?_) (λvs M Q h=>?_)
 ·obtain⟨_,_,_,_,_,_,_,rfl,_⟩:=h;rfl
 obtain⟨pr,pi,pn,ys,idl,nms,z,rfl,hr,hi,hn,hl,nd,wt,en,q⟩:=h;show wSs _ _ _ [some (.ref pr),some (.ref pi),some (.ref pn),none,none] M;have hr0:M pr=some (.lst (ys.map MV.str++[.str z])):=by rw[hr,YD];rfl
 rw[Fc,O9]
 repeat (first|walk_at "s"|simp only[hr0])
 intro p hp;rw[PF]
 repeat (first|walk_at "s"|simp only[hr0])
 have s0:=SameM.new hp (.lst (ys.map MV.str));have hp0:updM M p (.lst (ys.map MV.str)) p=some (.lst (ys.map MV.str)):=Xh;generalize updM M p _=M0 at*;obtain⟨J,hJ⟩:∃J:Nat->Sm->MH->Prop,∀k σ M',J k σ M'↔∃v3,M'=M0/\σ=[some (.ref pr),some (.ref pi),some (.ref pn),v3,none]:=⟨_,λ_ _ _=>Yp⟩;refine⟨J,(hJ 0 _ _).mpr ⟨_,rfl,rfl⟩,λj σ M' h=>?_,?_,?_⟩
 ·obtain⟨_,rfl,_⟩:=(hJ _ _ _).mp h;exact hp0
 ·rintro k u σ M' hu h;obtain⟨v3,rfl,rfl⟩:=(hJ _ _ _).mp h;obtain⟨hk,rfl⟩:=Yq (show(ys.map MV.str)[k]?=some u from hu);obtain⟨w1,w2⟩:=wt _ (XY hk);rw[O8];walk_at "s";refine .inl ⟨_,s0 _ _ hi,rfl,UX _,?_⟩;rw[UW,decide_eq_false w1];walk_at "s";refine .inl ⟨_,s0 _ _ hn,rfl,UX _,?_⟩;rw[UW,decide_eq_false w2];walk_at "s";exact(hJ _ _ _).mpr ⟨_,rfl,rfl⟩
 ·rintro σ M' h;obtain⟨v3,rfl,rfl⟩:=(hJ _ _ _).mp h;rw[O7]
  repeat (first|walk_at "s"|simp only[s0 _ _ hr0])
  refine⟨.str z,He _ _,?_⟩;rw[O6]
  repeat (first|walk_at "s"|simp only[s0 _ _ hr0])
  intro p1 hp1;rw[PF];have s1:=s0.trans (SameM.new hp1 (.lst (ys.map MV.str)));have hp1':updM M' p1 (.lst (ys.map MV.str)) p1=some (.lst (ys.map MV.str)):=Xh;generalize updM M' p1 _=M1 at*;refine .inl ⟨_,hp1',rfl,UX _,?_⟩;rw[UW];have hb:scanBound=4096:=rfl;rcases en with hz|⟨hz,hw⟩
  ·rw[decide_eq_true hz];walk_at "s";rw[O5];walk_at "s";refine⟨pr,ys++[z],rfl,s1 _ _ hr,by rw[Y0,Us];lia,λus und ume=>?_⟩
   have el:us.length=ys.length:=PJ und nd λy=>(ume y).trans ⟨λh=>(Yf.mp h).elim id λh=>by rw[Y6]at h;rw[h];exact hz,λh=>CJ _ h⟩
   repeat (first|walk_at "s"|simp only[s1 _ _ hr])
   rw[el,X7,Y0,Us];rw[decide_eq_true (by lia)]
   exact q _ s1
  ·rw[decide_eq_false hz];walk_at "s";rw[O4];walk_at "s";refine⟨pr,ys++[z],rfl,s1 _ _ hr,by rw[Y0,Us];lia,λus und ume=>?_⟩
   have nd2:(ys++[z]).Nodup:=by
    rw[Zb];exact⟨nd,by simp,λa ha b hb e=>by rw[Y6]at hb;subst hb;subst e;exact hz ha⟩
   have el:us.length=(ys++[z]).length:=PJ und nd2 ume
   repeat (first|walk_at "s"|simp only[s1 _ _ hr])
   rw[el,X7];walk_at "s";refine .inl ⟨_,s1 _ _ hi,rfl,UX _,?_⟩;rw[UW];by_cases h1:z∈idl
   ·rw[decide_eq_true h1];walk_at "s";exact q _ s1
   ·rw[decide_eq_false h1];walk_at "s";refine .inl ⟨_,s1 _ _ hn,rfl,UX _,?_⟩;rw[UW,decide_eq_true (hw.resolve_left h1)];exact q _ s1
theorem Zni(T:Txt K mg t):FnOk P w K mg base CX0 60 t.f_law t.d_law ["script"] (liSp K Ja):=by
 refine T.F_law.okM Zma (Xx (Φ:=[("_law_ends_well",W5),("_law_made",VZ),("_law_world",VY),("chain",W3),("round_of",V0),("run_plain",W0)]) (Xy T) (Xz T) rfl (fMc ⟨PH,(fMc ⟨Pv,(fMc ⟨Pu,(fMc ⟨Py,(fMc ⟨FG,(fMc ⟨Pw,nl0⟩)⟩)⟩)⟩)⟩)⟩) (fMc ⟨⟨_,_,_,(FnOk.mono (Z7r T) (by decide)),T.m__law_ends_well,T.F__law_ends_well.kp,T.b__law_ends_well⟩,(fMc ⟨⟨_,_,_,(FnOk.mono (Zc4 T) (by decide)),T.m__law_made,T.F__law_made.kp,T.b__law_made⟩,(fMc ⟨⟨_,_,_,(FnOk.mono (Zbg T) (by decide)),T.m__law_world,T.F__law_world.kp,T.b__law_world⟩,(fMc ⟨⟨_,_,_,(FnOk.mono (Zim T) (by decide)),T.m_chain,T.F_chain.kp,T.b_chain⟩,(fMc ⟨⟨_,_,_,(FnOk.mono (Pc T) (by decide)),T.m_round_of,T.F_round_of.kp,T.b_round_of⟩,(fMc ⟨⟨_,_,_,(FnOk.mono (Zc0 T) (by decide)),T.m_run_plain,T.F_run_plain.kp,T.b_run_plain⟩,nl0⟩)⟩)⟩)⟩)⟩)⟩):Fts P w K mg base 59 Om [("_law_ends_well",W5),("_law_made",VZ),("_law_world",VY),("chain",W3),("round_of",V0),("run_plain",W0)]) Ff ZnU (fun vs M Q h=>?_) (fun vs M Q h=>?_)
 ·obtain⟨ns,rfl,_⟩:=h;rfl
 obtain⟨ns,rfl,h63,q⟩:=h;have hΦ:=(Uk (Φ:=[("_law_ends_well",W5),("_law_made",VZ),("_law_world",VY),("chain",W3),("round_of",V0),("run_plain",W0)]) (fMc ⟨PH,(fMc ⟨Pv,(fMc ⟨Pu,(fMc ⟨Py,(fMc ⟨FG,(fMc ⟨Pw,nl0⟩)⟩)⟩)⟩)⟩)⟩));show wSs _ _ _ [some (.frl (ns.map .int)),none,none,none,none,none,none,none,none,none] M;rw[Ff,Ol];walk_at "s";refine⟨ns,rfl,h63,λW pi pf ys M1 s1 G f1 f2 f3 hpi hIs hpf=>?_⟩;have i5:=G.i5;have li:W.ins.length=W.isl.length:=by unfold Wld.ins;rw[X7]
 rw[Oj];walk_at "s";refine⟨W,pi,pf,ys,rfl,G,hpi,hIs,hpf,λM2 s2=>?_⟩;rw[Oi];walk_at "s";refine⟨W,30,rfl,G,by decide,λM3 p As s3 hp R al=>?_⟩
 have s13:=s2.trans s3;rw[Oh]
 repeat (first|walk_at "s"|simp only[R.l])
 intro p3 hp3;have s4:=SameM.new hp3 (.lst (st3 (As.map StA.mv)));have hp4:updM M3 p3 (.lst (st3 (As.map StA.mv))) p3=some (.lst (st3 (As.map StA.mv))):=Xh;generalize updM M3 p3 _=M4 at*
 repeat (first|walk_at "s"|simp only[hp4])
 have s14:=s13.trans s4;obtain⟨J,hJ⟩:∃J:Nat->Sm->MH->Prop,∀k σ M',J k σ M'↔∃v4 v5 v6 v7 v8 v9,SameM M4 M'/\σ=[some (.frl (ns.map MV.int)),some (.tup [.int W.w,.ref pi,.ref pf]),some W.mv,some (.ref p),v4,v5,v6,v7,v8,v9]:=⟨_,λ_ _ _=>Yp⟩;refine⟨J,(hJ 0 _ _).mpr ⟨_,_,_,_,_,_,SameM.refl _,rfl⟩,λj σ M' h=>?_,?_,?_⟩
 ·obtain⟨_,_,_,_,_,_,s,_⟩:=(hJ _ _ _).mp h;exact s _ _ hp4
 ·rintro k u σ M' hu h;obtain⟨v4,v5,v6,v7,v8,v9,s,rfl⟩:=(hJ _ _ _).mp h;obtain⟨m,A,hm,hA,rfl⟩:∃m A,m≤30/\As[m]?=some A/\u=A.mv:=by
   have hm:=XG (show(st3 (As.map StA.mv))[k]?=some u from hu);unfold st3 at hm;obtain⟨q,hq,e⟩:=CM.mp hm;rw[Xo]at e;cases hA:As[3*q]? with
   |none=>rw[hA]at e;cases e
   |some A=>
    rw[hA]at e;have:=(XE.mp hA).1;exact⟨3*q,A,by lia,hA,(Yg e).symm⟩
  have hok:=B5 G m;have sA:=((R.st m A hA).keep s4).keep s;generalize WQ W m=S at*;rw[Og];walk_at "s";refine⟨W,S,A,5*m,rfl,G,hok,by lia,sA,λM5 B pn s5 hB nB wB hpn hn5=>?_⟩
  walk_at "s";have s25:=(s14.trans s).trans s5;have hpi5:=s25 _ _ hpi;have hIs5:=hIs.keep s25;have sA5:=sA.keep s5;have yl:=hIs5.1;rw[Of];walk_at "s";refine Cp (XM W.isl.length) (fun k=>ys.getD k .non) (fun k=>.str (W.ins.getD k "")) (W4 W S) ?_ ?_ hΦ fun D hD=>?_
  ·repeat (first|walk_at "s"|simp only[hpi5])
   refine⟨?_,by rw[YW];lia,hpi5⟩
   refine(A1 λi=>?_);show ys[i]?=_;rw[Xo];by_cases hi:i<ys.length
   ·rw[X8 hi,X8 (by rw[YW];lia)]
    simp[Ym,hi]
   ·rw[Ud (by lia),Ud (by rw[YW];lia)]
    rfl
  ·intro i hi M' s';have hi:=V9.mp hi;have hI:=X8 hi;have hu:=X8 (show i<ys.length by lia)
   obtain⟨ia,ib,eu,ha,hb⟩:=hIs5.2 i _ _ hI hu;rw[Cq hu,eu,Cq (Z0 hI),StA.mv];simp only[sCm,XA,Y8,Yh,Yi,Ye,Y7];walk_at "s"
   repeat (first|walk_at "s"|simp only[s' _ _ sA5.n])
   refine⟨_,FC G hok hI,?_⟩
   repeat (first|walk_at "s"|simp only[s' _ _ hb])
   unfold W4;rw[hI,X7];refine⟨?_,λ_=>trivial⟩;rw[decide_eq_decide];show _↔_=(W.isl[i]).stps.length;lia
  have s6:=SameM.new hD (.lst (((XM W.isl.length).filter (W4 W S)).map fun k=>MV.str (W.ins.getD k "")));have hd6:updM M5 D (.lst (((XM W.isl.length).filter (W4 W S)).map fun k=>MV.str (W.ins.getD k ""))) D=some (.lst ((Ua W S).map MV.str)):=by
   rw[Xh];unfold Ua;rw[Y9];rfl
  generalize updM M5 D _=M6 at*;have s26:=s25.trans s6;have hn6:=s6 _ _ hn5;have sA6:=sA5.keep s6;have hIs6:=hIs5.keep s6;have hpi6:=s26 _ _ hpi;have rest:∀M7,SameM M6 M7->wSs ([("_law_ends_well",W5),("_law_made",VZ),("_law_world",VY),("chain",W3),("round_of",V0),("run_plain",W0)]:List (Str×SpM)) Fe {nx:=J (k+1),rt:=Q,bk:=fun σ M=>wSs ([("_law_ends_well",W5),("_law_made",VZ),("_law_world",VY),("chain",W3),("round_of",V0),("run_plain",W0)]:List (Str×SpM)) Fd {nx:=fun _ M'=>Q .non M',rt:=Q} σ M,ct:=J (k+1)} [some (.frl (ns.map MV.int)),some (.tup [.int W.w,.ref pi,.ref pf]),some W.mv,some (.ref p),some A.mv,some B.mv,some (.ref pn),some (.ref D),v8,v9] M7:=by
   intro M7 s7;have hpi7:=s7 _ _ hpi6;have s67:=((s.trans s5).trans s6).trans s7;rw[Fe]
   repeat (first|walk_at "s"|simp only[hpi7])
   obtain⟨J2,hJ2⟩:∃J2:Nat->Sm->MH->Prop,∀j σ M',J2 j σ M'↔∃v8 v9,SameM M7 M'/\σ=[some (.frl (ns.map MV.int)),some (.tup [.int W.w,.ref pi,.ref pf]),some W.mv,some (.ref p),some A.mv,some B.mv,some (.ref pn),some (.ref D),v8,v9]:=⟨_,λ_ _ _=>Yp⟩;refine⟨J2,(hJ2 0 _ _).mpr ⟨_,_,SameM.refl _,rfl⟩,λj σ M' h=>?_,?_,?_⟩
   ·obtain⟨_,_,s,_⟩:=(hJ2 _ _ _).mp h;exact s _ _ hpi7
   ·rintro j u σ M' hu h;obtain⟨v8,v9,s,rfl⟩:=(hJ2 _ _ _).mp h;have hu:ys[j]?=some u:=hu;have hj:j<W.isl.length:=by rw[<- hIs6.1];exact(XE.mp hu).1
    have hI:=X8 hj;generalize W.isl[j]=I at hI;obtain⟨ia,ib,rfl,_⟩:=hIs6.2 j _ _ hI hu;rw[Od];walk_at "s";refine⟨W,S,A,5*m,j,I,rfl,G,hok,sA6.keep (s7.trans s),hI,λM8 pc s8 hpc hc8=>?_⟩;obtain⟨us,z,E,ul,u0⟩:=Zfs G hok hI;rw[E.e]at hc8;have s68:=(s7.trans s).trans s8;rw[Oc]
    repeat (first|walk_at "s"|simp only[hc8])
    refine⟨.str I.name,?_,?_⟩
    ·exact XQ (j:=0) (by rw[Xo,u0];rfl)
    walk_at "s";refine⟨pc,D,pn,us,Ua W S,YZ W S,z,rfl,hc8,s68 _ _ hd6,s68 _ _ hn6,by lia,E.nd,E.wt,E.en,λM9 s9=>?_⟩
    walk_at "s";have s69:=s68.trans s9;rw[Ob];walk_at "s";intro p9 hp9;have s70:=SameM.new hp9 (.lst []);have hq9:updM M9 p9 (.lst []) p9=some (.lst []):=Xh;generalize updM M9 p9 _=M10 at*;refine VP (s70 _ _ (s69 _ _ hn6)) hq9 ?_;have fin:∀M11,SameM M9 M11->J2 (j+1) [some (.frl (ns.map MV.int)),some (.tup [.int W.w,.ref pi,.ref pf]),some W.mv,some (.ref p),some A.mv,some B.mv,some (.ref pn),some (.ref D),some (.tup [.str I.name,.ref ia,.ref ib]),some (.ref pc)] M11:=λM11 s11=>(hJ2 _ _ _).mpr ⟨_,_,((s.trans s8).trans s9).trans s11,rfl⟩;cases he:(A7 MV.str (YZ W S)).isEmpty with
    |false=>
     walk_at "s";exact fin _ s70
    |true=>
     repeat (first|walk_at "s"|simp only[s70 _ _ (s9 _ _ hc8)])
     rw[X7,Y0,Us];by_cases h2:us=[]
     ·subst h2;rw[if_pos (by simp)]
      refine .inl ⟨_,s70 _ _ (s69 _ _ hd6),rfl,UX _,?_⟩;have hz:z=I.name:=by simpa using u0
      have hwn:YZ W S=[]:=by simpa using he
      have hid:I.name∈Ua W S:=by
       rcases E.en with h|⟨_,h|h⟩
       ·cases h
       ·exact hz▸h
       ·rw[hwn]at h;cases h
      rw[UW,decide_eq_true hid];walk_at "s";exact fin _ s70
     ·have:0<us.length:=List.length_pos_iff.mpr h2;rw[if_neg (by lia)]
      exact fin _ s70
   ·rintro σ M' h;obtain⟨v8,v9,s,rfl⟩:=(hJ2 _ _ _).mp h;exact(hJ _ _ _).mpr ⟨_,_,_,_,_,_,s67.trans s,rfl⟩
  rw[Oe];walk_at "s";intro p7 hp7;have s7:=SameM.new hp7 (.lst []);have hq7:updM M6 p7 (.lst []) p7=some (.lst []):=Xh;generalize updM M6 p7 _=M7 at*;refine VP (s7 _ _ hn6) hq7 ?_;cases he:(A7 MV.str (YZ W S)).isEmpty with
  |false=>
   walk_at "s";exact rest _ s7
  |true=>
   have hwn:YZ W S=[]:=by simpa using he
   have eS:FA W S=S:=FO W.isl.length hwn;rw[eS]at hB;have ea:=ZhB G hok (hB.keep (s6.trans s7)) (sA6.keep s7);rw[StA.mv,StA.mv]at ea ⊢;walk_at "s";refine ZiL rfl ea (by decide) ?_
   walk_at "s";exact rest _ s7
 ·rintro σ M' h;obtain⟨v4,v5,v6,v7,v8,v9,s,rfl⟩:=(hJ _ _ _).mp h;rw[Fd];walk_at "s";exact q _
end
theorem all_mk{l:CT}{w:Xj}{K:X6}{h:Heap}{mg:Str->Option X0}{fa:Addr}(X:K.In h)(G:h.Ns Xf mg)(hfa:mg "law"=some (.ref fa))
  {f1 f2 f3 f4 f5 f6 f7 f8 f9 f10 f11 f12 f13 f14 f15 f16 f17 f18 f19 f20 f21 f22 f23 f24 f25 f26 f27 f28 f29 f30 f31 f32 f33 f34 f35 f36 f37 f38 f39 f40 f41 f42 f43 f44 f45 f46 f47 f48 f49 f50 f51 f52:Addr} {od1 an1 od2 an2 od3 an3 od4 an4 od5 an5 od6 an6 od7 an7 od8 an8 od9 an9 od10 an10 od11 an11 od12 an12 od13 an13 od14 an14 od15 an15 od16 an16 od17 an17 od18 an18 od19 an19 od20 an20 od21 an21 od22 an22 od23 an23 od24 an24 od25 an25 od26 an26 od27 an27 od28 an28 od29 an29 od30 an30 od31 an31 od32 an32 od33 an33 od34 an34 od35 an35 od36 an36 od37 an37 od38 an38 od39 an39 od40 an40 od41 an41 od42 an42 od43 an43 od44 an44 od45 an45 od46 an46 od47 an47 od48 an48 od49 an49 od50 an50 od51 an51 od52 an52:Option Addr} {sl1 sl2 sl3 sl4 sl5 sl6 sl7 sl8 sl9 sl10 sl11 sl12 sl13 sl14 sl15 sl16 sl17 sl18 sl19 sl20 sl21 sl22 sl23 sl24 sl25 sl26 sl27 sl28 sl29 sl30 sl31 sl32 sl33 sl34 sl35 sl36 sl37 sl38 sl39 sl40 sl41 sl42 sl43 sl44 sl45 sl46 sl47 sl48 sl49 sl50 sl51 sl52:Array (Option X0)} {oc1 kV1 dc1 pm1 cd1 ct1 oc2 kV2 dc2 pm2 cd2 ct2 oc3 kV3 dc3 pm3 cd3 ct3 oc4 kV4 dc4 pm4 cd4 ct4 oc5 kV5 dc5 pm5 cd5 ct5 oc6 kV6 dc6 pm6 cd6 ct6 oc7 kV7 dc7 pm7 cd7 ct7 oc8 kV8 dc8 pm8 cd8 ct8 oc9 kV9 dc9 pm9 cd9 ct9 oc10 kV10 dc10 pm10 cd10 ct10 oc11 kV11 dc11 pm11 cd11 ct11 oc12 kV12 dc12 pm12 cd12 ct12 oc13 kV13 dc13 pm13 cd13 ct13 oc14 kV14 dc14 pm14 cd14 ct14 oc15 kV15 dc15 pm15 cd15 ct15 oc16 kV16 dc16 pm16 cd16 ct16 oc17 kV17 dc17 pm17 cd17 ct17 oc18 kV18 dc18 pm18 cd18 ct18 oc19 kV19 dc19 pm19 cd19 ct19 oc20 kV20 dc20 pm20 cd20 ct20 oc21 kV21 dc21 pm21 cd21 ct21 oc22 kV22 dc22 pm22 cd22 ct22 oc23 kV23 dc23 pm23 cd23 ct23 oc24 kV24 dc24 pm24 cd24 ct24 oc25 kV25 dc25 pm25 cd25 ct25 oc26 kV26 dc26 pm26 cd26 ct26 oc27 kV27 dc27 pm27 cd27 ct27 oc28 kV28 dc28 pm28 cd28 ct28 oc29 kV29 dc29 pm29 cd29 ct29 oc30 kV30 dc30 pm30 cd30 ct30 oc31 kV31 dc31 pm31 cd31 ct31 oc32 kV32 dc32 pm32 cd32 ct32 oc33 kV33 dc33 pm33 cd33 ct33 oc34 kV34 dc34 pm34 cd34 ct34 oc35 kV35 dc35 pm35 cd35 ct35 oc36 kV36 dc36 pm36 cd36 ct36 oc37 kV37 dc37 pm37 cd37 ct37 oc38 kV38 dc38 pm38 cd38 ct38 oc39 kV39 dc39 pm39 cd39 ct39 oc40 kV40 dc40 pm40 cd40 ct40 oc41 kV41 dc41 pm41 cd41 ct41 oc42 kV42 dc42 pm42 cd42 ct42 oc43 kV43 dc43 pm43 cd43 ct43 oc44 kV44 dc44 pm44 cd44 ct44 oc45 kV45 dc45 pm45 cd45 ct45 oc46 kV46 dc46 pm46 cd46 ct46 oc47 kV47 dc47 pm47 cd47 ct47 oc48 kV48 dc48 pm48 cd48 ct48 oc49 kV49 dc49 pm49 cd49 ct49 oc50 kV50 dc50 pm50 cd50 ct50 oc51 kV51 dc51 pm51 cd51 ct51 oc52 kV52 dc52 pm52 cd52 ct52:X0}
  {tk1:Tok}
  {tk2:Tok}
  {tk3:Tok}
  {tk4:Tok}
  {tk5:Tok}
  {tk6:Tok}
  {tk7:Tok}
  {tk8:Tok}
  {tk9:Tok}
  {tk10:Tok}
  (a1:Xi K Xf "is_whole"=some (some (.ref f1))) (l1:K.lookup f1=some ⟨oc1,od1,.func (Xa "is_whole" "is_whole" (Xd Ze) (X5 Ze) (X2 Ze) .none kV1 dc1 pm1 an1 cd1 ct1),sl1⟩) (c1:Xt K cd1 "is_whole"=true) (k1:Xq K (.ref f1)=true)
  (a2:Xi K Xf "is_width"=some (some (.ref f2))) (l2:K.lookup f2=some ⟨oc2,od2,.func (Xa "is_width" "is_width" (Xd Zf) (X5 Zf) (X2 Zf) .none kV2 dc2 pm2 an2 cd2 ct2),sl2⟩) (c2:Xt K cd2 "is_width"=true) (k2:Xq K (.ref f2)=true)
  (a3:Xi K Xf "two_to"=some (some (.ref f3))) (l3:K.lookup f3=some ⟨oc3,od3,.func (Xa "two_to" "two_to" (Xd Zg) (X5 Zg) (X2 Zg) .none kV3 dc3 pm3 an3 cd3 ct3),sl3⟩) (c3:Xt K cd3 "two_to"=true) (k3:Xq K (.ref f3)=true)
  (a4:Xi K Xf "fits"=some (some (.ref f4))) (l4:K.lookup f4=some ⟨oc4,od4,.func (Xa "fits" "fits" (Xd Zh) (X5 Zh) (X2 Zh) .none kV4 dc4 pm4 an4 cd4 ct4),sl4⟩) (c4:Xt K cd4 "fits"=true) (k4:Xq K (.ref f4)=true)
  (a5:Xi K Xf "cut"=some (some (.ref f5))) (l5:K.lookup f5=some ⟨oc5,od5,.func (Xa "cut" "cut" (Xd Zi) (X5 Zi) (X2 Zi) .none kV5 dc5 pm5 an5 cd5 ct5),sl5⟩) (c5:Xt K cd5 "cut"=true) (k5:Xq K (.ref f5)=true)
  (a6:Xi K Xf "parts_within"=some (some (.ref f6))) (l6:K.lookup f6=some ⟨oc6,od6,.func (Xa "parts_within" "parts_within" (Xd Zj) (X5 Zj) (X2 Zj) .none kV6 dc6 pm6 an6 cd6 ct6),sl6⟩) (c6:Xt K cd6 "parts_within"=true) (k6:Xq K (.ref f6)=true)
  (a7:Xi K Xf "size_of"=some (some (.ref f7))) (l7:K.lookup f7=some ⟨oc7,od7,.func (Xa "size_of" "size_of" (Xd Zk) (X5 Zk) (X2 Zk) .none kV7 dc7 pm7 an7 cd7 ct7),sl7⟩) (c7:Xt K cd7 "size_of"=true) (k7:Xq K (.ref f7)=true)
  (a8:Xi K Xf "names_read"=some (some (.ref f8))) (l8:K.lookup f8=some ⟨oc8,od8,.func (Xa "names_read" "names_read" (Xd Zl) (X5 Zl) (X2 Zl) .none kV8 dc8 pm8 an8 cd8 ct8),sl8⟩) (c8:Xt K cd8 "names_read"=true) (k8:Xq K (.ref f8)=true)
  (a9:Xi K Xf "vars_in"=some (some (.ref f9))) (l9:K.lookup f9=some ⟨oc9,od9,.func (Xa "vars_in" "vars_in" (Xd Zm) (X5 Zm) (X2 Zm) .none kV9 dc9 pm9 an9 cd9 ct9),sl9⟩) (c9:Xt K cd9 "vars_in"=true) (k9:Xq K (.ref f9)=true)
  (a10:Xi K Xf "worth_of_two"=some (some (.ref f10))) (l10:K.lookup f10=some ⟨oc10,od10,.func (Xa "worth_of_two" "worth_of_two" (Xd Zn) (X5 Zn) (X2 Zn) .none kV10 dc10 pm10 an10 cd10 ct10),sl10⟩) (c10:Xt K cd10 "worth_of_two"=true) (k10:Xq K (.ref f10)=true)
  (a11:Xi K Xf "worth"=some (some (.ref f11))) (l11:K.lookup f11=some ⟨oc11,od11,.func (Xa "worth" "worth" (Xd Zo) (X5 Zo) (X2 Zo) .none kV11 dc11 pm11 an11 cd11 ct11),sl11⟩) (c11:Xt K cd11 "worth"=true) (k11:Xq K (.ref f11)=true)
  (a12:Xi K Xf "wish"=some (some (.ref f12))) (l12:K.lookup f12=some ⟨oc12,od12,.func (Xa "wish" "wish" (Xd Zp) (X5 Zp) (X2 Zp) .none kV12 dc12 pm12 an12 cd12 ct12),sl12⟩) (c12:Xt K cd12 "wish"=true) (k12:Xq K (.ref f12)=true)
  (a13:Xi K Xf "number_after"=some (some (.ref f13))) (l13:K.lookup f13=some ⟨oc13,od13,.func (Xa "number_after" "number_after" (Xd Zq) (X5 Zq) (X2 Zq) .none kV13 dc13 pm13 an13 cd13 ct13),sl13⟩) (c13:Xt K cd13 "number_after"=true) (k13:Xq K (.ref f13)=true)
  (a14:Xi K Xf "words_after"=some (some (.ref f14))) (l14:K.lookup f14=some ⟨oc14,od14,.func (Xa "words_after" "words_after" (Xd Zr) (X5 Zr) (X2 Zr) .none kV14 dc14 pm14 an14 cd14 ct14),sl14⟩) (c14:Xt K cd14 "words_after"=true) (k14:Xq K (.ref f14)=true)
  (a15:Xi K Xf "after"=some (some (.ref f15))) (l15:K.lookup f15=some ⟨oc15,od15,.func (Xa "after" "after" (Xd Zs) (X5 Zs) (X2 Zs) .none kV15 dc15 pm15 an15 cd15 ct15),sl15⟩) (c15:Xt K cd15 "after"=true) (k15:Xq K (.ref f15)=true)
  (a16:Xi K Xf "is_name"=some (some (.ref f16))) (l16:K.lookup f16=some ⟨oc16,od16,.func (Xa "is_name" "is_name" (Xd Zt) (X5 Zt) (X2 Zt) .none kV16 dc16 pm16 an16 cd16 ct16),sl16⟩) (c16:Xt K cd16 "is_name"=true) (k16:Xq K (.ref f16)=true)
  (a17:Xi K Xf "refuse_name"=some (some (.ref f17))) (l17:K.lookup f17=some ⟨oc17,od17,.func (Xa "refuse_name" "refuse_name" (Xd Zu) (X5 Zu) (X2 Zu) .none kV17 dc17 pm17 an17 cd17 ct17),sl17⟩) (c17:Xt K cd17 "refuse_name"=true) (k17:Xq K (.ref f17)=true)
  (a18:Xi K Xf "refuse_unknown"=some (some (.ref f18))) (l18:K.lookup f18=some ⟨oc18,od18,.func (Xa "refuse_unknown" "refuse_unknown" (Xd Zv) (X5 Zv) (X2 Zv) .none kV18 dc18 pm18 an18 cd18 ct18),sl18⟩) (c18:Xt K cd18 "refuse_unknown"=true) (k18:Xq K (.ref f18)=true)
  (a19:Xi K Xf "refuse_ferry_names"=some (some (.ref f19))) (l19:K.lookup f19=some ⟨oc19,od19,.func (Xa "refuse_ferry_names" "refuse_ferry_names" (Xd Zw) (X5 Zw) (X2 Zw) .none kV19 dc19 pm19 an19 cd19 ct19),sl19⟩) (c19:Xt K cd19 "refuse_ferry_names"=true) (k19:Xq K (.ref f19)=true)
  (a20:Xi K Xf "refuse_variables"=some (some (.ref f20))) (l20:K.lookup f20=some ⟨oc20,od20,.func (Xa "refuse_variables" "refuse_variables" (Xd Zx) (X5 Zx) (X2 Zx) .none kV20 dc20 pm20 an20 cd20 ct20),sl20⟩) (c20:Xt K cd20 "refuse_variables"=true) (k20:Xq K (.ref f20)=true)
  (a21:Xi K Xf "refuse_term"=some (some (.ref f21))) (l21:K.lookup f21=some ⟨oc21,od21,.func (Xa "refuse_term" "refuse_term" (Xd Zy) (X5 Zy) (X2 Zy) .none kV21 dc21 pm21 an21 cd21 ct21),sl21⟩) (c21:Xt K cd21 "refuse_term"=true) (k21:Xq K (.ref f21)=true)
  (a22:Xi K Xf "refuse_step"=some (some (.ref f22))) (l22:K.lookup f22=some ⟨oc22,od22,.func (Xa "refuse_step" "refuse_step" (Xd Zz) (X5 Zz) (X2 Zz) .none kV22 dc22 pm22 an22 cd22 ct22),sl22⟩) (c22:Xt K cd22 "refuse_step"=true) (k22:Xq K (.ref f22)=true)
  (a23:Xi K Xf "refuse_island"=some (some (.ref f23))) (l23:K.lookup f23=some ⟨oc23,od23,.func (Xa "refuse_island" "refuse_island" (Xd ZA) (X5 ZA) (X2 ZA) .none kV23 dc23 pm23 an23 cd23 ct23),sl23⟩) (c23:Xt K cd23 "refuse_island"=true) (k23:Xq K (.ref f23)=true)
  (a24:Xi K Xf "refuse_islands"=some (some (.ref f24))) (l24:K.lookup f24=some ⟨oc24,od24,.func (Xa "refuse_islands" "refuse_islands" (Xd ZB) (X5 ZB) (X2 ZB) .none kV24 dc24 pm24 an24 cd24 ct24),sl24⟩) (c24:Xt K cd24 "refuse_islands"=true) (k24:Xq K (.ref f24)=true)
  (a25:Xi K Xf "refuse_ferry"=some (some (.ref f25))) (l25:K.lookup f25=some ⟨oc25,od25,.func (Xa "refuse_ferry" "refuse_ferry" (Xd ZC) (X5 ZC) (X2 ZC) .none kV25 dc25 pm25 an25 cd25 ct25),sl25⟩) (c25:Xt K cd25 "refuse_ferry"=true) (k25:Xq K (.ref f25)=true)
  (a26:Xi K Xf "refuse_wrong_end"=some (some (.ref f26))) (l26:K.lookup f26=some ⟨oc26,od26,.func (Xa "refuse_wrong_end" "refuse_wrong_end" (Xd ZD) (X5 ZD) (X2 ZD) .none kV26 dc26 pm26 an26 cd26 ct26),sl26⟩) (c26:Xt K cd26 "refuse_wrong_end"=true) (k26:Xq K (.ref f26)=true)
  (a27:Xi K Xf "refuse_wrong_ends"=some (some (.ref f27))) (l27:K.lookup f27=some ⟨oc27,od27,.func (Xa "refuse_wrong_ends" "refuse_wrong_ends" (Xd ZE) (X5 ZE) (X2 ZE) .none kV27 dc27 pm27 an27 cd27 ct27),sl27⟩) (c27:Xt K cd27 "refuse_wrong_ends"=true) (k27:Xq K (.ref f27)=true)
  (a28:Xi K Xf "frozen"=some (some (.ref f28))) (l28:K.lookup f28=some ⟨oc28,od28,.func (Xa "frozen" "frozen" (Xd ZF) (X5 ZF) (X2 ZF) .none kV28 dc28 pm28 an28 cd28 ct28),sl28⟩) (c28:Xt K cd28 "frozen"=true) (k28:Xq K (.ref f28)=true)
  (a29:Xi K Xf "made"=some (some (.ref f29))) (l29:K.lookup f29=some ⟨oc29,od29,.func (Xa "made" "made" (Xd ZG) (X5 ZG) (X2 ZG) .none kV29 dc29 pm29 an29 cd29 ct29),sl29⟩) (c29:Xt K cd29 "made"=true) (k29:Xq K (.ref f29)=true)
  (a30:Xi K Xf "one_called"=some (some (.ref f30))) (l30:K.lookup f30=some ⟨oc30,od30,.func (Xa "one_called" "one_called" (Xd ZH) (X5 ZH) (X2 ZH) .none kV30 dc30 pm30 an30 cd30 ct30),sl30⟩) (c30:Xt K cd30 "one_called"=true) (k30:Xq K (.ref f30)=true)
  (a31:Xi K Xf "island_of"=some (some (.ref f31))) (l31:K.lookup f31=some ⟨oc31,od31,.func (Xa "island_of" "island_of" (Xd ZI) (X5 ZI) (X2 ZI) .none kV31 dc31 pm31 an31 cd31 ct31),sl31⟩) (c31:Xt K cd31 "island_of"=true) (k31:Xq K (.ref f31)=true)
  (a32:Xi K Xf "ferry_of"=some (some (.ref f32))) (l32:K.lookup f32=some ⟨oc32,od32,.func (Xa "ferry_of" "ferry_of" (Xd ZJ) (X5 ZJ) (X2 ZJ) .none kV32 dc32 pm32 an32 cd32 ct32),sl32⟩) (c32:Xt K cd32 "ferry_of"=true) (k32:Xq K (.ref f32)=true)
  (a33:Xi K Xf "first_stand"=some (some (.ref f33))) (l33:K.lookup f33=some ⟨oc33,od33,.func (Xa "first_stand" "first_stand" (Xd ZK) (X5 ZK) (X2 ZK) .none kV33 dc33 pm33 an33 cd33 ct33),sl33⟩) (c33:Xt K cd33 "first_stand"=true) (k33:Xq K (.ref f33)=true)
  (a34:Xi K Xf "copy_of"=some (some (.ref f34))) (l34:K.lookup f34=some ⟨oc34,od34,.func (Xa "copy_of" "copy_of" (Xd ZL) (X5 ZL) (X2 ZL) .none kV34 dc34 pm34 an34 cd34 ct34),sl34⟩) (c34:Xt K cd34 "copy_of"=true) (k34:Xq K (.ref f34)=true)
  (a35:Xi K Xf "wish_of"=some (some (.ref f35))) (l35:K.lookup f35=some ⟨oc35,od35,.func (Xa "wish_of" "wish_of" (Xd ZM) (X5 ZM) (X2 ZM) .none kV35 dc35 pm35 an35 cd35 ct35),sl35⟩) (c35:Xt K cd35 "wish_of"=true) (k35:Xq K (.ref f35)=true)
  (a36:Xi K Xf "can_be"=some (some (.ref f36))) (l36:K.lookup f36=some ⟨oc36,od36,.func (Xa "can_be" "can_be" (Xd ZN) (X5 ZN) (X2 ZN) .none kV36 dc36 pm36 an36 cd36 ct36),sl36⟩) (c36:Xt K cd36 "can_be"=true) (k36:Xq K (.ref f36)=true)
  (a37:Xi K Xf "do_step"=some (some (.ref f37))) (l37:K.lookup f37=some ⟨oc37,od37,.func (Xa "do_step" "do_step" (Xd ZO) (X5 ZO) (X2 ZO) .none kV37 dc37 pm37 an37 cd37 ct37),sl37⟩) (c37:Xt K cd37 "do_step"=true) (k37:Xq K (.ref f37)=true)
  (a38:Xi K Xf "round_of"=some (some (.ref f38))) (l38:K.lookup f38=some ⟨oc38,od38,.func (Xa "round_of" "round_of" (Xd ZP) (X5 ZP) (X2 ZP) .none kV38 dc38 pm38 an38 cd38 ct38),sl38⟩) (c38:Xt K cd38 "round_of"=true) (k38:Xq K (.ref f38)=true)
  (a39:Xi K Xf "run_plain"=some (some (.ref f39))) (l39:K.lookup f39=some ⟨oc39,od39,.func (Xa "run_plain" "run_plain" (Xd ZQ) (X5 ZQ) (X2 ZQ) .none kV39 dc39 pm39 an39 cd39 ct39),sl39⟩) (c39:Xt K cd39 "run_plain"=true) (k39:Xq K (.ref f39)=true)
  (a40:Xi K Xf "waits_for"=some (some (.ref f40))) (l40:K.lookup f40=some ⟨oc40,od40,.func (Xa "waits_for" "waits_for" (Xd ZR) (X5 ZR) (X2 ZR) .none kV40 dc40 pm40 an40 cd40 ct40),sl40⟩) (c40:Xt K cd40 "waits_for"=true) (k40:Xq K (.ref f40)=true)
  (a41:Xi K Xf "chain"=some (some (.ref f41))) (l41:K.lookup f41=some ⟨oc41,od41,.func (Xa "chain" "chain" (Xd ZS) (X5 ZS) (X2 ZS) .none kV41 dc41 pm41 an41 cd41 ct41),sl41⟩) (c41:Xt K cd41 "chain"=true) (k41:Xq K (.ref f41)=true)
  (a42:Xi K Xf "_law_cell"=some (some (.ref f42))) (l42:K.lookup f42=some ⟨oc42,od42,.func (Xa "_law_cell" "_law_cell" (Xd ZT) (X5 ZT) (X2 ZT) .none kV42 dc42 pm42 an42 cd42 ct42),sl42⟩) (c42:Xt K cd42 "_law_cell"=true) (k42:Xq K (.ref f42)=true)
  (a43:Xi K Xf "_law_mix"=some (some (.ref f43))) (l43:K.lookup f43=some ⟨oc43,od43,.func (Xa "_law_mix" "_law_mix" (Xd ZU) (X5 ZU) (X2 ZU) .none kV43 dc43 pm43 an43 cd43 ct43),sl43⟩) (c43:Xt K cd43 "_law_mix"=true) (k43:Xq K (.ref f43)=true)
  (a44:Xi K Xf "_law_names"=some (some (.ref f44))) (l44:K.lookup f44=some ⟨oc44,od44,.func (Xa "_law_names" "_law_names" (Xd ZV) (X5 ZV) (X2 ZV) .none kV44 dc44 pm44 an44 cd44 ct44),sl44⟩) (c44:Xt K cd44 "_law_names"=true) (k44:Xq K (.ref f44)=true)
  (a45:Xi K Xf "_law_word"=some (some (.ref f45))) (l45:K.lookup f45=some ⟨oc45,od45,.func (Xa "_law_word" "_law_word" (Xd ZW) (X5 ZW) (X2 ZW) .none kV45 dc45 pm45 an45 cd45 ct45),sl45⟩) (c45:Xt K cd45 "_law_word"=true) (k45:Xq K (.ref f45)=true)
  (a46:Xi K Xf "_law_term"=some (some (.ref f46))) (l46:K.lookup f46=some ⟨oc46,od46,.func (Xa "_law_term" "_law_term" (Xd ZX) (X5 ZX) (X2 ZX) .none kV46 dc46 pm46 an46 cd46 ct46),sl46⟩) (c46:Xt K cd46 "_law_term"=true) (k46:Xq K (.ref f46)=true)
  (a47:Xi K Xf "_law_step"=some (some (.ref f47))) (l47:K.lookup f47=some ⟨oc47,od47,.func (Xa "_law_step" "_law_step" (Xd ZY) (X5 ZY) (X2 ZY) .none kV47 dc47 pm47 an47 cd47 ct47),sl47⟩) (c47:Xt K cd47 "_law_step"=true) (k47:Xq K (.ref f47)=true)
  (a48:Xi K Xf "_law_ferries"=some (some (.ref f48))) (l48:K.lookup f48=some ⟨oc48,od48,.func (Xa "_law_ferries" "_law_ferries" (Xd ZZ) (X5 ZZ) (X2 ZZ) .none kV48 dc48 pm48 an48 cd48 ct48),sl48⟩) (c48:Xt K cd48 "_law_ferries"=true) (k48:Xq K (.ref f48)=true)
  (a49:Xi K Xf "_law_world"=some (some (.ref f49))) (l49:K.lookup f49=some ⟨oc49,od49,.func (Xa "_law_world" "_law_world" (Xd U0) (X5 U0) (X2 U0) .none kV49 dc49 pm49 an49 cd49 ct49),sl49⟩) (c49:Xt K cd49 "_law_world"=true) (k49:Xq K (.ref f49)=true)
  (a50:Xi K Xf "_law_made"=some (some (.ref f50))) (l50:K.lookup f50=some ⟨oc50,od50,.func (Xa "_law_made" "_law_made" (Xd U4) (X5 U4) (X2 U4) .none kV50 dc50 pm50 an50 cd50 ct50),sl50⟩) (c50:Xt K cd50 "_law_made"=true) (k50:Xq K (.ref f50)=true)
  (a51:Xi K Xf "_law_ends_well"=some (some (.ref f51))) (l51:K.lookup f51=some ⟨oc51,od51,.func (Xa "_law_ends_well" "_law_ends_well" (Xd U5) (X5 U5) (X2 U5) .none kV51 dc51 pm51 an51 cd51 ct51),sl51⟩) (c51:Xt K cd51 "_law_ends_well"=true) (k51:Xq K (.ref f51)=true)
  (a52:Xi K Xf "law"=some (some (.ref f52))) (l52:K.lookup f52=some ⟨oc52,od52,.func (Xa "law" "law" (Xd YS) (X5 YS) (X2 YS) .none kV52 dc52 pm52 an52 cd52 ct52),sl52⟩) (c52:Xt K cd52 "law"=true) (k52:Xq K (.ref f52)=true)
  (z1:Xi K Xf "all"=some none)
  (z2:Xi K Xf "bool"=some none)
  (z3:Xi K Xf "dict"=some none)
  (z4:Xi K Xf "int"=some none)
  (z5:Xi K Xf "isinstance"=some none)
  (z6:Xi K Xf "len"=some none)
  (z7:Xi K Xf "list"=some none)
  (z8:Xi K Xf "max"=some none)
  (z9:Xi K Xf "min"=some none)
  (z10:Xi K Xf "range"=some none)
  (z11:Xi K Xf "set"=some none)
  (z12:Xi K Xf "sorted"=some none)
  (z13:Xi K Xf "tuple"=some none)
  (g1:Xi K Xf "MOST_WIDTH"=some (some (.int 64 tk1)))
  (g2:Xi K Xf "MOST_LETTERS"=some (some (.int 8 tk2)))
  (g3:Xi K Xf "MOST_ISLANDS"=some (some (.int 5 tk3)))
  (g4:Xi K Xf "MOST_FERRIES"=some (some (.int 6 tk4)))
  (g5:Xi K Xf "MOST_VARS"=some (some (.int 6 tk5)))
  (g6:Xi K Xf "MOST_STEPS"=some (some (.int 12 tk6)))
  (g7:Xi K Xf "MOST_PARTS"=some (some (.int 30 tk7)))
  (g8:Xi K Xf "MOST_DEPTH"=some (some (.int 8 tk8)))
  (g9:Xi K Xf "MOST_K"=some (some (.int 3 tk9)))
  (g10:Xi K Xf "MOST_STAGES"=some (some (.int 3 tk10))):
  ∃fd:Xn,(∀(s:X1) (v:X0),BindsTo s fd ⟨[v],[]⟩ [("script",v)])/\∀base:Heap,K.In base->base.Ns Xf mg->FnOk l.prog w K mg base CX0 60 fa fd ["script"] (C4 K):=by
 have e:=hfa.symm.trans (Xp X G a52);cases e;have T:Txt K mg ⟨f1,Xa "is_whole" "is_whole" (Xd Ze) (X5 Ze) (X2 Ze) .none kV1 dc1 pm1 an1 cd1 ct1,f2,Xa "is_width" "is_width" (Xd Zf) (X5 Zf) (X2 Zf) .none kV2 dc2 pm2 an2 cd2 ct2,f3,Xa "two_to" "two_to" (Xd Zg) (X5 Zg) (X2 Zg) .none kV3 dc3 pm3 an3 cd3 ct3,f4,Xa "fits" "fits" (Xd Zh) (X5 Zh) (X2 Zh) .none kV4 dc4 pm4 an4 cd4 ct4,f5,Xa "cut" "cut" (Xd Zi) (X5 Zi) (X2 Zi) .none kV5 dc5 pm5 an5 cd5 ct5,f6,Xa "parts_within" "parts_within" (Xd Zj) (X5 Zj) (X2 Zj) .none kV6 dc6 pm6 an6 cd6 ct6,f7,Xa "size_of" "size_of" (Xd Zk) (X5 Zk) (X2 Zk) .none kV7 dc7 pm7 an7 cd7 ct7,f8,Xa "names_read" "names_read" (Xd Zl) (X5 Zl) (X2 Zl) .none kV8 dc8 pm8 an8 cd8 ct8,f9,Xa "vars_in" "vars_in" (Xd Zm) (X5 Zm) (X2 Zm) .none kV9 dc9 pm9 an9 cd9 ct9,f10,Xa "worth_of_two" "worth_of_two" (Xd Zn) (X5 Zn) (X2 Zn) .none kV10 dc10 pm10 an10 cd10 ct10,f11,Xa "worth" "worth" (Xd Zo) (X5 Zo) (X2 Zo) .none kV11 dc11 pm11 an11 cd11 ct11,f12,Xa "wish" "wish" (Xd Zp) (X5 Zp) (X2 Zp) .none kV12 dc12 pm12 an12 cd12 ct12,f13,Xa "number_after" "number_after" (Xd Zq) (X5 Zq) (X2 Zq) .none kV13 dc13 pm13 an13 cd13 ct13,f14,Xa "words_after" "words_after" (Xd Zr) (X5 Zr) (X2 Zr) .none kV14 dc14 pm14 an14 cd14 ct14,f15,Xa "after" "after" (Xd Zs) (X5 Zs) (X2 Zs) .none kV15 dc15 pm15 an15 cd15 ct15,f16,Xa "is_name" "is_name" (Xd Zt) (X5 Zt) (X2 Zt) .none kV16 dc16 pm16 an16 cd16 ct16,f17,Xa "refuse_name" "refuse_name" (Xd Zu) (X5 Zu) (X2 Zu) .none kV17 dc17 pm17 an17 cd17 ct17,f18,Xa "refuse_unknown" "refuse_unknown" (Xd Zv) (X5 Zv) (X2 Zv) .none kV18 dc18 pm18 an18 cd18 ct18,f19,Xa "refuse_ferry_names" "refuse_ferry_names" (Xd Zw) (X5 Zw) (X2 Zw) .none kV19 dc19 pm19 an19 cd19 ct19,f20,Xa "refuse_variables" "refuse_variables" (Xd Zx) (X5 Zx) (X2 Zx) .none kV20 dc20 pm20 an20 cd20 ct20,f21,Xa "refuse_term" "refuse_term" (Xd Zy) (X5 Zy) (X2 Zy) .none kV21 dc21 pm21 an21 cd21 ct21,f22,Xa "refuse_step" "refuse_step" (Xd Zz) (X5 Zz) (X2 Zz) .none kV22 dc22 pm22 an22 cd22 ct22,f23,Xa "refuse_island" "refuse_island" (Xd ZA) (X5 ZA) (X2 ZA) .none kV23 dc23 pm23 an23 cd23 ct23,f24,Xa "refuse_islands" "refuse_islands" (Xd ZB) (X5 ZB) (X2 ZB) .none kV24 dc24 pm24 an24 cd24 ct24,f25,Xa "refuse_ferry" "refuse_ferry" (Xd ZC) (X5 ZC) (X2 ZC) .none kV25 dc25 pm25 an25 cd25 ct25,f26,Xa "refuse_wrong_end" "refuse_wrong_end" (Xd ZD) (X5 ZD) (X2 ZD) .none kV26 dc26 pm26 an26 cd26 ct26,f27,Xa "refuse_wrong_ends" "refuse_wrong_ends" (Xd ZE) (X5 ZE) (X2 ZE) .none kV27 dc27 pm27 an27 cd27 ct27,f28,Xa "frozen" "frozen" (Xd ZF) (X5 ZF) (X2 ZF) .none kV28 dc28 pm28 an28 cd28 ct28,f29,Xa "made" "made" (Xd ZG) (X5 ZG) (X2 ZG) .none kV29 dc29 pm29 an29 cd29 ct29,f30,Xa "one_called" "one_called" (Xd ZH) (X5 ZH) (X2 ZH) .none kV30 dc30 pm30 an30 cd30 ct30,f31,Xa "island_of" "island_of" (Xd ZI) (X5 ZI) (X2 ZI) .none kV31 dc31 pm31 an31 cd31 ct31,f32,Xa "ferry_of" "ferry_of" (Xd ZJ) (X5 ZJ) (X2 ZJ) .none kV32 dc32 pm32 an32 cd32 ct32,f33,Xa "first_stand" "first_stand" (Xd ZK) (X5 ZK) (X2 ZK) .none kV33 dc33 pm33 an33 cd33 ct33,f34,Xa "copy_of" "copy_of" (Xd ZL) (X5 ZL) (X2 ZL) .none kV34 dc34 pm34 an34 cd34 ct34,f35,Xa "wish_of" "wish_of" (Xd ZM) (X5 ZM) (X2 ZM) .none kV35 dc35 pm35 an35 cd35 ct35,f36,Xa "can_be" "can_be" (Xd ZN) (X5 ZN) (X2 ZN) .none kV36 dc36 pm36 an36 cd36 ct36,f37,Xa "do_step" "do_step" (Xd ZO) (X5 ZO) (X2 ZO) .none kV37 dc37 pm37 an37 cd37 ct37,f38,Xa "round_of" "round_of" (Xd ZP) (X5 ZP) (X2 ZP) .none kV38 dc38 pm38 an38 cd38 ct38,f39,Xa "run_plain" "run_plain" (Xd ZQ) (X5 ZQ) (X2 ZQ) .none kV39 dc39 pm39 an39 cd39 ct39,f40,Xa "waits_for" "waits_for" (Xd ZR) (X5 ZR) (X2 ZR) .none kV40 dc40 pm40 an40 cd40 ct40,f41,Xa "chain" "chain" (Xd ZS) (X5 ZS) (X2 ZS) .none kV41 dc41 pm41 an41 cd41 ct41,f42,Xa "_law_cell" "_law_cell" (Xd ZT) (X5 ZT) (X2 ZT) .none kV42 dc42 pm42 an42 cd42 ct42,f43,Xa "_law_mix" "_law_mix" (Xd ZU) (X5 ZU) (X2 ZU) .none kV43 dc43 pm43 an43 cd43 ct43,f44,Xa "_law_names" "_law_names" (Xd ZV) (X5 ZV) (X2 ZV) .none kV44 dc44 pm44 an44 cd44 ct44,f45,Xa "_law_word" "_law_word" (Xd ZW) (X5 ZW) (X2 ZW) .none kV45 dc45 pm45 an45 cd45 ct45,f46,Xa "_law_term" "_law_term" (Xd ZX) (X5 ZX) (X2 ZX) .none kV46 dc46 pm46 an46 cd46 ct46,f47,Xa "_law_step" "_law_step" (Xd ZY) (X5 ZY) (X2 ZY) .none kV47 dc47 pm47 an47 cd47 ct47,f48,Xa "_law_ferries" "_law_ferries" (Xd ZZ) (X5 ZZ) (X2 ZZ) .none kV48 dc48 pm48 an48 cd48 ct48,f49,Xa "_law_world" "_law_world" (Xd U0) (X5 U0) (X2 U0) .none kV49 dc49 pm49 an49 cd49 ct49,f50,Xa "_law_made" "_law_made" (Xd U4) (X5 U4) (X2 U4) .none kV50 dc50 pm50 an50 cd50 ct50,f51,Xa "_law_ends_well" "_law_ends_well" (Xd U5) (X5 U5) (X2 U5) .none kV51 dc51 pm51 an51 cd51 ct51,fa,Xa "law" "law" (Xd YS) (X5 YS) (X2 YS) .none kV52 dc52 pm52 an52 cd52 ct52⟩:={
  F_is_whole:=Xe (st:=Ze) l1 c1 k1
  b_is_whole:=(Xe (st:=Ze) l1 c1 k1).binds (ps:=["value"]) fun _ _ _ _ _ _=>us1 (fun _=>rfl)
  m_is_whole:=Xp X G a1
  F_is_width:=Xe (st:=Zf) l2 c2 k2
  b_is_width:=(Xe (st:=Zf) l2 c2 k2).binds (ps:=["number"]) fun _ _ _ _ _ _=>us1 (fun _=>rfl)
  m_is_width:=Xp X G a2
  F_two_to:=Xe (st:=Zg) l3 c3 k3
  b_two_to:=(Xe (st:=Zg) l3 c3 k3).binds (ps:=["exponent"]) fun _ _ _ _ _ _=>us1 (fun _=>rfl)
  m_two_to:=Xp X G a3
  F_fits:=Xe (st:=Zh) l4 c4 k4
  b_fits:=(Xe (st:=Zh) l4 c4 k4).binds (ps:=["width","number"]) fun _ _ _ _ _ _=>us2 (fun _ _=>rfl)
  m_fits:=Xp X G a4
  F_cut:=Xe (st:=Zi) l5 c5 k5
  b_cut:=(Xe (st:=Zi) l5 c5 k5).binds (ps:=["width","number"]) fun _ _ _ _ _ _=>us2 (fun _ _=>rfl)
  m_cut:=Xp X G a5
  F_parts_within:=Xe (st:=Zj) l6 c6 k6
  b_parts_within:=(Xe (st:=Zj) l6 c6 k6).binds (ps:=["T"]) fun _ _ _ _ _ _=>us1 (fun _=>rfl)
  m_parts_within:=Xp X G a6
  F_size_of:=Xe (st:=Zk) l7 c7 k7
  b_size_of:=(Xe (st:=Zk) l7 c7 k7).binds (ps:=["T"]) fun _ _ _ _ _ _=>us1 (fun _=>rfl)
  m_size_of:=Xp X G a7
  F_names_read:=Xe (st:=Zl) l8 c8 k8
  b_names_read:=(Xe (st:=Zl) l8 c8 k8).binds (ps:=["T"]) fun _ _ _ _ _ _=>us1 (fun _=>rfl)
  m_names_read:=Xp X G a8
  F_vars_in:=Xe (st:=Zm) l9 c9 k9
  b_vars_in:=(Xe (st:=Zm) l9 c9 k9).binds (ps:=["T"]) fun _ _ _ _ _ _=>us1 (fun _=>rfl)
  m_vars_in:=Xp X G a9
  F_worth_of_two:=Xe (st:=Zn) l10 c10 k10
  b_worth_of_two:=(Xe (st:=Zn) l10 c10 k10).binds (ps:=["form","left","right","width"]) fun _ _ _ _ _ _=>us4 (fun _ _ _ _=>rfl)
  m_worth_of_two:=Xp X G a10
  F_worth:=Xe (st:=Zo) l11 c11 k11
  b_worth:=(Xe (st:=Zo) l11 c11 k11).binds (ps:=["T","width","words"]) fun _ _ _ _ _ _=>us3 (fun _ _ _=>rfl)
  m_worth:=Xp X G a11
  F_wish:=Xe (st:=Zp) l12 c12 k12
  b_wish:=(Xe (st:=Zp) l12 c12 k12).binds (ps:=["width","steps","number","words"]) fun _ _ _ _ _ _=>us4 (fun _ _ _ _=>rfl)
  m_wish:=Xp X G a12
  F_number_after:=Xe (st:=Zq) l13 c13 k13
  b_number_after:=(Xe (st:=Zq) l13 c13 k13).binds (ps:=["width","steps","number","words"]) fun _ _ _ _ _ _=>us4 (fun _ _ _ _=>rfl)
  m_number_after:=Xp X G a13
  F_words_after:=Xe (st:=Zr) l14 c14 k14
  b_words_after:=(Xe (st:=Zr) l14 c14 k14).binds (ps:=["width","step","words","word"]) fun _ _ _ _ _ _=>us4 (fun _ _ _ _=>rfl)
  m_words_after:=Xp X G a14
  F_after:=Xe (st:=Zs) l15 c15 k15
  b_after:=(Xe (st:=Zs) l15 c15 k15).binds (ps:=["width","steps","number","words","word"]) fun _ _ _ _ _ _=>us5 (fun _ _ _ _ _=>rfl)
  m_after:=Xp X G a15
  F_is_name:=Xe (st:=Zt) l16 c16 k16
  b_is_name:=(Xe (st:=Zt) l16 c16 k16).binds (ps:=["text"]) fun _ _ _ _ _ _=>us1 (fun _=>rfl)
  m_is_name:=Xp X G a16
  F_refuse_name:=Xe (st:=Zu) l17 c17 k17
  b_refuse_name:=(Xe (st:=Zu) l17 c17 k17).binds (ps:=["text","earlier"]) fun _ _ _ _ _ _=>us2 (fun _ _=>rfl)
  m_refuse_name:=Xp X G a17
  F_refuse_unknown:=Xe (st:=Zv) l18 c18 k18
  b_refuse_unknown:=(Xe (st:=Zv) l18 c18 k18).binds (ps:=["name","known"]) fun _ _ _ _ _ _=>us2 (fun _ _=>rfl)
  m_refuse_unknown:=Xp X G a18
  F_refuse_ferry_names:=Xe (st:=Zw) l19 c19 k19
  b_refuse_ferry_names:=(Xe (st:=Zw) l19 c19 k19).binds (ps:=["ferries"]) fun _ _ _ _ _ _=>us1 (fun _=>rfl)
  m_refuse_ferry_names:=Xp X G a19
  F_refuse_variables:=Xe (st:=Zx) l20 c20 k20
  b_refuse_variables:=(Xe (st:=Zx) l20 c20 k20).binds (ps:=["width","pairs"]) fun _ _ _ _ _ _=>us2 (fun _ _=>rfl)
  m_refuse_variables:=Xp X G a20
  F_refuse_term:=Xe (st:=Zy) l21 c21 k21
  b_refuse_term:=(Xe (st:=Zy) l21 c21 k21).binds (ps:=["T","known"]) fun _ _ _ _ _ _=>us2 (fun _ _=>rfl)
  m_refuse_term:=Xp X G a21
  F_refuse_step:=Xe (st:=Zz) l22 c22 k22
  b_refuse_step:=(Xe (st:=Zz) l22 c22 k22).binds (ps:=["step","known","count","ferry_names"]) fun _ _ _ _ _ _=>us4 (fun _ _ _ _=>rfl)
  m_refuse_step:=Xp X G a22
  F_refuse_island:=Xe (st:=ZA) l23 c23 k23
  b_refuse_island:=(Xe (st:=ZA) l23 c23 k23).binds (ps:=["width","island","ferry_names"]) fun _ _ _ _ _ _=>us3 (fun _ _ _=>rfl)
  m_refuse_island:=Xp X G a23
  F_refuse_islands:=Xe (st:=ZB) l24 c24 k24
  b_refuse_islands:=(Xe (st:=ZB) l24 c24 k24).binds (ps:=["width","islands","ferry_names"]) fun _ _ _ _ _ _=>us3 (fun _ _ _=>rfl)
  m_refuse_islands:=Xp X G a24
  F_refuse_ferry:=Xe (st:=ZC) l25 c25 k25
  b_refuse_ferry:=(Xe (st:=ZC) l25 c25 k25).binds (ps:=["ferry","island_names"]) fun _ _ _ _ _ _=>us2 (fun _ _=>rfl)
  m_refuse_ferry:=Xp X G a25
  F_refuse_wrong_end:=Xe (st:=ZD) l26 c26 k26
  b_refuse_wrong_end:=(Xe (st:=ZD) l26 c26 k26).binds (ps:=["name","step","givers","takers"]) fun _ _ _ _ _ _=>us4 (fun _ _ _ _=>rfl)
  m_refuse_wrong_end:=Xp X G a26
  F_refuse_wrong_ends:=Xe (st:=ZE) l27 c27 k27
  b_refuse_wrong_ends:=(Xe (st:=ZE) l27 c27 k27).binds (ps:=["islands","ferries"]) fun _ _ _ _ _ _=>us2 (fun _ _=>rfl)
  m_refuse_wrong_ends:=Xp X G a27
  F_frozen:=Xe (st:=ZF) l28 c28 k28
  b_frozen:=(Xe (st:=ZF) l28 c28 k28).binds (ps:=["value"]) fun _ _ _ _ _ _=>us1 (fun _=>rfl)
  m_frozen:=Xp X G a28
  F_made:=Xe (st:=ZG) l29 c29 k29
  b_made:=(Xe (st:=ZG) l29 c29 k29).binds (ps:=["width","islands","ferries"]) fun _ _ _ _ _ _=>us3 (fun _ _ _=>rfl)
  m_made:=Xp X G a29
  F_one_called:=Xe (st:=ZH) l30 c30 k30
  b_one_called:=(Xe (st:=ZH) l30 c30 k30).binds (ps:=["row","name"]) fun _ _ _ _ _ _=>us2 (fun _ _=>rfl)
  m_one_called:=Xp X G a30
  F_island_of:=Xe (st:=ZI) l31 c31 k31
  b_island_of:=(Xe (st:=ZI) l31 c31 k31).binds (ps:=["world","name"]) fun _ _ _ _ _ _=>us2 (fun _ _=>rfl)
  m_island_of:=Xp X G a31
  F_ferry_of:=Xe (st:=ZJ) l32 c32 k32
  b_ferry_of:=(Xe (st:=ZJ) l32 c32 k32).binds (ps:=["world","name"]) fun _ _ _ _ _ _=>us2 (fun _ _=>rfl)
  m_ferry_of:=Xp X G a32
  F_first_stand:=Xe (st:=ZK) l33 c33 k33
  b_first_stand:=(Xe (st:=ZK) l33 c33 k33).binds (ps:=["world"]) fun _ _ _ _ _ _=>us1 (fun _=>rfl)
  m_first_stand:=Xp X G a33
  F_copy_of:=Xe (st:=ZL) l34 c34 k34
  b_copy_of:=(Xe (st:=ZL) l34 c34 k34).binds (ps:=["stand"]) fun _ _ _ _ _ _=>us1 (fun _=>rfl)
  m_copy_of:=Xp X G a34
  F_wish_of:=Xe (st:=ZM) l35 c35 k35
  b_wish_of:=(Xe (st:=ZM) l35 c35 k35).binds (ps:=["world","stand","name"]) fun _ _ _ _ _ _=>us3 (fun _ _ _=>rfl)
  m_wish_of:=Xp X G a35
  F_can_be:=Xe (st:=ZN) l36 c36 k36
  b_can_be:=(Xe (st:=ZN) l36 c36 k36).binds (ps:=["world","stand","asked"]) fun _ _ _ _ _ _=>us3 (fun _ _ _=>rfl)
  m_can_be:=Xp X G a36
  F_do_step:=Xe (st:=ZO) l37 c37 k37
  b_do_step:=(Xe (st:=ZO) l37 c37 k37).binds (ps:=["world","stand","name","asked","behind"]) fun _ _ _ _ _ _=>us5 (fun _ _ _ _ _=>rfl)
  m_do_step:=Xp X G a37
  F_round_of:=Xe (st:=ZP) l38 c38 k38
  b_round_of:=(Xe (st:=ZP) l38 c38 k38).binds (ps:=["world","stand"]) fun _ _ _ _ _ _=>us2 (fun _ _=>rfl)
  m_round_of:=Xp X G a38
  F_run_plain:=Xe (st:=ZQ) l39 c39 k39
  b_run_plain:=(Xe (st:=ZQ) l39 c39 k39).binds (ps:=["world","n"]) fun _ _ _ _ _ _=>us2 (fun _ _=>rfl)
  m_run_plain:=Xp X G a39
  F_waits_for:=Xe (st:=ZR) l40 c40 k40
  b_waits_for:=(Xe (st:=ZR) l40 c40 k40).binds (ps:=["world","stand","name"]) fun _ _ _ _ _ _=>us3 (fun _ _ _=>rfl)
  m_waits_for:=Xp X G a40
  F_chain:=Xe (st:=ZS) l41 c41 k41
  b_chain:=(Xe (st:=ZS) l41 c41 k41).binds (ps:=["world","stand","name"]) fun _ _ _ _ _ _=>us3 (fun _ _ _=>rfl)
  m_chain:=Xp X G a41
  F__law_cell:=Xe (st:=ZT) l42 c42 k42
  b__law_cell:=(Xe (st:=ZT) l42 c42 k42).binds (ps:=["script","k"]) fun _ _ _ _ _ _=>us2 (fun _ _=>rfl)
  m__law_cell:=Xp X G a42
  F__law_mix:=Xe (st:=ZU) l43 c43 k43
  b__law_mix:=(Xe (st:=ZU) l43 c43 k43).binds (ps:=["number","salt"]) fun _ _ _ _ _ _=>us2 (fun _ _=>rfl)
  m__law_mix:=Xp X G a43
  F__law_names:=Xe (st:=ZV) l44 c44 k44
  b__law_names:=(Xe (st:=ZV) l44 c44 k44).binds (ps:=["number","many"]) fun _ _ _ _ _ _=>us2 (fun _ _=>rfl)
  m__law_names:=Xp X G a44
  F__law_word:=Xe (st:=ZW) l45 c45 k45
  b__law_word:=(Xe (st:=ZW) l45 c45 k45).binds (ps:=["number","width"]) fun _ _ _ _ _ _=>us2 (fun _ _=>rfl)
  m__law_word:=Xp X G a45
  F__law_term:=Xe (st:=ZX) l46 c46 k46
  b__law_term:=(Xe (st:=ZX) l46 c46 k46).binds (ps:=["number","own","deep"]) fun _ _ _ _ _ _=>us3 (fun _ _ _=>rfl)
  m__law_term:=Xp X G a46
  F__law_step:=Xe (st:=ZY) l47 c47 k47
  b__law_step:=(Xe (st:=ZY) l47 c47 k47).binds (ps:=["number","name","ferries","own","many"]) fun _ _ _ _ _ _=>us5 (fun _ _ _ _ _=>rfl)
  m__law_step:=Xp X G a47
  F__law_ferries:=Xe (st:=ZZ) l48 c48 k48
  b__law_ferries:=(Xe (st:=ZZ) l48 c48 k48).binds (ps:=["number","names","many"]) fun _ _ _ _ _ _=>us3 (fun _ _ _=>rfl)
  m__law_ferries:=Xp X G a48
  F__law_world:=Xe (st:=U0) l49 c49 k49
  b__law_world:=(Xe (st:=U0) l49 c49 k49).binds (ps:=["script","start"]) fun _ _ _ _ _ _=>us2 (fun _ _=>rfl)
  m__law_world:=Xp X G a49
  F__law_made:=Xe (st:=U4) l50 c50 k50
  b__law_made:=(Xe (st:=U4) l50 c50 k50).binds (ps:=["parts"]) fun _ _ _ _ _ _=>us1 (fun _=>rfl)
  m__law_made:=Xp X G a50
  F__law_ends_well:=Xe (st:=U5) l51 c51 k51
  b__law_ends_well:=(Xe (st:=U5) l51 c51 k51).binds (ps:=["row","idle","names"]) fun _ _ _ _ _ _=>us3 (fun _ _ _=>rfl)
  m__law_ends_well:=Xp X G a51
  F_law:=Xe (st:=YS) l52 c52 k52
  b_law:=(Xe (st:=YS) l52 c52 k52).binds (ps:=["script"]) fun _ _ _ _ _ _=>us1 (fun _=>rfl)
  m_law:=Xp X G a52
  z_all:=Z4 X G z1
  z_bool:=Z4 X G z2
  z_dict:=Z4 X G z3
  z_int:=Z4 X G z4
  z_isinstance:=Z4 X G z5
  z_len:=Z4 X G z6
  z_list:=Z4 X G z7
  z_max:=Z4 X G z8
  z_min:=Z4 X G z9
  z_range:=Z4 X G z10
  z_set:=Z4 X G z11
  z_sorted:=Z4 X G z12
  z_tuple:=Z4 X G z13
  c_MOST_WIDTH:=⟨_,Xp X G g1⟩
  c_MOST_LETTERS:=⟨_,Xp X G g2⟩
  c_MOST_ISLANDS:=⟨_,Xp X G g3⟩
  c_MOST_FERRIES:=⟨_,Xp X G g4⟩
  c_MOST_VARS:=⟨_,Xp X G g5⟩
  c_MOST_STEPS:=⟨_,Xp X G g6⟩
  c_MOST_PARTS:=⟨_,Xp X G g7⟩
  c_MOST_DEPTH:=⟨_,Xp X G g8⟩
  c_MOST_K:=⟨_,Xp X G g9⟩
  c_MOST_STAGES:=⟨_,Xp X G g10⟩
 }
 exact⟨Xa "law" "law" (Xd YS) (X5 YS) (X2 YS) .none kV52 dc52 pm52 an52 cd52 ct52,fun s v=>.of_eq rfl,fun base _ _=>Zl5 (FnOk.mono (Zni T) (by decide))⟩
theorem walk{l:CT}{q:Xm}{loose:List Str}{XP:(Str->Option X0)->Heap->Prop}{YP:Xj->Heap->Prop}{d:DefRec}{K:Params->X6}(hn:l.most=some 63)(hdf:d.params.defaults=[])
  (hY:∀(w:Xj) (h:Heap),YP w h->(K w.params).In h)
  (F:∀(w:Xj) (mg:Str->Option X0) (fa:Addr) (h:Heap),(K w.params).In h->h.Ns Xf mg->mg d.name=some (.ref fa)->
   ∃fd:Xn,(∀(s:X1) (u:X0),BindsTo s fd ⟨[u],[]⟩ [("script",u)])/\∀base:Heap,(K w.params).In base->base.Ns Xf mg->FnOk l.prog w (K w.params) mg base CX0 60 fa fd ["script"] (C4 (K w.params))):
  PySem.W.WalkO q loose XP YP l.row.toRowW d [] (λf vs=>PySem.call f vs):=
 L2.walk_of (n:=63) (k:=60) (x:="script") (CX:=fun _=>CX0) (sp:=fun w=>C4 (K w.params)) hn (by decide) hdf ⟨rfl,by decide,by decide⟩ hY F (fun _ H a ns hl hO hS=>⟨a,ns,rfl,ZnP hO hS,hl,fun _=>rfl⟩) fun _ _ _ _ _ z=>z
end My
structure PySem.W.Fast:Prop where
 (tw17016512220741809840 tw16954366803573111745 tw6463410225318643556 tw9107366450760292938 tw3484378138543161860 tw3102729128653969967 tw8775598764831280838 tw6357079685967020539 tw4637316256551544138 tw15165323315218565446 tw14468015070509131936 tw6072626984340318382 tw14348508589280163820 tw6213249791542405752 tw16224841443568771711 tw16743625819961805937 tw15868185266080969625 tw3970987590204163289 tw6988563241701857373 tw7861981974509767943 tw8084278300693825874 tw3403402027050811801 tw2479094797983424422 tw5031623095278558192 tw8949322618785770073 tw17183120379665580793 tw4856825004673208516 tw17983416515008434773 tw15882673477165769305 tw11701575822734185102 tw9083601069033524298 tw3822374801216327802 tw3745418638480764910 tw5388601965114206380 tw10924518462798852162 tw5028400775469927371 tw676769027089910192 tw9463501387051527455 tw7062499555719475552 tw4578129757432605989 tw14915108327243833818 tw16326172643027452251 tw5677159846773357272 tw1144076769027966492 tw3424340350428981751 tw1578781960506488084 tw10424326623270592531 tw8776845481026518365 tw14592817205740964751 tw14459261553359291297 tw7355967808731650359 tw10320931971846350863 tw3101902644836865331 tw13778113032815416614 tw2657997373229164506 tw7577269918804573997 tw2865505636927433795 tw7510935566716156640 tw5863090822024890442 tw972279116313379704 tw4317794518970688987 tw11434990185250108533 tw11722522489935596471 tw9238755193663795115 tw13841189426765834252 tw10654938916504755924 tw13058380737533366236 tw12648385636556990385 tw3971350076267923284 tw4375278810275338170 tw14518138326403632921 tw9592611065378919378 tw11394939476888432200 tw14227418748793742762 tw8198922653499753181 tw6399610195277968046 tw7700134835663235586 tw3375369267185770615 tw9085866624236089958 tw13440645456183678921 tw12782602469578650918 tw5222581082736261649 tw8742028578435508045 tw89205897918491567 tw10457271491795095767 tw12866227259485741361 tw9013925489100051170 tw3118821587172117538 tw3559361184269832042 tw16245166311263981306 tw8132087165099233732 tw3872068782000893604 tw12061768581817766537 tw9638359909697239560 tw2180903052481574086 tw18406940783101290155 tw15527121818342817778 tw590407745271918439 tw6317704383300596045 tw10431369196719818151 tw1498318901145030335 tw16083822957581818578 tw2442931126146347496 tw16836324136708723978 tw11451790420413743989 tw13609232554909733875 tw227090593503488003 tw14786001897104458028 tw12065898807249184021 tw12502280593785994850 tw17210886910262688575 tw10496994408089144689 tw7298991252927055967 tw15639348330054008330 tw10409899400984466987 tw5278694149429971805 tw3803082189475156769 tw4192076431220087635 tw4463939329779546258 tw18203150806796391189 tw5706864329281757067 tw4332250231404552042 tw2626587985199864878 tw5279071432615980759 tw3492789078456826221 tw2780870869624360951 tw1066094788054120456 tw17322516835384429144 tw14500244339899870393 tw938497077969004247 tw11076988217445256823 tw398045179338834006 tw7405472558109481884 tw8368915859036861826 tw15785813629313753055 tw8060990012840219674 tw16489725363582675025 tw8155559338028324115 tw10822534400402835215 tw9030350137469692667 tw18427277033801439631 tw9769131132977738614 tw16875052995764480248 tw466982208213759339 tw14437884706504465310 tw1776173103315511962 tw10947376325956505384 tw11916986301097333154 tw10909694127272355796 tw7707315757639214523 tw1075982877252572065 tw557853270584290934 tw11731944058893165939 tw11719574660861511951 tw15630044300565971482 tw3917930054803324096 tw7602295722507534202 tw16514255342185786155 tw6538299839002446908 tw16265749684326874881 tw2711346444088626158 tw14373738715944627263 tw15472924208777270497 tw16847837625840019025 tw777217364704914772 tw14770554197661354979 tw3131166693867537840 tw14471311205697964731 tw17819159478723762865 tw16343697559775634128 tw18233709608959168804 tw16175026370186456931 tw14788873705474423081 tw1087725318694716281 tw7815983822334314959 tw1408723718264588199 tw18397293798670452383 tw10935978004306316771 tw3006589395489214701 tw8340210579104416871 tw4654735420415439013 tw1174344565548663038 tw6746309172021071866 tw8717581184223877268 tw15740171285460789972 tw7999889111988934649 tw17446087259078190575 tw2188035721974300199 tw18276186608412222478 tw14034887469424048185 tw1015324353913422644 tw15900385321573671721 tw2277637440344487643 tw18081683213879405123 tw6339128246976707133 tw15259552043188124649 tw7384708572853010885 tw401192851913551183 tw8055982982029036862 tw9346505213855082016 tw3451554946281224210 tw5121555925592653264 tw4077567531223236416 tw8527838954379069012 tw1036402998708179803 tw14943989427745269464 tw17547985202483760367 tw3081032412714985360 tw1966208273403543374 tw5366994988842231489 tw9144109626802124154 tw16441991596465832639 tw2606795158755038170 tw15337249554628392296 tw11819228310359435278 tw3294361096877489213 tw7181712306949511995 tw7235102478236603895 tw17897931235243213358 tw13945967851416746000 tw15709203273849148739 tw8052125961797698907 tw5394494451902803693 tw4193794705672669850 tw11748776417447831146 tw14820074338003161946 tw16453758032444766347 tw454196164292974981 tw16406405421171631779 tw13582312095922187243 tw6450503068446571746 tw2933668264044241490 tw2153942276108082170 tw17259077304909667960 tw2487667440203748674 tw14755214775255384961 tw18242876219208974084 tw6866942557830383870 tw4598888495878415703 tw3467046890028448987 tw17182471205903775683 tw810484883985929353 tw7418811578886128518 tw6031643044431184809 tw12227672159085877039 tw7497056407461741336 tw1812312770231759886 tw13008449780947019812 tw15788881528017638653 tw2188447241500622082 tw13435525260385559685 tw14287173522220618486 tw9423329499823378024 tw13392954921763733564 tw16889013518816629627 tw8263011264330825492 tw16165327940650173151 tw16814419690857496354 tw17373394446258550910 tw9516621497447805931 tw4915261124051986679 tw5417380588828641099 tw3333180365142211139 tw13525363626970291903 tw16152936657165735191 tw13817305537471855414 tw366132050019236334 tw4013946256893283609 tw10593599947695203976 tw8236483638003784104 tw6029882432852280373 tw14488673857602977384 tw8149166675707575420 tw5888808130829177011 tw12842982094308460179 tw1665546880838065339 tw5758082386299813168 tw9834371767899757560 tw12261510595612753775 tw10324141987395736079 tw10868443826540942791 tw12288962322157443273 tw15106280219949934996 tw760614132392798852 tw3381464165874976143 tw17057437185720009160 tw5086615874883736067 tw108446343361689295 tw5702393367674205609 tw15442385964408257692 tw9928326127165536488 tw3596891255712676338 tw3602473804125658947 tw2114646736852176246 tw11374766219756417456 tw290986811685935826 tw15636647623734908271 tw13199349867399548993 tw4271999582561429942 tw702803805353126910 tw8606722167900282179 tw5832254076988275499 tw1701864727284978013 tw14546919720792070066 tw14359912686551731274 tw441598244608821862 tw1710185531388947485 tw7130343932553967237 tw10493559180697160334 tw6566213145099738099 tw12100300774448183354 tw8511065034096509535 tw222089958010359182 tw10425349135630156436 tw11162904977917383037 tw7504566998682601614 tw6949832418325399972 tw5525620058211338440 tw4730409124013845782 tw15155215882230921193 tw18294759458495099540 tw16740317307996803456 tw7198070573785302357 tw10845712883239224093 tw11420392639838638931 tw11911335623436439535 tw12538855146918772725 tw1858198053050411755 tw10282671641392256330 tw1946025366419875991 tw7751806505304470697 tw5606936291615649133 tw8063154122051694356 tw15523042131138517624 tw17642329876240079822 tw3159761535526451130 tw9045508381945537772 tw12215246576763248890 tw3790497724749080149 tw14387231894812261231 tw4107286101935584309 tw13610946746432447365 tw1970381229878552143 tw5891988697196788148 tw15787719831322700418 tw15747035356879505810 tw16661446671212550259 tw8920263918362731450 tw10670932525832767490 tw17591582314572569811 tw8645493980844198747 tw14564202249547672263 tw15541885376614162996 tw2100325164356544195 tw5699155025629504404 tw3077315395440601230 tw10583294004230539783 tw10128300543426426702 tw8383147346496787979 tw16593697776102269025 tw9938839925508449589 tw13874345010719664598 tw11574105322592806255 tw6203801246240866170 tw13299005156871495826 tw4959102332981070418 tw5581207835554046819 tw397186433875780939 tw14219902417448915949 tw9917065903307168693 tw16892986314495988352 tw702984519025391723 tw9634428995232543679 tw1003611419168593901 tw2901488293963553789 tw125779002332008358 tw4999087666046443597 tw17554937730399549760 tw9168466706892273360 tw14052366530755472341 tw8629590549005416628 tw12079340304672752346 tw17140698511623607692 tw18268685796414978298 tw18403776753789090276 tw14741388971900901470 tw9248104502372906151 tw1599561614203275254 tw4126617304270320215 tw2018620260716484633 tw11466355684765912020 tw16501355904210732923 tw14333575779614268684 tw11890050980044338867 tw3059243673095976380 tw17630900645710573892 tw10856480225326191635 tw14201156087714622735 tw17088950566769680818 tw7421205128466914421 tw1997932762258297426 tw1062172031553191747 tw8236457640581718948 tw15798035604620069850 tw18007967534832882620 tw411493955220623743 tw10836886731257224619 tw14048296322051399422 tw9415130302069762141 tw18369496732008127725 tw482756511166501629 tw6709103129824191456 tw14889605117951107787 tw17322355875224052198 tw16393523639637138669 tw17987716338520550033 tw5744808331846918179 tw231101281333651531 tw113126111655145280 tw13792004729199696795 tw14347192438319411487 tw15158215677230173231 tw3352276904481722887 tw15354779429423519568 tw11075552785650500553 tw13931029461839477859 tw11009071005374727003 tw12458976170899319932 tw10453365149066823778 tw17447979812036800124 tw12646414567129747506 tw612992952043150885 tw12661191147107464982 tw14040268116129280473 tw7091025076297921672 tw5587933052805171109 tw14777596256304097081 tw2397166692688538184 tw6543985118059538937 tw5420018261237969111 tw5379725430547718411 tw16994078359237792513 tw2621931639041709021 tw1630729183890441831 tw14797074730771712020 tw5488456609412095569:True)
open PySem PySem.W PyProof.Rows
set_option maxRecDepth 100000 in
set_option maxHeartbeats 0 in
theorem PySem.Challenge.cw_bellferry_k28_whole_standing_still_holds : PySem.Challenge.rw_bellferry_k28_whole_standing_still.Holds := by
 w_on;o_law;k_head;(case hw=>w_witness2)
 k_fill
 refine My.walk (l:=PySem.Challenge.rw_bellferry_k28_whole_standing_still) rfl rfl (λw h Y=>PySem.W.kIn_of Y) ?F
 case F=>
  intro w mg fa h KX G hmg;refine' My.all_mk KX G hmg ?a1 ?l1 ?c1 ?k1 ?a2 ?l2 ?c2 ?k2 ?a3 ?l3 ?c3 ?k3 ?a4 ?l4 ?c4 ?k4 ?a5 ?l5 ?c5 ?k5 ?a6 ?l6 ?c6 ?k6 ?a7 ?l7 ?c7 ?k7 ?a8 ?l8 ?c8 ?k8 ?a9 ?l9 ?c9 ?k9 ?a10 ?l10 ?c10 ?k10 ?a11 ?l11 ?c11 ?k11 ?a12 ?l12 ?c12 ?k12 ?a13 ?l13 ?c13 ?k13 ?a14 ?l14 ?c14 ?k14 ?a15 ?l15 ?c15 ?k15 ?a16 ?l16 ?c16 ?k16 ?a17 ?l17 ?c17 ?k17 ?a18 ?l18 ?c18 ?k18 ?a19 ?l19 ?c19 ?k19 ?a20 ?l20 ?c20 ?k20 ?a21 ?l21 ?c21 ?k21 ?a22 ?l22 ?c22 ?k22 ?a23 ?l23 ?c23 ?k23 ?a24 ?l24 ?c24 ?k24 ?a25 ?l25 ?c25 ?k25 ?a26 ?l26 ?c26 ?k26 ?a27 ?l27 ?c27 ?k27 ?a28 ?l28 ?c28 ?k28 ?a29 ?l29 ?c29 ?k29 ?a30 ?l30 ?c30 ?k30 ?a31 ?l31 ?c31 ?k31 ?a32 ?l32 ?c32 ?k32 ?a33 ?l33 ?c33 ?k33 ?a34 ?l34 ?c34 ?k34 ?a35 ?l35 ?c35 ?k35 ?a36 ?l36 ?c36 ?k36 ?a37 ?l37 ?c37 ?k37 ?a38 ?l38 ?c38 ?k38 ?a39 ?l39 ?c39 ?k39 ?a40 ?l40 ?c40 ?k40 ?a41 ?l41 ?c41 ?k41 ?a42 ?l42 ?c42 ?k42 ?a43 ?l43 ?c43 ?k43 ?a44 ?l44 ?c44 ?k44 ?a45 ?l45 ?c45 ?k45 ?a46 ?l46 ?c46 ?k46 ?a47 ?l47 ?c47 ?k47 ?a48 ?l48 ?c48 ?k48 ?a49 ?l49 ?c49 ?k49 ?a50 ?l50 ?c50 ?k50 ?a51 ?l51 ?c51 ?k51 ?a52 ?l52 ?c52 ?k52 ?z1 ?z2 ?z3 ?z4 ?z5 ?z6 ?z7 ?z8 ?z9 ?z10 ?z11 ?z12 ?z13 ?g1 ?g2 ?g3 ?g4 ?g5 ?g6 ?g7 ?g8 ?g9 ?g10
  (case a1=>k_is)
  (case l1=>k_is)
  (case c1=>k_is)
  (case k1=>k_is)
  (case a2=>k_is)
  (case l2=>k_is)
  (case c2=>k_is)
  (case k2=>k_is)
  (case a3=>k_is)
  (case l3=>k_is)
  (case c3=>k_is)
  (case k3=>k_is)
  (case a4=>k_is)
  (case l4=>k_is)
  (case c4=>k_is)
  (case k4=>k_is)
  (case a5=>k_is)
  (case l5=>k_is)
  (case c5=>k_is)
  (case k5=>k_is)
  (case a6=>k_is)
  (case l6=>k_is)
  (case c6=>k_is)
  (case k6=>k_is)
  (case a7=>k_is)
  (case l7=>k_is)
  (case c7=>k_is)
  (case k7=>k_is)
  (case a8=>k_is)
  (case l8=>k_is)
  (case c8=>k_is)
  (case k8=>k_is)
  (case a9=>k_is)
  (case l9=>k_is)
  (case c9=>k_is)
  (case k9=>k_is)
  (case a10=>k_is)
  (case l10=>k_is)
  (case c10=>k_is)
  (case k10=>k_is)
  (case a11=>k_is)
  (case l11=>k_is)
  (case c11=>k_is)
  (case k11=>k_is)
  (case a12=>k_is)
  (case l12=>k_is)
  (case c12=>k_is)
  (case k12=>k_is)
  (case a13=>k_is)
  (case l13=>k_is)
  (case c13=>k_is)
  (case k13=>k_is)
  (case a14=>k_is)
  (case l14=>k_is)
  (case c14=>k_is)
  (case k14=>k_is)
  (case a15=>k_is)
  (case l15=>k_is)
  (case c15=>k_is)
  (case k15=>k_is)
  (case a16=>k_is)
  (case l16=>k_is)
  (case c16=>k_is)
  (case k16=>k_is)
  (case a17=>k_is)
  (case l17=>k_is)
  (case c17=>k_is)
  (case k17=>k_is)
  (case a18=>k_is)
  (case l18=>k_is)
  (case c18=>k_is)
  (case k18=>k_is)
  (case a19=>k_is)
  (case l19=>k_is)
  (case c19=>k_is)
  (case k19=>k_is)
  (case a20=>k_is)
  (case l20=>k_is)
  (case c20=>k_is)
  (case k20=>k_is)
  (case a21=>k_is)
  (case l21=>k_is)
  (case c21=>k_is)
  (case k21=>k_is)
  (case a22=>k_is)
  (case l22=>k_is)
  (case c22=>k_is)
  (case k22=>k_is)
  (case a23=>k_is)
  (case l23=>k_is)
  (case c23=>k_is)
  (case k23=>k_is)
  (case a24=>k_is)
  (case l24=>k_is)
  (case c24=>k_is)
  (case k24=>k_is)
  (case a25=>k_is)
  (case l25=>k_is)
  (case c25=>k_is)
  (case k25=>k_is)
  (case a26=>k_is)
  (case l26=>k_is)
  (case c26=>k_is)
  (case k26=>k_is)
  (case a27=>k_is)
  (case l27=>k_is)
  (case c27=>k_is)
  (case k27=>k_is)
  (case a28=>k_is)
  (case l28=>k_is)
  (case c28=>k_is)
  (case k28=>k_is)
  (case a29=>k_is)
  (case l29=>k_is)
  (case c29=>k_is)
  (case k29=>k_is)
  (case a30=>k_is)
  (case l30=>k_is)
  (case c30=>k_is)
  (case k30=>k_is)
  (case a31=>k_is)
  (case l31=>k_is)
  (case c31=>k_is)
  (case k31=>k_is)
  (case a32=>k_is)
  (case l32=>k_is)
  (case c32=>k_is)
  (case k32=>k_is)
  (case a33=>k_is)
  (case l33=>k_is)
  (case c33=>k_is)
  (case k33=>k_is)
  (case a34=>k_is)
  (case l34=>k_is)
  (case c34=>k_is)
  (case k34=>k_is)
  (case a35=>k_is)
  (case l35=>k_is)
  (case c35=>k_is)
  (case k35=>k_is)
  (case a36=>k_is)
  (case l36=>k_is)
  (case c36=>k_is)
  (case k36=>k_is)
  (case a37=>k_is)
  (case l37=>k_is)
  (case c37=>k_is)
  (case k37=>k_is)
  (case a38=>k_is)
  (case l38=>k_is)
  (case c38=>k_is)
  (case k38=>k_is)
  (case a39=>k_is)
  (case l39=>k_is)
  (case c39=>k_is)
  (case k39=>k_is)
  (case a40=>k_is)
  (case l40=>k_is)
  (case c40=>k_is)
  (case k40=>k_is)
  (case a41=>k_is)
  (case l41=>k_is)
  (case c41=>k_is)
  (case k41=>k_is)
  (case a42=>k_is)
  (case l42=>k_is)
  (case c42=>k_is)
  (case k42=>k_is)
  (case a43=>k_is)
  (case l43=>k_is)
  (case c43=>k_is)
  (case k43=>k_is)
  (case a44=>k_is)
  (case l44=>k_is)
  (case c44=>k_is)
  (case k44=>k_is)
  (case a45=>k_is)
  (case l45=>k_is)
  (case c45=>k_is)
  (case k45=>k_is)
  (case a46=>k_is)
  (case l46=>k_is)
  (case c46=>k_is)
  (case k46=>k_is)
  (case a47=>k_is)
  (case l47=>k_is)
  (case c47=>k_is)
  (case k47=>k_is)
  (case a48=>k_is)
  (case l48=>k_is)
  (case c48=>k_is)
  (case k48=>k_is)
  (case a49=>k_is)
  (case l49=>k_is)
  (case c49=>k_is)
  (case k49=>k_is)
  (case a50=>k_is)
  (case l50=>k_is)
  (case c50=>k_is)
  (case k50=>k_is)
  (case a51=>k_is)
  (case l51=>k_is)
  (case c51=>k_is)
  (case k51=>k_is)
  (case a52=>k_is)
  (case l52=>k_is)
  (case c52=>k_is)
  (case k52=>k_is)
  (case z1=>k_is)
  (case z2=>k_is)
  (case z3=>k_is)
  (case z4=>k_is)
  (case z5=>k_is)
  (case z6=>k_is)
  (case z7=>k_is)
  (case z8=>k_is)
  (case z9=>k_is)
  (case z10=>k_is)
  (case z11=>k_is)
  (case z12=>k_is)
  (case z13=>k_is)
  (case g1=>k_is)
  (case g2=>k_is)
  (case g3=>k_is)
  (case g4=>k_is)
  (case g5=>k_is)
  (case g6=>k_is)
  (case g7=>k_is)
  (case g8=>k_is)
  (case g9=>k_is)
  (case g10=>k_is)
#print axioms PySem.Challenge.cw_bellferry_k28_whole_standing_still_holds
