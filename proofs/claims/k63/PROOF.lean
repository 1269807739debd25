import PyProof.Rows.All
import Wide.All
import OpenK.AllK
import Wide.FinOn
import Lean
import PyProof.EqAt
import PyProof.EqKinds
import PyProof.TupleCall
import PySem.Challenge.RW_bellferry_k63_bounds_told
import PyProof.Rows.SetFrom
import PyProof.FactsAll.set_1
import PyProof.CollectWalk
import PyProof.Rows.SortStr
import PyProof.IsiH_list
import PyProof.ConsumeWalk
import PyProof.StrWalks
import PyProof.IsiH_tuple
import PyProof.SliceStr2
import PyProof.ListRange
import PyProof.Rows.Range3
import PyProof.Rows.CallKwBuiltin
import PyProof.WalkInts
import PyProof.FString5
set_option Elab.async false
set_option linter.all false
set_option maxRecDepth 100000
set_option maxHeartbeats 8000000
set_option genSizeOf false
set_option genSizeOfSpec false
noncomputable section
set_option bootstrap.genMatcherCode false
set_option compiler.extract_closed false
open PySem renaming Value→X0, World→Xj, Program→Xn, sysModules→YK, mainGlobals→Xf, bootBuiltins→YE, Around→Xz, Shared→X1, GenState→US, wpAny→X4, model→X8, backTo→Yn, starEach→XM, wpAny_mono→Ut, holding→Uu, wpAny_truthy_bool→Ud, swapsWith→V7, assignEach→Uv, wpAny_bind→X3, wpAny_holding→YF, pyNext→YV, letOwnedTupleGo→AX, wpAny_pure→Xa, wpAny_load→VU, rawInt→Y5, foldedSetIterable→AY, wpAny_passesOwn→WK, Operator→UT, binaryOp→Uw, compareOp→Y0, CmpOp→Yw, behindInMarks→WL, FuncData→Xm, codeAny→YW, codeAny_mono→WM, wpAny_Call_Name_kw→V8, Keyword→Ue, NameKind→Zc, wpAny_call_entry→Uf, wpAny_typeOf→V9, wpAny_newObj_type→Ux, typeLookup→VW, sliceBounds→Z5, attributeBase→WN, valueAt→Z6, tupleKind_room_in1→AZ, PyData→Yx, wpAny_richCompare_same_room→VX, wpAny_loadPart'→Yj, plainId_quiet→YL, codeAny_builtin→YM, codeAny_call_builtin→VY, wpAny_dictEntries→B0, wpAny_notOrdered_dict→B3, wpAny_isInstance→Va, SetTable→Yy, wpAny_setState_of→WO, wpAny_rule→Vb, wpAny_askSetting→WP, wpAny_pyIter_list→B4, typeLookup_type→VZ, builtinLookup_eq_fast→W0, wpAny_setField→W3, wpAny_seqItems→WQ, wpAny_updateSeq→WR, ownMembersOf→YX, getattributeRaised→B5, wpAny_tryCatch→W4
open List renaming getElem?_eq_getElem→Xc, length_map→X7, getElem?_eq_some_iff→XE, getElem?_map→Xq, mem_of_getElem?→XI, mem_cons→Xt, map_cons→XC, getD_eq_getElem?_getD→Yc, size_toArray→XT, mem_cons_of_mem→Ya, getElem_mem→XV, mem_map→XN, getElem_of_mem→Yd, getD_cons_succ→Ye, getD_cons_zero→Yf, not_mem_nil→Y1, mem_cons_self→Yg, mem_singleton→Yk, map_append→Y6, cons_append→Yb, nil_append→Y7, getElem?_append_right→Ug, map_map→XW, length_take→Yz, map_nil→Y2, getElem?_append_left→Uy, mem_append→YA, length_replicate→Zd, length_append→YY, take_add_one→YN, range→XX, length_cons→YZ, mem_append_right→Uz, nodup_cons→YO, replicate→Ze, lookup_cons→UA, nodup_append→UU, getElem?_eq_none→Vp, length_zip→UB, take_length→UV, mem_range→UC, mem_or_eq_of_mem_set→WT, eq_nil_of_length_eq_zero→B6, any_cons→UD, take_of_length_le→WU, length_set→Vq, foldl_append→W5, eq_of_mem_replicate→B7, length_eq_zero_iff→B8, find?_cons→W6, foldl_cons→W7, all_cons→Vr, getElem?_set→WV, getElem?_eq_none_iff→CM, getElem?_zip_eq_some→CN, length_drop→WW, append_assoc→B9, length_range→Ba, eraseIdx_eq_take_drop_succ→FV, getElem?_inj→Bb, map_set→W8, filterMap_cons→CO, append_nil→Bc, replicate_succ→CP, length_pos_iff→CQ, length_eraseIdx_of_lt→FW, ext_getElem?→CS, pairwise_map→CT, idxOf_lt_length_iff→FX, length→WX, getElem?_replicate→FY, getElem_inj→CU, map_fst_zip→CV, getElem_map→CW, getElem?_set_self→FZ, drop_eq_nil_of_le→G0, mem_filter→CY, of_mem_zip→CZ, map_id'→Bd, nodup_nil→D0, getD→WY
open PySem.W renaming Frag→X6, fnOf→X9, nsIn→Xi, keepIn→Xr, mg_of→Xo, codeIn→Xu, mg_none_of→Z7, kia_one→Uh, kia_tup→Ui, emptyDict→Vc, instObj→Vs, kitOne→Vt, findIn→W9, kitx_list→Be, kitx_dict→Bf, kitAny→Bg, methodObj→D3, cellsFrom_some→G1, OpenLaw→D4, lookIn→D6
open PySem.Heap renaming get?_push_of_some→Xs, get?_push_size→XS, lt_size→XA, get?_update_other→Uj, get?_update_self→UW, size_push→Uk, SameBut→Vd, ExtBut→Bh
open Bool renaming false_ne_true→XG, false_eq_true→Yo, and_eq_true→Yp, or_self→Wa, not_true→WZ, eq_iff_iff→Bi, not_false→Bj, true_or→Bk, or_eq_true→D7, or_true→Bl, false_and→D8, and_false→D9
open Nat renaming le_refl→Xl, ne_of_lt→XH, lt_of_lt_of_le→YQ, le_trans→Y3, zero_le→YD, lt_succ_of_lt→Vu, le_succ→Ul, lt_irrefl→Vv, ne_of_gt→Vw, lt_trans→Vx, le_of_eq→A0, succ_le_succ→Da, le_of_lt→Bm, not_lt_zero→Db
open Array renaming length_toList→XU, getElem?_eq_getElem→Vy, getElem?_eq_none→Dc, getElem?_toList→G2
open PySem.Value renaming none→XB, type→XJ, ref→XD, str→XL, bool→Yh, int→A3
open PySem.Around renaming under_plainId→Z0
open Option.some renaming inj→Yq, injEq→Bn
open Sum renaming inr→Xv, inl→Vz
open PySem.NameKind renaming free→Yr, cell→Wb
open PySem.Str renaming ofString→Ys, empty→Wc, length→Bo
open PyProof.Rows renaming callWith_type1→VA, slot_tuple_getitem→Dd, callWith_builtin1→G3
open PySem.Heap.SameBut renaming update→UX
open Int renaming emod_lt_of_pos→UY, emod_nonneg→UZ, toNat_natCast→Wd, toNat_of_nonneg→A5
open PySem.Builtin.Range renaming rangeSize→We, small→G4
open False renaming elim→YG
open True renaming intro→YH
open PySem.Builtin.Tuple renaming tupleCompareSizes→Bp, tupleExact→Bq
open PySem renaming mem_of_lookup→Wf
open PySem.Builtin.Str renaming strSliceIndices→Br
open Iff renaming rfl→Y8
open PySem.F renaming plain_max_loop→VB, slot_tuple_getattribute→Bs, slot_list_getattribute→Bt, called_set→Ve, slot_dict_keyiterator_iter→G5, slot_dict_clear→G6, entry_max_loop→De, sub_dict_dict→G7, slot_list_pop→G8, type_list_pop→G9, slot_dict_get→Ga, type_dict_get→Gb, slot_dict_eq→Gc, slot_dict_ne→Gd, slot_list_eq→Df, slot_list_ne→Dg
open PySem.Builtin.Slice renaming slicePlaces→Bu, sliceAdjust→Dh, sliceApplied→Ge
open PySem.Builtin.Dict renaming dictSlotArgs→Bv, updateFrom→Bw, selfAndRest→Gf, samePairs→Gg
open PySem.Data renaming fields→UE, seq→Z8
open PySem.SetTable renaming grown→VC, below→Bx
open PySem.Calls renaming spliced_cons→A6, spliced_nil→A7, Name_function_global→Gh, callWith_builtin→Gi
open PySem.Manifest renaming find?→Wg
open Sum.inr renaming inj→Vf
open Ne renaming symm→YI
open PySem.Obj renaming mapSeq→V0, data_mapFields→By, isFreed_of_fields→Di, cls_mapFields→Dj, mapFields→Dk
open PySem.Builtin.List renaming listTooLong→Dl, listExtendWith→Gj, listSameRef→Gk
open Option renaming map_eq_some_iff→Dm, toList_some→Do, isSome_map→Dq
open PySem.Shared renaming TypeIs→A8
open ForInStep renaming yield→Bz
open PySem.Builtin.Builtins renaming bindParams→Gm
open Nat.succ renaming inj→A9
open PySem.AutoSeq1 renaming sub_tuple_tuple→Gn, sub_list_list→Go
open PySem.Builtin.Frozenset renaming sizeOf→Gp
open PySem.Heap.DictOf renaming new→Dr
open PySem.SeqAt.EqAt renaming int_str→Gq, str_int→Gr
open PySem.ScopeKind renaming function→Gs
open PySem.Walks renaming list→BA
open PySem.SetTable.below renaming go→Gu
open Char renaming toNat→BB
open List.Pairwise renaming imp→Gv
open PySem.IsRange renaming new→Ds
namespace L2
open PySem PySem.Spec PyProof.Rows
theorem nl0 {α:Type _}{p:α->Prop}:∀x∈([]:List α),p x:=λ_ h=>nomatch h
theorem fMc{α:Type _}{p:α->Prop}{a:α}{l:List α}(h:p a/\∀x∈l,p x):∀x∈a::l,p x:=List.forall_mem_cons.2 h
noncomputable abbrev Key:=Sum Int Str
noncomputable def Wh:Key->X0->Bool
 |.inl k,v=>Value.isInt k v
 |.inr x,v=>Value.isStrOf x v
noncomputable def keyH(w:Xj):Key->Int
 |.inl k=>hashInt k
 |.inr x=>hashStr w x
theorem UF:∀{k:Key} {v:X0},Wh k v=true->(∃i t,k=Vz i/\v=A3 i t)\/(∃x t,k=Xv x/\v=XL x t)
 |.inl i,v,h=>by
  obtain⟨t,e⟩:=Value.isInt_shape (k:=i) (v:=v) h;exact .inl ⟨i,t,rfl,e⟩
 |.inr x,v,h=>by
  obtain⟨t,e⟩:=Value.isStrOf_shape (x:=x) (v:=v) h;exact .inr ⟨x,t,rfl,e⟩
theorem PK(i:Int)(t:Tok):Wh (.inl i) (.int i t)=true:=by simp[Wh,Value.isInt]
theorem PL(x:Str)(t:Tok):Wh (.inr x) (.str x t)=true:=by simp[Wh,Value.isStrOf]
theorem PM(a b:Int):decide ((Vz a:Key)=Vz b)=(a==b):=by
 by_cases e:a=b
 ·subst e;simp
 ·have h:¬(Vz a:Key)=Vz b:=λq=>e (Sum.inl.inj q);rw[decide_eq_false h];exact(beq_eq_false_iff_ne.mpr e).symm
theorem PN(a b:Str):decide ((Xv a:Key)=Xv b)=decide (a=b):=by
 by_cases e:a=b
 ·subst e;simp
 ·have h:¬(Xv a:Key)=Xv b:=λq=>e (Vf q);rw[decide_eq_false h,decide_eq_false e]
theorem PP(a:Int)(b:Str):decide ((Vz a:Key)=Xv b)=false:=decide_eq_false (λq=>nomatch q)
theorem PQ(a:Str)(b:Int):decide ((Xv a:Key)=Vz b)=false:=decide_eq_false (λq=>nomatch q)
noncomputable def Yt(prog:Xn)(w:Xj):PySem.KeyKind prog w Key where
 is:=Wh
 hash:=keyH w
 inj:=λv a b ha hb=>by
  rcases UF ha with⟨i,t,rfl,rfl⟩|⟨x,t,rfl,rfl⟩
  ·rcases UF hb with⟨j,u,rfl,e⟩|⟨y,u,rfl,e⟩
   ·injection e with e1 _;rw[e1]
   ·exact nomatch e
  ·rcases UF hb with⟨j,u,rfl,e⟩|⟨y,u,rfl,e⟩
   ·exact nomatch e
   ·injection e with e1 _;rw[e1]
 byValue:=λk v h=>by
  rcases UF h with⟨i,t,rfl,rfl⟩|⟨x,t,rfl,rfl⟩<;>rfl
 pyHash:=λhv h=>by
  rcases UF hv with⟨i,t,rfl,rfl⟩|⟨x,t,rfl,rfl⟩
  ·exact wpAny_pyHash_int h
  ·exact wpAny_pyHash_str h
 eqBool:=λhu hv h=>by
  rcases UF hu with⟨i,t,rfl,rfl⟩|⟨x,t,rfl,rfl⟩
  ·rcases UF hv with⟨j,u,rfl,rfl⟩|⟨y,u,rfl,rfl⟩
   ·rw[PM]at h;exact wpAny_eqBool_int h
   ·rw[PP]at h;exact Gq i t y u _ _ _ _ h
  ·rcases UF hv with⟨j,u,rfl,rfl⟩|⟨y,u,rfl,rfl⟩
   ·rw[PQ]at h;exact Gr x t j u _ _ _ _ h
   ·rw[PN]at h;exact wpAny_eqBool_str h
 «strs»:=λk x t v h=>by
  rcases UF h with⟨i,u,rfl,e⟩|⟨y,u,rfl,e⟩
  ·exact nomatch e
  ·injection e with e1 _;subst e1;cases v<;>rfl
theorem PR(prog:Xn)(w:Xj)(i:Int)(t:Tok):(Yt prog w).is (.inl i) (.int i t)=true:=PK i t
theorem PU(prog:Xn)(w:Xj)(x:Str)(t:Tok):(Yt prog w).is (.inr x) (.str x t)=true:=PL x t
inductive V where
 |non|bl (b:Bool)|int (i:Int)|str (x:Str)|byt (b:Array UInt8)|flt (b:UInt64)|ref (a:Addr)|ty (n:String)
  deriving DecidableEq
noncomputable def RelV:V->X0->Prop
 |.non,u=>u=XB
 |.bl b,u=>u=Yh b
 |.int i,u=>∃t,u=A3 i t
 |.str x,u=>∃t,u=XL x t
 |.byt b,u=>∃t,u=Value.bytes b t
 |.flt b,u=>∃t,u=Value.float b t
 |.ref a,u=>u=XD a
 |.ty n,u=>u=XJ n
noncomputable abbrev Vals:List V->List X0->Prop:=Paired RelV
theorem Vals.length{xs:List V}{us:List X0}(r:Vals xs us):xs.length=us.length:=Paired.length r
theorem Vals.get:∀{xs:List V} {us:List X0} {i:Nat} {x:V},Vals xs us->xs[i]?=some x->∃u,us[i]?=some u/\RelV x u
 |_,_,_,_,.nil,e=>by simp at e
 |_,_,0,_,.cons r _,e=>by simp at e;subst e;exact⟨_,rfl,r⟩
 |_,_,i+1,x,.cons _ t,e=>by
  obtain⟨u,h1,h2⟩:=Vals.get (i:=i) (x:=x) t (by simpa using e)
  exact⟨u,by simpa using h1,h2⟩
theorem Vals.set{x:V}{u:X0}(r:RelV x u):∀{xs:List V} {us:List X0} (i:Nat),Vals xs us->Vals (xs.set i x) (us.set i u)
 |_,_,_,.nil=>.nil
 |_,_,0,.cons _ t=>.cons r t
 |_,_,i+1,.cons q t=>.cons q (Vals.set r i t)
theorem Vals.append:∀{xs ys:List V} {us ws:List X0},Vals xs us->Vals ys ws->Vals (xs++ys) (us++ws)
 |_,_,_,_,.nil,s=>s
 |_,_,_,_,.cons r t,s=>.cons r (Vals.append t s)
theorem Vals.take:∀{xs:List V} {us:List X0} (n:Nat),Vals xs us->Vals (xs.take n) (us.take n)
 |_,_,0,_=>.nil
 |_,_,_+1,.nil=>.nil
 |_,_,n+1,.cons r t=>.cons r (Vals.take n t)
theorem Vals.drop:∀{xs:List V} {us:List X0} (n:Nat),Vals xs us->Vals (xs.drop n) (us.drop n)
 |_,_,0,r=>r
 |_,_,_+1,.nil=>.nil
 |_,_,n+1,.cons _ t=>Vals.drop n t
noncomputable def RelO:Option V->Option X0->Prop
 |some v,some u=>RelV v u
 |none,none=>True
 |_,_=>False
noncomputable def KV{κ:Type}:List (κ×V)->List (κ×X0)->Prop:=Paired fun(p:κ×V) (q:κ×X0)=>p.1=q.1/\RelV p.2 q.2
noncomputable def kV:Key->V
 |.inl i=>.int i
 |.inr x=>.str x
inductive HO where
 |lst (xs:List V)
 |tup (xs:List V)
 |dK (kvs:List (Key×V))|dT (kvs:List (List Key×V))
 |set (S:Int->Bool) (n:Nat)
 |ins (C dx:Addr) (fs:List (Str×V))
 |own (x:Addr)
 |xd (fs:List (Str×V))
 |met (f x:Addr)
 |rng (lo hi:Int)
 |frz (o:Obj) (u:HO)
 |tbl (ps:Array X0)
 |ext (φ:Heap->Prop)
noncomputable abbrev Hp:=Addr->Option HO
noncomputable def upd(H:Hp)(a:Addr)(o:HO):Hp:=λb=>if b=a then some o else H b
theorem UG{H:Hp}{a:Addr}{o:HO}:upd H a o a=some o:=by unfold upd;rw[if_pos rfl]
theorem XO{H:Hp}{a b:Addr}{o:HO}(h:b≠a):upd H a o b=H b:=by unfold upd;rw[if_neg h]
theorem Gw{H:Hp}{a b:Addr}{o u:HO}(h:H a=some o)(h':H b=some u)(d:o≠u):a≠b:=by
 intro e;subst e;rw[h]at h';exact d (Yq h')
theorem VD{H:Hp}{a b:Addr}{o:HO}(h:H a=some o)(h':H b=none):a≠b:=by
 intro e;subst e;rw[h]at h';cases h'
section
variable(P:Xn)(w:Xj)
noncomputable def ObjOk(H:Hp)(h:Heap)(a:Addr):HO->Prop
 |.lst xs=>xs.length≤sizeLine/\∃(its:List X0) (n:Nat),Vals xs its/\h.get? a=some {cls:=.type "list",data:=.seq its.toArray n}
 |.tup xs=>xs.length≤sizeLine/\∃its:List X0,Vals xs its/\IsTup h a its.toArray/\∃o,h.get? a=some o/\o.dict=none
 |.dK kvs=>kvs.length≤sizeLine/\(a==YK)=false/\∃vs,KV kvs vs/\h.DictOf (Yt P w) a vs
 |.dT kvs=>kvs.length≤sizeLine/\(a==YK)=false/\∃xs:List (List Key×Addr×X0),
   Paired (fun(p:List Key×V) (q:List Key×Addr×X0)=>p.1=q.1/\H q.2.1=some (.tup (p.1.map kV))/\RelV p.2 q.2.2) kvs xs/\
   ∃o es ep,h.get? a=some o/\o.ExactDict/\o.data=.dict es ep/\es.toList=xs.map (entryOfKey (tupleKind (Yt P w)))/\(xs.map (·.1)).Nodup
 |.set S n=>h.SetOf (intKind P w) a S n
 |.ins C dx fs=>H dx=some (.own a)/\fs.length≤1000/\dx≠a/\h.get? a=some (Vs C dx)/\
   ∃mA,h.Ns1 dx mA/\(∀f,RelO (fs.lookup f) (mA f))/\PySem.Within mA (fs.map (·.1))
 |.own _=>∃o,h.get? a=some o
 |.xd fs=>∃mA,h.Ns1 a mA/\∀f,RelO (fs.lookup f) (mA f)
 |.rng lo hi=>∃t u v,h.get? a=some {cls:=.type "range",data:=.fields #[.int lo t,.int hi u,.int 1 v]}
 |.frz o u=>h.get? a=some o/\ObjOk H h a u
 |.tbl ps=>h.get? a=some {cls:=.none,data:=.fields ps}
 |.met f x=>h.get? a=some (D3 (.ref f) (.ref x))
 |.ext φ=>φ h/\(∃o,h.get? a=some o)/\∀h1 h2:Heap,φ h1->(∀o,h1.get? a=some o->h2.get? a=some o)->φ h2
noncomputable def HOk(H:Hp)(h:Heap):Prop:=∀a o,H a=some o->ObjOk P w H h a o
end
section
variable{P:Xn}{w:Xj}{H H':Hp}{h h':Heap}{a:Addr}{o:HO}
theorem ObjOk.lt(x:ObjOk P w H h a o):a<h.objs.size:=by
 cases o with
 |lst xs=>obtain⟨_,_,_,_,e⟩:=x;exact XA e
 |tup xs=>obtain⟨_,_,_,p⟩:=x;exact p.1.lt
 |dK kvs=>obtain⟨_,_,_,_,o,_,_,e,_⟩:=x;exact XA e
 |dT kvs=>obtain⟨_,_,_,_,o,_,_,e,_⟩:=x;exact XA e
 |set S n=>obtain⟨o,_,_,_,e,_⟩:=x;exact XA e
 |ins C dx fs=>obtain⟨_,_,_,e,_⟩:=x;exact XA e
 |own y=>obtain⟨_,e⟩:=x;exact XA e
 |xd fs=>obtain⟨_,⟨_,_,_,e,_⟩,_⟩:=x;exact XA e
 |rng lo hi=>obtain⟨_,_,_,e⟩:=x;exact XA e
 |frz ob u=>obtain⟨e,_⟩:=x;exact XA e
 |tbl ps=>exact XA (show h.get? a=some _ from x)
 |met f y=>exact XA (show h.get? a=some _ from x)
 |ext φ=>obtain⟨_,⟨_,e⟩,_⟩:=x;exact XA e
theorem Paired.mapP{α β:Type}{F G:α->β->Prop}:∀{l₁:List α} {l₂:List β},Paired F l₁ l₂->(∀a b,F a b->G a b)->Paired G l₁ l₂
 |_,_,.nil,_=>.nil
 |_,_,.cons r t,f=>.cons (f _ _ r) (Paired.mapP t f)
theorem ObjOk.stay(x:ObjOk P w H h a o)(k:∀b u,(b=a\/H b=some (.own a))->h.get? b=some u->h'.get? b=some u)
  (ho:∀b,H b=some (.own a)->H' b=some (.own a)) (ht:∀b xs,H b=some (.tup xs)->H' b=some (.tup xs)):ObjOk P w H' h' a o:=by
 induction o with
 |lst xs=>obtain⟨z,its,n,r,e⟩:=x;exact⟨z,its,n,r,k _ _ (.inl rfl) e⟩
 |tup xs=>obtain⟨z,its,r,⟨ob,e,c⟩,o2,e2,c2⟩:=x;exact⟨z,its,r,⟨ob,k _ _ (.inl rfl) e,c⟩,o2,k _ _ (.inl rfl) e2,c2⟩
 |dK kvs=>obtain⟨z,y,vs,r,ob,es,ep,e,c⟩:=x;exact⟨z,y,vs,r,ob,es,ep,k _ _ (.inl rfl) e,c⟩
 |dT kvs=>
  obtain⟨z,y,xs,r,ob,es,ep,e,c⟩:=x;exact⟨z,y,xs,Paired.mapP r λp q z=>⟨z.1,ht _ _ z.2.1,z.2.2⟩,ob,es,ep,k _ _ (.inl rfl) e,c⟩
 |set S n=>obtain⟨ob,es,ep,t,e,c⟩:=x;exact⟨ob,es,ep,t,k _ _ (.inl rfl) e,c⟩
 |ins C dx fs=>
  obtain⟨d,z,ne,e,mA,⟨od,es,ep,e2,c⟩,r⟩:=x;exact⟨ho _ d,z,ne,k _ _ (.inl rfl) e,mA,⟨od,es,ep,k _ _ (.inr d) e2,c⟩,r⟩
 |own y=>obtain⟨ob,e⟩:=x;exact⟨ob,k _ _ (.inl rfl) e⟩
 |xd fs=>obtain⟨mA,⟨od,es,ep,e,c⟩,r⟩:=x;exact⟨mA,⟨od,es,ep,k _ _ (.inl rfl) e,c⟩,r⟩
 |rng lo hi=>obtain⟨t,u,v,e⟩:=x;exact⟨t,u,v,k _ _ (.inl rfl) e⟩
 |frz ob u ih=>obtain⟨e,q⟩:=x;exact⟨k _ _ (.inl rfl) e,ih q⟩
 |tbl ps=>
  have e:h.get? a=some {cls:=.none,data:=.fields ps}:=x;show h'.get? a=some {cls:=.none,data:=.fields ps};exact k a _ (.inl rfl) e
 |met f y=>
  have e:h.get? a=some (D3 (.ref f) (.ref y)):=x;show h'.get? a=some (D3 (.ref f) (.ref y));exact k a _ (.inl rfl) e
 |ext φ=>obtain⟨p,⟨o,e⟩,st⟩:=x;exact⟨st _ _ p λo q=>k _ _ (.inl rfl) q,⟨o,k _ _ (.inl rfl) e⟩,st⟩
theorem HOk.lt(x:HOk P w H h)(e:H a=some o):a<h.objs.size:=(x a o e).lt
theorem HOk.fresh(x:HOk P w H h)(e:h.objs.size≤a):H a=none:=by
 cases q:H a with
 |none=>rfl
 |some u=>exact absurd (YQ (x.lt q) e) (Vv _)
theorem HOk.kept(x:HOk P w H h)(k:∀b u,h.get? b=some u->h'.get? b=some u):HOk P w H h':=λa o e=>
 (x a o e).stay (λb u _ q=>k b u q) (λ_ q=>q) λ_ _ q=>q
theorem HOk.laid(x:HOk P w H h)(k:∀b u,h.get? b=some u->h'.get? b=some u)(hp:h.objs.size≤a)(new:ObjOk P w (upd H a o) h' a o):HOk P w (upd H a o) h':=λb u e=>by
 have hn:=x.fresh hp;by_cases hb:b=a
 ·subst hb;rw[UG]at e;cases e;exact new
 ·rw[XO hb]at e;exact(x b u e).stay (λc v _ q=>k c v q) (λc q=>by rw[XO (VD q hn)];exact q) λc xs q=>by rw[XO (VD q hn)];exact q
end
noncomputable def Rd(H:Hp)(a:Addr)(u:HO):Prop:=H a=some u\/∃o,H a=some (.frz o u)
theorem Rd.of{H:Hp}{a:Addr}{u:HO}(h:H a=some u):Rd H a u:=.inl h
theorem Rd.ok{P:Xn}{w:Xj}{H:Hp}{h:Heap}{a:Addr}{u:HO}(r:Rd H a u)(x:HOk P w H h):ObjOk P w H h a u:=by
 rcases r with r|⟨o,r⟩
 ·exact x a u r
 ·obtain⟨_,q⟩:=x a _ r;exact q
noncomputable def Mut:Option HO->Prop
 |some (.lst _)=>True
 |some (.dK _)=>True
 |some (.dT _)=>True
 |some (.set _ _)=>True
 |some (.ins _ _ _)=>True
 |some (.ext _)=>True
 |_=>False
section
variable{P:Xn}{w:Xj}{H:Hp}{h h':Heap}{x e:Addr}{o':HO}
theorem HOk.write(ok:HOk P w H h)(mu:Mut (H x))(he:e=x\/H e=some (.own x))(k:∀b u,b≠e->h.get? b=some u->h'.get? b=some u)(heo:∃u,h'.get? e=some u)
  (new:ObjOk P w (upd H x o') h' x o'):HOk P w (upd H x o') h':=λb u q=>by
 have nown:∀c y,H c=some (.own y)->c≠x:=λc y r z=>by subst z;rw[r]at mu;exact mu
 have ntup:∀c xs,H c=some (.tup xs)->c≠x:=λc xs r z=>by subst z;rw[r]at mu;exact mu
 by_cases hb:b=x
 ·subst hb;rw[UG]at q;cases q;exact new
 ·rw[XO hb]at q;by_cases hbe:b=e
  ·have q':H b=some (.own x):=by
    rcases he with z|z
    ·exact absurd (hbe.trans z) hb
    ·rw[hbe];exact z
   rw[q]at q';cases q';obtain⟨v,hv⟩:=heo;exact⟨v,by rw[hbe];exact hv⟩
  ·refine(ok b u q).stay (λc v hc r=>k c v ?_ r) (λc r=>by rw[XO (nown c b r)];exact r) λc xs r=>by rw[XO (ntup c xs r)];exact r
   rcases hc with rfl|hc
   ·exact hbe
   ·rintro rfl;rcases he with z|z
    ·exact nown c b hc z
    ·rw[hc]at z;cases z;exact hb rfl
end
structure Un (fs ex:List Addr) (H H':Hp) (h h':Heap):Prop where
 keep:∀b o,h.get? b=some o->H b=none->b∉fs->b∉ex->h'.get? b=some o
 slot:∀b o,h.get? b=some o->H b=none->b∈fs->b∉ex->∃sl,h'.get? b=some {o with slots:=sl}
 free:∀b o,h.get? b=some o->H b=none->b∉ex->H' b=none
 there:∀b o,h.get? b=some o->b∉ex->∃o',h'.get? b=some o'
 tups:∀b xs,H b=some (.tup xs)->H' b=some (.tup xs)
 frzs:∀b o u,H b=some (.frz o u)->H' b=some (.frz o u)
 tbls:∀b ps,H b=some (.tbl ps)->∃more,H' b=some (.tbl (ps++more))
section
variable{fs fs' ex ex':List Addr}{H H1 H2:Hp}{h h1 h2 h':Heap}{a x e:Addr}{o:HO}
theorem Un.any(u:Un fs ex H H1 h h1){b:Addr}{ob:Obj}(q:h.get? b=some ob)(n:H b=none)(hx:b∉ex):∃sl,h1.get? b=some {ob with slots:=sl}:=by
 by_cases hb:b∈fs
 ·exact u.slot b ob q n hb hx
 ·exact⟨ob.slots,u.keep b ob q n hb hx⟩
theorem Un.trans(a:Un fs ex H H1 h h1)(b:Un fs ex H1 H2 h1 h2):Un fs ex H H2 h h2 where
 keep:=λc ob q n hc hx=>b.keep c ob (a.keep c ob q n hc hx) (a.free c ob q n hx) hc hx
 slot:=λc ob q n hc hx=>by
  obtain⟨sl,e1⟩:=a.slot c ob q n hc hx;obtain⟨sl',e2⟩:=b.slot c _ e1 (a.free c ob q n hx) hc hx;exact⟨sl',e2⟩
 free:=λc ob q n hx=>by
  obtain⟨o',e1⟩:=a.there c ob q hx;exact b.free c o' e1 (a.free c ob q n hx) hx
 there:=λc ob q hx=>by
  obtain⟨o',e1⟩:=a.there c ob q hx;exact b.there c o' e1 hx
 tups:=λc xs q=>b.tups c xs (a.tups c xs q)
 frzs:=λc ob xs q=>b.frzs c ob xs (a.frzs c ob xs q)
 tbls:=λc ps q=>by
  obtain⟨m1,e1⟩:=a.tbls c ps q;obtain⟨m2,e2⟩:=b.tbls c _ e1;exact⟨m1++m2,by rw[e2,Array.append_assoc]⟩
theorem Un.kept(k:∀b u,h.get? b=some u->h'.get? b=some u):Un fs ex H H h h':=
 ⟨λb ob q _ _ _=>k b ob q,λb ob q _ _ _=>⟨ob.slots,k b ob q⟩,λ_ _ _ n _=>n,λb ob q _=>⟨ob,k b ob q⟩,λ_ _ q=>q,λ_ _ _ q=>q,λ_ ps q=>⟨#[],by rw[q];simp⟩⟩
theorem Un.refl:Un fs ex H H h h:=Un.kept λ_ _ q=>q
theorem Un.laid(k:∀b u,h.get? b=some u->h'.get? b=some u)(hp:h.objs.size≤a)(hn:H a=none):Un fs ex H (upd H a o) h h' where
 keep:=λb u q _ _ _=>k b u q
 slot:=λb u q _ _ _=>⟨u.slots,k b u q⟩
 free:=λb u q n _=>by rw[XO (XH (YQ (XA q) hp))];exact n
 there:=λb u q _=>⟨u,k b u q⟩
 tups:=λb xs q=>by rw[XO (VD q hn)];exact q
 frzs:=λb u xs q=>by rw[XO (VD q hn)];exact q
 tbls:=λb ps q=>⟨#[],by rw[XO (VD q hn),q];simp⟩
theorem Un.write(mu:Mut (H x))(he:e=x\/H e=some (.own x))(k:∀b u,b≠e->h.get? b=some u->h'.get? b=some u)(heo:∃u,h'.get? e=some u):Un fs ex H (upd H x o) h h':=by
 have hx:∀b,H b=none->b≠x:=λb n z=>by subst z;rw[n]at mu;exact mu
 have hb:∀b,H b=none->b≠e:=λb n z=>by
  subst z;rcases he with r|r
  ·exact hx b n r
  ·rw[n]at r;cases r
 have hm:∀b u,H b=some u->¬Mut (some u)->b≠x:=λb u q nm z=>by subst z;rw[q]at mu;exact nm mu
 refine⟨λb u q n _ _=>k b u (hb b n) q,λb u q n _ _=>⟨u.slots,k b u (hb b n) q⟩,λb u q n _=>by rw[XO (hx b n)];exact n,λb u q _=>?_,
  λb xs q=>by rw[XO (hm b _ q λz=>z)];exact q,λb u xs q=>by rw[XO (hm b _ q λz=>z)];exact q,λb ps q=>⟨#[],by rw[XO (hm b _ q λz=>z),q];simp⟩⟩
 by_cases hbe:b=e
 ·subst hbe;exact heo
 ·exact⟨u,k b u hbe q⟩
end
noncomputable def trk(h:Heap)(H:Hp):List Addr:=(XX h.objs.size).filter λa=>(H a).isSome
noncomputable def hidT(h:Heap)(H:Hp):Heap:=PySem.W.hideAll h (trk h H)
theorem PV(h:Heap)(H:Hp):(hidT h H).objs.size=h.objs.size:=PySem.W.hideAll_size _ _
theorem PX{h:Heap}{H:Hp}{b:Addr}{o:Obj}(e:h.get? b=some o)(n:H b=none):(hidT h H).get? b=some o:=
 PySem.W.hideAll_get _ e λhm=>by
  have q:(H b).isSome=true:=(CY.mp hm).2;rw[n]at q;simp at q
theorem PY{h:Heap}{H:Hp}{b:Addr}{o:Obj}(e:(hidT h H).get? b=some o):h.get? b=some o/\H b=none:=by
 have e':h.get? b=some o:=PySem.W.of_hideAll (trk h H) e;refine⟨e',?_⟩;cases q:H b with
 |none=>rfl
 |some x=>
  have hm:b∈trk h H:=CY.mpr ⟨UC.mpr (XA e'),by simp[q]⟩
  have z:(hidT h H).get? b=none:=PySem.W.hideAll_none (trk h H) hm;rw[z]at e;cases e
noncomputable def PZ(g h:Heap)(L:Addr):List (Addr×Obj):=(XX h.objs.size).filterMap λa=>if a=L\/(g.get? a).isSome=true then none else(h.get? a).map λo=>(a,o)
noncomputable def rest(g h:Heap)(L d:Addr):List (Addr×Obj):=(PZ g h L).filter λp=>decide (p.1≠d)
structure Mod (K:X6) (mg:Str->Option X0) (base:Heap):Prop where
 kin:K.In base
 glob:base.Ns Xf mg
 blt:∃mb,base.Ns builtinsNs mb/\∀x:Str,x≠"__name__"->mb x=YE x
 nolimit:base.NoLimit
structure Cx where
 prog:Xn
 w:Xj
 K:X6
 mg:Str->Option X0
 base:Heap
 A:Xz
 N:List Str
 s₀:X1
 H₀:Hp
 env:Env
 outer:List Env
 stack:List Env
 ex:List Addr
 fn:Str->Bool
 calm:Bool
 pn:List (Addr×Obj)
 xe:X0->X1->Prop
noncomputable def frs(l:List Env):List Addr:=l.filterMap (·.frame)
noncomputable abbrev Cx.fs(X:Cx):List Addr:=frs X.outer
noncomputable def Vis(sc:Scope)(x:Str):Prop:=sc.names.lookup x=some .local\/sc.names.lookup x=some .cell\/sc.names.lookup x=some .free
noncomputable def Loc(sc:Scope)(x:Str):Prop:=sc.names.lookup x=some .local\/sc.names.lookup x=some .cell
noncomputable def Look(env:Env)(h:Heap)(m:Str->Option X0)(x:Str)(u:X0):Prop:=
 (env.kindOf x=some .local/\m x=some u)\/((env.kindOf x=some .cell\/env.kindOf x=some .free)/\∃c,env.cells.lookup x=some c/\h.IsCell c (some u))
structure Cx.Ok (X:Cx):Prop where
 mod:Mod X.K X.mg X.base
 kind:X.env.scope.kind=.function
 glob:X.env.globals=Xf
 blt:X.env.builtins=builtinsNs
 above:X.s₀.heap.objs.size≤X.env.locals
 inj:∀x y c,X.env.cells.lookup x=some c->X.env.cells.lookup y=some c->x=y
 has:∀x,(X.env.kindOf x=some .cell\/X.env.kindOf x=some .free)->∃c,X.env.cells.lookup x=some c
 cab:∀x c,X.fn x=true->X.env.cells.lookup x=some c->X.s₀.heap.objs.size≤c
 hd:X.calm=true->X.A.handled=none
 frames:X.A.frames=some X.stack
 stk:X.stack=X.outer\/(X.stack=X.env::X.outer/\X.env.frame=some X.env.locals)
 exf:∀b∈X.ex,b≠X.env.locals/\∀x c,X.env.cells.lookup x=some c->c≠b
 bs:∀b o,X.base.get? b=some o->X.s₀.heap.get? b=some o/\X.H₀ b=none
 bsz:X.base.objs.size≤X.s₀.heap.objs.size
 noex:∀b o,X.base.get? b=some o->b∉X.ex
 exfs:∀b∈X.ex,b∉X.fs
 funs:X.s₀.heap.FunFrames X.base X.outer
 frf:∀b∈X.fs,X.H₀ b=none
structure Inv (X:Cx) (pins:List (Addr×Obj)) (σ:List (Option V)) (H:Hp) (s:X1):Prop where
 ok:X.Ok
 os:s.os=X.s₀.os
 bare:AllBare s.gens
 base:Un X.fs X.ex X.H₀ H X.s₀.heap s.heap
 loc:∃m,s.heap.Ns X.env.locals m/\∀(i:Nat) (x:Str) (v:V),X.N[i]?=some x->σ[i]?=some (some v)->Vis X.env.scope x->∃u,RelV v u/\Look X.env s.heap m x u
 cell:∀x c,X.env.cells.lookup x=some c->∃v,s.heap.IsCell c v
 free:H X.env.locals=none
 freeC:∀x c,X.env.cells.lookup x=some c->H c=none
 pin:∀p∈X.pn++pins,s.heap.get? p.1=some p.2/\H p.1=none/\p.1≠X.env.locals/\p.1∉X.fs/\∀v,p.2.data≠.cell v
 hok:HOk X.prog X.w H s.heap
 len:σ.length=X.N.length
section
variable{X:Cx}{pins:List (Addr×Obj)}{σ:List (Option V)}{H H':Hp}{s:X1}{h':Heap}
theorem Cx.Ok.nofr(ok:X.Ok){b:Addr}{o:Obj}(e:X.base.get? b=some o):b∉X.fs:=λhb=>by
 have:=(ok.funs.mem hb).1;rw[e]at this;cases this
theorem Inv.bs(I:Inv X pins σ H s):∀b o,X.base.get? b=some o->s.heap.get? b=some o/\H b=none:=λb o e=>
 ⟨I.base.keep b o (I.ok.bs b o e).1 (I.ok.bs b o e).2 (I.ok.nofr e) (I.ok.noex b o e),I.base.free b o (I.ok.bs b o e).1 (I.ok.bs b o e).2 (I.ok.noex b o e)⟩
theorem Inv.bk(I:Inv X pins σ H s):∀b o,X.base.get? b=some o->s.heap.get? b=some o:=λb o e=>(I.bs b o e).1
theorem Inv.mod(I:Inv X pins σ H s):Mod X.K X.mg X.base:=I.ok.mod
theorem Inv.kIn(I:Inv X pins σ H s):X.K.In s.heap:=I.ok.mod.kin.keeps I.bk
theorem Inv.fr(I:Inv X pins σ H s):∃m,Fr X.base X.env.locals s.heap m:=
 let⟨m,hn,_⟩:=I.loc
 ⟨m,hn,I.bk,Y3 I.ok.bsz I.ok.above⟩
theorem Inv.lt(I:Inv X pins σ H s):X.env.locals<s.heap.objs.size:=let⟨_,hn,_⟩:=I.loc;hn.lt
theorem Inv.sz(I:Inv X pins σ H s):X.s₀.heap.objs.size≤s.heap.objs.size:=Y3 I.ok.above (Bm I.lt)
theorem Inv.nofs(I:Inv X pins σ H s){a:Addr}(h:s.heap.objs.size≤a):a∉X.fs:=λhb=>by
 obtain⟨_,o,ho,_⟩:=I.ok.funs.mem hb;exact absurd (YQ (XA ho) (Y3 I.sz h)) (Vv _)
theorem Inv.cne(I:Inv X pins σ H s):∀x c,X.env.cells.lookup x=some c->c≠X.env.locals:=λx c e z=>by
 obtain⟨v,o,ho,hd⟩:=I.cell x c e;obtain⟨m,⟨o',es,ep,ho',hd',_⟩,_⟩:=I.loc;rw[z,ho']at ho;cases ho;rw[hd']at hd;cases hd
theorem Inv.funs(I:Inv X pins σ H s):s.heap.FunFrames X.base X.outer:=by
 have all:∀(l:List Env),(∀b∈frs l,b∈X.fs)->X.s₀.heap.FunFrames X.base l->s.heap.FunFrames X.base l:=by
  intro l
  induction l with
  |nil=>intro _ _;trivial
  |cons env r ih=>
   intro hs hl;obtain⟨hk,⟨L,o,hf,hn,ho,hd⟩,hr⟩:=hl;have hL:L∈X.fs:=hs L (by unfold frs;rw[CO,hf];exact Yg)
   obtain⟨sl,e⟩:=I.base.slot L o ho (I.ok.frf L hL) hL λz=>I.ok.exfs L z hL;exact⟨hk,⟨L,_,hf,hn,e,hd⟩,ih (λb hb=>hs b (by unfold frs;rw[CO,hf];exact Ya _ hb)) hr⟩
 exact all X.outer (λ_ hb=>hb) I.ok.funs
theorem Inv.stack(I:Inv X pins σ H s):s.heap.FunFrames X.base X.stack:=by
 rcases I.ok.stk with e|⟨e,hf⟩
 ·rw[e];exact I.funs
 ·rw[e];obtain⟨m,hn,_⟩:=I.loc;refine .cons (by rw[I.ok.kind];decide) hf hn ?_ I.funs
  exact Heap.get?_none_of_le (Y3 I.ok.bsz I.ok.above)
theorem Inv.stkSub(I:Inv X pins σ H s):∀b∈frs X.stack,b∈X.env.locals::X.fs:=λb hb=>by
 rcases I.ok.stk with e|⟨e,hf⟩
 ·rw[e]at hb;exact Ya _ hb
 ·rw[e]at hb;unfold frs at hb;rw[CO,hf]at hb;exact hb
theorem Inv.stkFree(I:Inv X pins σ H s):∀b∈frs X.stack,H b=none:=λb hb=>by
 rcases Xt.mp (I.stkSub b hb)with e|hb
 ·rw[e];exact I.free
 ·obtain⟨_,o,ho,_⟩:=I.ok.funs.mem hb;exact I.base.free b o ho (I.ok.frf b hb) λz=>I.ok.exfs b z hb
theorem Inv.step{g':Array US}{t':Nat}{d':Drawn}{ch:List Addr}(I:Inv X pins σ H s)
  (hch:∀b∈ch,(b∈X.ex\/X.s₀.heap.objs.size≤b)/\b≠X.env.locals/\(∀x c,X.env.cells.lookup x=some c->c≠b)/\∀p∈X.pn++pins,p.1≠b)
  (keep:∀b o,b≠X.env.locals->b∉X.fs->b∉ch->s.heap.get? b=some o->H b=none->h'.get? b=some o)
  (slot:∀b o,b≠X.env.locals->b∈X.fs->b∉ch->s.heap.get? b=some o->H b=none->∃sl,h'.get? b=some {o with slots:=sl}) (free:∀b o,b∉ch->s.heap.get? b=some o->H b=none->H' b=none)
  (there:∀b o,b∉ch->s.heap.get? b=some o->∃o',h'.get? b=some o')
  (tups:∀b xs,H b=some (.tup xs)->H' b=some (.tup xs)) (frzs:∀b o u,H b=some (.frz o u)->H' b=some (.frz o u)) (tbls:∀b ps,H b=some (.tbl ps)->∃more,H' b=some (.tbl (ps++more)))
  (ns:∀m,s.heap.Ns X.env.locals m->h'.Ns X.env.locals m) (hok:HOk X.prog X.w H' h') (hg:AllBare g'):
  Inv X pins σ H' {s with heap:=h',gens:=g',drawn:=d',toks:=t'}:=by
 have neL:∀b o,X.s₀.heap.get? b=some o->b≠X.env.locals:=λb o e=>XH (YQ (XA e) I.ok.above);have neC:∀b o,X.s₀.heap.get? b=some o->b∉X.ex->b∉ch:=λb o e hx hb=>by
  rcases(hch b hb).1 with z|z
  ·exact hx z
  ·exact absurd (YQ (XA e) z) (Vv _)
 have cellK:∀x c,X.env.cells.lookup x=some c->∀v,s.heap.IsCell c v->h'.IsCell c v:=λx c e v ⟨o,ho,hd⟩=>by
  have nch:c∉ch:=λz=>(hch c z).2.2.1 x c e rfl;by_cases hc:c∈X.fs
  ·obtain⟨sl,q⟩:=slot c o (I.cne x c e) hc nch ho (I.freeC x c e);exact⟨_,q,hd⟩
  ·exact⟨o,keep c o (I.cne x c e) hc nch ho (I.freeC x c e),hd⟩
 refine⟨I.ok,I.os,hg,⟨λb o e n hb hx=>?_,λb o e n hb hx=>?_,λb o e n hx=>?_,λb o e hx=>?_,λb xs e=>tups b xs (I.base.tups b xs e),λb o xs e=>frzs b o xs (I.base.frzs b o xs e),λb ps e=>?_⟩,?_,λx c e=>?_,?_,λx c e=>?_,λp hp=>?_,hok,I.len⟩
 ·exact keep b o (neL b o e) hb (neC b o e hx) (I.base.keep b o e n hb hx) (I.base.free b o e n hx)
 ·obtain⟨sl,e1⟩:=I.base.slot b o e n hb hx;obtain⟨sl',e2⟩:=slot b _ (neL b o e) hb (neC b o e hx) e1 (I.base.free b o e n hx);exact⟨sl',e2⟩
 ·obtain⟨o',e1⟩:=I.base.there b o e hx;exact free b o' (neC b o e hx) e1 (I.base.free b o e n hx)
 ·obtain⟨o',e1⟩:=I.base.there b o e hx;exact there b o' (neC b o e hx) e1
 ·obtain⟨m1,e1⟩:=I.base.tbls b ps e;obtain⟨m2,e2⟩:=tbls b _ e1;exact⟨m1++m2,by rw[e2,Array.append_assoc]⟩
 ·obtain⟨m,hn,hl⟩:=I.loc;refine⟨m,ns m hn,λi x v e1 e2 e3=>?_⟩;obtain⟨u,r,l⟩:=hl i x v e1 e2 e3;refine⟨u,r,?_⟩;rcases l with l|⟨k,c,e,z⟩
  ·exact .inl l
  ·exact .inr ⟨k,c,e,cellK x c e _ z⟩
 ·obtain⟨v,z⟩:=I.cell x c e;exact⟨v,cellK x c e v z⟩
 ·obtain⟨m,⟨o,_,_,ho,_⟩,_⟩:=I.loc;exact free _ o (λz=>(hch _ z).2.1 rfl) ho I.free
 ·obtain⟨v,o,ho,hd⟩:=I.cell x c e;exact free c o (λz=>(hch c z).2.2.1 x c e rfl) ho (I.freeC x c e)
 ·obtain⟨e,n,ne,nf,d⟩:=I.pin p hp;have nch:p.1∉ch:=λz=>(hch p.1 z).2.2.2 p hp rfl;exact⟨keep p.1 p.2 ne nf nch e n,free p.1 p.2 nch e n,ne,nf,d⟩
theorem Inv.un{t':Nat}(I:Inv X pins σ H s)(u:Un X.fs [] H H' s.heap h')(hok:HOk X.prog X.w H' h'):Inv X pins σ H' {s with heap:=h',toks:=t'}:=by
 obtain⟨m,⟨o,es,ep,ho,r⟩,_⟩:=id I.loc;obtain⟨sl,hL⟩:=u.any ho I.free (by simp)
 exact I.step (g':=s.gens) (d':=s.drawn) (ch:=[]) (λ_ z=>nomatch z) (λb o _ hb _ e n=>u.keep b o e n hb (by simp)) (λb o _ hb _ e n=>u.slot b o e n hb (by simp)) (λb o _ e n=>u.free b o e n (by simp)) (λb o _ e=>u.there b o e (by simp)) u.tups u.frzs u.tbls (λm' hm=>by
  obtain⟨o',es',ep',ho',r'⟩:=hm;rw[ho]at ho';cases ho';exact⟨_,es',ep',hL,r'⟩) hok I.bare
theorem Inv.call{g':Array US}{t':Nat}{d':Drawn}{ch:List Addr}(I:Inv X pins σ H s)(u:Un (frs X.stack) ch H H' s.heap h')(hok:HOk X.prog X.w H' h')(hg:AllBare g')
  (hch:∀b∈ch,(b∈X.ex\/X.s₀.heap.objs.size≤b)/\b≠X.env.locals/\(∀x c,X.env.cells.lookup x=some c->c≠b)/\∀p∈X.pn++pins,p.1≠b):
  Inv X pins σ H' {s with heap:=h',gens:=g',drawn:=d',toks:=t'}:=by
 obtain⟨m,⟨o,es,ep,ho,r⟩,_⟩:=id I.loc;obtain⟨sl,hL⟩:=u.any ho I.free λz=>(hch _ z).2.1 rfl;exact I.step (ch:=ch) hch (λb o hL hb hc e n=>u.keep b o e n (λz=>(Xt.mp (I.stkSub b z)).elim hL hb) hc) (λb o _ _ hc e n=>u.any e n hc) (λb o hc e n=>u.free b o e n hc) (λb o hc e=>u.there b o e hc) u.tups u.frzs u.tbls (λm' hm=>by
  obtain⟨o',es',ep',ho',r'⟩:=hm;rw[ho]at ho';cases ho';exact⟨_,es',ep',hL,r'⟩) hok hg
theorem Inv.turned{t':Nat}{it:Addr}(I:Inv X pins σ H s)(k:∀b o,b≠it->s.heap.get? b=some o->h'.get? b=some o)(hn:H it=none)(hL:it≠X.env.locals)
  (h1:it∈X.ex\/X.s₀.heap.objs.size≤it) (h2:∀x c,X.env.cells.lookup x=some c->c≠it) (h3:∀p∈X.pn++pins,p.1≠it):Inv X pins σ H {s with heap:=h',toks:=t'}:=by
 have nit:∀b u,H b=some u->b≠it:=λb u e z=>by rw[z,hn]at e;cases e
 refine I.step (g':=s.gens) (d':=s.drawn) (ch:=[it]) (λb hb=>?_) (λb o _ _ hc e _=>k b o (λz=>hc (by simp[z])) e) (λb o _ _ hc e _=>⟨o.slots,k b o (λz=>hc (by simp[z])) e⟩) (λ_ _ _ _ n=>n)
  (λb o hc e=>⟨o,k b o (λz=>hc (by simp[z])) e⟩) (λ_ _ e=>e) (λ_ _ _ e=>e) (λb ps e=>⟨#[],by rw[e];simp⟩) (λm hm=>?_) (λb u e=>?_) I.bare
 ·have e:b=it:=by simpa using hb
  subst e;exact⟨h1,hL,h2,h3⟩
 ·obtain⟨o,es,ep,ho,r⟩:=hm;exact⟨o,es,ep,k _ o (YI hL) ho,r⟩
 ·refine(I.hok b u e).stay (λc v hc q=>k c v ?_ q) (λ_ q=>q) λ_ _ q=>q;rcases hc with z|z
  ·rw[z];exact nit b u e
  ·exact nit c _ z
theorem Inv.tok(I:Inv X pins σ H s)(t:Nat):Inv X pins σ H {s with toks:=t}:=I.un (h':=s.heap) (t':=t) Un.refl I.hok
theorem Inv.kept{t':Nat}(I:Inv X pins σ H s)(k:∀b u,s.heap.get? b=some u->h'.get? b=some u):Inv X pins σ H {s with heap:=h',toks:=t'}:=I.un (Un.kept k) (I.hok.kept k)
theorem Inv.laid{a:Addr}{o:HO}{t':Nat}(I:Inv X pins σ H s)(k:∀b u,s.heap.get? b=some u->h'.get? b=some u)(hp:s.heap.objs.size≤a)(new:ObjOk X.prog X.w (upd H a o) h' a o):
  Inv X pins σ (upd H a o) {s with heap:=h',toks:=t'}:=I.un (Un.laid k hp (I.hok.fresh hp)) (I.hok.laid k hp new)
theorem Inv.write{x e:Addr}{o:HO}{t':Nat}(I:Inv X pins σ H s)(mu:Mut (H x))(he:e=x\/H e=some (.own x))(k:∀b u,b≠e->s.heap.get? b=some u->h'.get? b=some u)(heo:∃u,h'.get? e=some u)
  (new:ObjOk X.prog X.w (upd H x o) h' x o):Inv X pins σ (upd H x o) {s with heap:=h',toks:=t'}:=I.un (Un.write mu he k heo) (I.hok.write mu he k heo new)
theorem Inv.weak{σ':List (Option V)}(I:Inv X pins σ H s)(hl:σ'.length=σ.length)(w:∀(i:Nat) v,σ'[i]?=some (some v)->σ[i]?=some (some v)):Inv X pins σ' H s:=
 ⟨I.ok,I.os,I.bare,I.base,let⟨m,hn,hl'⟩:=I.loc;⟨m,hn,λi x v e1 e2 e3=>hl' i x v e1 (w i v e2) e3⟩,I.cell,I.free,I.freeC,I.pin,I.hok,hl.trans I.len⟩
theorem Inv.pins_of{pins':List (Addr×Obj)}(I:Inv X pins σ H s)(h:∀p∈pins',s.heap.get? p.1=some p.2/\H p.1=none/\p.1≠X.env.locals/\p.1∉X.fs/\∀v,p.2.data≠.cell v):Inv X pins' σ H s:=
 ⟨I.ok,I.os,I.bare,I.base,I.loc,I.cell,I.free,I.freeC,λp hp=>(YA.mp hp).elim (λz=>I.pin p (List.mem_append_left _ z)) (h p),I.hok,I.len⟩
theorem Gx{N:List Str}(hN:N.Nodup){i j:Nat}{x:Str}(a:N[i]?=some x) (b:N[j]?=some x):i=j:=by
 obtain⟨h1,e1⟩:=XE.mp a;obtain⟨h2,e2⟩:=XE.mp b;exact(CU hN).mp (e1.trans e2.symm)
theorem Gy{M:Model}{A:Xz}{E:X0->X1->Prop}{i:Nat}{x:Str}{v:V}{u:X0}{Q:Unit->X1->Prop}(I:Inv X pins σ H s)(hN:X.N.Nodup)(hi:X.N[i]?=some x) (hx:Loc X.env.scope x) (r:RelV v u)
  (h:∀s',Inv X pins (σ.set i (some v)) H s'->(∃a,Vd a s.heap s'.heap/\(a=X.env.locals\/X.env.cells.lookup x=some a))->Q () s') (hf:X.fn x=true\/X.env.scope.names.lookup x=some .local:=by first|exact .inl rfl|exact .inr rfl|assumption):X4 M A (storeName X.env x u) Q E s:=by
 obtain⟨m,hn,hl⟩:=id I.loc;have hcls:(X.env.scope.kind==.class||(X.env.scope.kind==.module&&X.env.locals != X.env.globals))=false:=by rw[I.ok.kind];rfl
 have hiσ:i<σ.length:=by rw[I.len];exact(XE.mp hi).1
 have cne:=I.cne;have tracked:∀{a:Addr} {h':Heap},(∃o,s.heap.get? a=some o/\H a=none)->Vd a s.heap h'->HOk X.prog X.w H h':=fun{a h'} ha hs b ob e=>by
  obtain⟨_,_,hfree⟩:=ha;refine(I.hok b ob e).stay (λc w' hc q=>(hs.2 c ?_).trans q) (λ_ q=>q) λ_ _ q=>q;rintro rfl;rcases hc with rfl|hc
  ·rw[hfree]at e;cases e
  ·rw[hfree]at hc;cases hc
 rcases hx with hk|hk
 ·refine wpAny_storeName_local hk hn (λh' hn' hs=>?_) hcls;obtain⟨oL,_,_,hoL,_⟩:=id hn;refine h _ ⟨I.ok,I.os,I.bare,⟨λb o e n hb hx=>?_,λb o e n hb hx=>?_,I.base.free,λb o e hx=>?_,I.base.tups,I.base.frzs,I.base.tbls⟩,⟨_,hn',λj y v' e1 e2 e3=>?_⟩,λy c e=>?_,I.free,I.freeC,λp hp=>?_,tracked ⟨oL,hoL,I.free⟩ hs,by simpa using I.len⟩ ⟨_,hs,.inl rfl⟩
  ·exact(hs.2 b (XH (YQ (XA e) I.ok.above))).trans (I.base.keep b o e n hb hx)
  ·obtain⟨sl,e1⟩:=I.base.slot b o e n hb hx;exact⟨sl,(hs.2 b (XH (YQ (XA e) I.ok.above))).trans e1⟩
  ·obtain⟨o',e1⟩:=I.base.there b o e hx;exact⟨o',(hs.2 b (XH (YQ (XA e) I.ok.above))).trans e1⟩
  ·by_cases hj:j=i
   ·subst hj;rw[hi]at e1;cases e1;rw[FZ hiσ]at e2;cases e2;exact⟨u,r,.inl ⟨hk,by simp⟩⟩
   ·rw[List.getElem?_set_ne (YI hj)]at e2;obtain⟨u',r',q⟩:=hl j y v' e1 e2 e3;refine⟨u',r',?_⟩;rcases q with⟨k,e⟩|⟨k,c,e,z⟩
    ·refine .inl ⟨k,?_⟩;have:y≠x:=λe=>hj (Gx hN e1 (e▸hi));simp[this,e]
    ·exact .inr ⟨k,c,e,z.sameBut hs (cne y c e)⟩
  ·obtain⟨w',z⟩:=I.cell y c e;exact⟨w',z.sameBut hs (cne y c e)⟩
  ·obtain⟨e,n,ne,nf,d⟩:=I.pin p hp;exact⟨(hs.2 p.1 ne).trans e,n,ne,nf,d⟩
 ·have hfn:X.fn x=true:=by
   rcases hf with z|z
   ·exact z
   ·rw[z]at hk;cases hk
  obtain⟨c,hc⟩:=I.ok.has x (.inl hk);obtain⟨w',z⟩:=I.cell x c hc;refine wpAny_storeName_cell I.ok.kind hk hc z (λh' hc' hs=>?_);obtain⟨oc,hoc,hocd⟩:=id z;refine h {s with heap:=h'} ⟨I.ok,I.os,I.bare,⟨λb o e n hb hx=>?_,λb o e n hb hx=>?_,I.base.free,λb o e hx=>?_,I.base.tups,I.base.frzs,I.base.tbls⟩,⟨m,hn.sameBut hs (YI (cne x c hc)),λj y v' e1 e2 e3=>?_⟩,λy c' e=>?_,I.free,I.freeC,λp hp=>?_,tracked ⟨oc,hoc,I.freeC x c hc⟩ hs,by simpa using I.len⟩ ⟨c,hs,.inr hc⟩
  ·exact(hs.2 b (XH (YQ (XA e) (I.ok.cab x c hfn hc)))).trans (I.base.keep b o e n hb hx)
  ·obtain⟨sl,e1⟩:=I.base.slot b o e n hb hx;exact⟨sl,(hs.2 b (XH (YQ (XA e) (I.ok.cab x c hfn hc)))).trans e1⟩
  ·obtain⟨o',e1⟩:=I.base.there b o e hx;exact⟨o',(hs.2 b (XH (YQ (XA e) (I.ok.cab x c hfn hc)))).trans e1⟩
  ·by_cases hj:j=i
   ·subst hj;rw[hi]at e1;cases e1;rw[FZ hiσ]at e2;cases e2;exact⟨u,r,.inr ⟨.inl hk,c,hc,hc'⟩⟩
   ·rw[List.getElem?_set_ne (YI hj)]at e2;obtain⟨u',r',q⟩:=hl j y v' e1 e2 e3;refine⟨u',r',?_⟩;rcases q with q|⟨k,c',e,z'⟩
    ·exact .inl q
    ·refine .inr ⟨k,c',e,z'.sameBut hs ?_⟩;rintro rfl;exact hj (Gx hN e1 (I.ok.inj _ _ _ e hc▸hi))
  ·by_cases hcc:c'=c
   ·subst hcc;exact⟨_,hc'⟩
   ·obtain⟨w2,z2⟩:=I.cell y c' e;exact⟨w2,z2.sameBut hs hcc⟩
  ·obtain⟨e,n,ne,nf,d⟩:=I.pin p hp;refine⟨(hs.2 p.1 ?_).trans e,n,ne,nf,d⟩;intro q;rw[q,hoc]at e;have q':oc=p.2:=Yq e;exact d w' (by rw[<- q'];exact hocd)
theorem Gz{M:Model}{A:Xz}{E:X0->X1->Prop}{i:Nat}{x:Str}{v:V}{u:X0}{Q:Unit->X1->Prop}(I:Inv X pins σ H s)(hN:X.N.Nodup)(hi:X.N[i]?=some x) (hx:Loc X.env.scope x) (r:RelV v u)
  (h:∀s',Inv X pins (σ.set i (some v)) H s'->Q () s') (hf:X.fn x=true\/X.env.scope.names.lookup x=some .local:=by first|exact .inl rfl|exact .inr rfl|assumption):X4 M A (storeName X.env x u) Q E s:=
 Gy I hN hi hx r (λs' I' _=>h s' I') hf
theorem Inv.call'{s':X1}{ch:List Addr}(I:Inv X pins σ H s)(ho:s'.os=s.os)(u:Un (frs X.stack) ch H H' s.heap s'.heap)(hok:HOk X.prog X.w H' s'.heap)(hg:AllBare s'.gens)
  (hch:∀b∈ch,(b∈X.ex\/X.s₀.heap.objs.size≤b)/\b≠X.env.locals/\(∀x c,X.env.cells.lookup x=some c->c≠b)/\∀p∈X.pn++pins,p.1≠b):Inv X pins σ H' s':=by
 obtain⟨h',g',d',t',o'⟩:=s';have e:o'=s.os:=ho;subst e;exact I.call (g':=g') (t':=t') (d':=d') u hok hg hch
end
noncomputable abbrev XK:=X0->Option Addr->Hp->Prop
noncomputable abbrev St:=List (Option V)
noncomputable abbrev VK:=V->Hp->Prop
noncomputable abbrev TE:=St->Hp->VK->Prop
noncomputable abbrev TT:=St->Hp->(Bool->Hp->Prop)->Prop
noncomputable abbrev TA:=St->Hp->(List V->Hp->Prop)->Prop
structure Ends where
 nx:St->Hp->Prop
 rt:VK
 bk:St->Hp->Prop:=λ_ _=>False
 ct:St->Hp->Prop:=λ_ _=>False
noncomputable abbrev TS:=Ends->St->Hp->Prop
noncomputable def EP(X:Cx)(pins:List (Addr×Obj))(σ:St)(Q:VK)(u:X0)(s':X1):Prop:=∃v H',Inv X pins σ H' s'/\RelV v u/\Q v H'
noncomputable def TP(X:Cx)(pins:List (Addr×Obj))(σ:St)(Q:Bool->Hp->Prop)(b:Bool)(s':X1):Prop:=∃H',Inv X pins σ H' s'/\Q b H'
noncomputable def AP(X:Cx)(pins:List (Addr×Obj))(σ:St)(Q:List V->Hp->Prop)(us:List X0)(s':X1):Prop:=∃vs H',Inv X pins σ H' s'/\Vals vs us/\Q vs H'
noncomputable def SP(X:Cx)(pins:List (Addr×Obj))(D:Ends)(f:Flow)(s':X1):Prop:=
 match f with
 |.next=>∃σ' H',Inv X pins σ' H' s'/\D.nx σ' H'
 |.brk=>∃σ' H',Inv X pins σ' H' s'/\D.bk σ' H'
 |.cont=>∃σ' H',Inv X pins σ' H' s'/\D.ct σ' H'
 |.ret u=>∃v σ' H',Inv X pins σ' H' s'/\RelV v u/\D.rt v H'
noncomputable def PE(X:Cx)(e:Expr)(t:TE):Prop:=
 ∀(pins:List (Addr×Obj)) (s:X1) (σ:St) (H:Hp) (Q:VK),Inv X pins σ H s->t σ H Q->X4 (X8 X.prog X.w) X.A (eval e X.env) (EP X pins σ Q) X.xe s
noncomputable def PT(X:Cx)(e:Expr)(t:TT):Prop:=
 ∀(pins:List (Addr×Obj)) (s:X1) (σ:St) (H:Hp) (Q:Bool->Hp->Prop),Inv X pins σ H s->t σ H Q->X4 (X8 X.prog X.w) X.A (isTrue e X.env (eval e X.env)) (TP X pins σ Q) X.xe s
noncomputable def PW(X:Cx)(e:Expr)(t:TT):Prop:=
 ∀(whole:Sem X0) (pins:List (Addr×Obj)) (s:X1) (σ:St) (H:Hp) (Q:Bool->Hp->Prop),Inv X pins σ H s->t σ H Q->X4 (X8 X.prog X.w) X.A (isTrue e X.env whole) (TP X pins σ Q) X.xe s
theorem PW.pt{X:Cx}{e:Expr}{t:TT}(h:PW X e t):PT X e t:=h _
noncomputable def PA(X:Cx)(es:List Expr)(t:TA):Prop:=
 ∀(pos:Pos) (pins:List (Addr×Obj)) (s:X1) (σ:St) (H:Hp) (Q:List V->Hp->Prop),Inv X pins σ H s->t σ H Q->X4 (X8 X.prog X.w) X.A (spliced (Yn pos (XM es X.env))) (AP X pins σ Q) X.xe s
noncomputable def PS(X:Cx)(st:Stmt)(t:TS):Prop:=
 ∀(pins:List (Addr×Obj)) (s:X1) (σ:St) (H:Hp) (D:Ends),Inv X pins σ H s->t D σ H->X4 (X8 X.prog X.w) X.A (exec st X.env) (SP X pins D) X.xe s
noncomputable def PSs(X:Cx)(st:List Stmt)(t:TS):Prop:=
 ∀(pins:List (Addr×Obj)) (s:X1) (σ:St) (H:Hp) (D:Ends),Inv X pins σ H s->t D σ H->X4 (X8 X.prog X.w) X.A (execs st X.env) (SP X pins D) X.xe s
theorem thn{α:Type}{t:Sem α}{Q Q':α->X1->Prop}{M:Model}{A:Xz}{E:X0->X1->Prop}{s:X1}(h:X4 M A t Q E s)(hQ:∀a s,Q a s->Q' a s):X4 M A t Q' E s:=Ut h hQ λ_ _ x=>x
section
variable{X:Cx}
theorem bin{a b:Expr}{ta tb:TE}(ha:PE X a ta)(hb:PE X b tb){pins:List (Addr×Obj)}{s:X1}{σ:St}{H:Hp}{R:V->V->Hp->Prop}(I:Inv X pins σ H s)(h:ta σ H λx H1=>tb σ H1 λy H2=>R x y H2)
  {α:Type} {Q:α->X1->Prop} {f:X0->X0->Sem α}
  (hf:∀v u s2 x y H2,Inv X pins σ H2 s2->RelV x v->RelV y u->R x y H2->X4 (X8 X.prog X.w) X.A (f v u) Q X.xe s2):
  X4 (X8 X.prog X.w) X.A (eval a X.env) (λv s₁=>X4 (X8 X.prog X.w) X.A (eval b X.env) (λu s₂=>X4 (X8 X.prog X.w) X.A (f v u) Q X.xe s₂) X.xe s₁) X.xe s:=by
 refine thn (ha pins s σ H _ I h) λv s1 ⟨x,H1,I1,r1,q1⟩=>?_;refine thn (hb pins s1 σ H1 _ I1 q1) λu s2 ⟨y,H2,I2,r2,q2⟩=>?_;exact hf v u s2 x y H2 I2 r1 r2 q2
noncomputable def tVar(i:Nat):TE:=λσ H Q=>∃v,σ[i]?=some (some v)/\Q v H
noncomputable def tC(v:V):TE:=λ_ H Q=>Q v H
theorem GA{i:Nat}{x:Str}{pos:Pos}(hN:X.N[i]?=some x) (hv:Vis X.env.scope x) (hd:(x==("__debug__":Str))=false:=by decide) (hcd:(x==("__classdict__":Str))=false:=by decide):PE X (.Name x pos) (tVar i):=by
 intro pins s σ H Q I h;obtain⟨v,e,h⟩:=h;obtain⟨m,hn,hl⟩:=I.loc;obtain⟨u,r,l⟩:=hl i x v hN e hv;have fin:EP X pins σ Q u s:=⟨v,H,I,r,h⟩;rcases l with⟨hk,hm⟩|⟨hk,c,hc,hcell⟩
 ·exact wpAny_Name (wpAny_loadName_local I.ok.kind hk hn hm fin) hd
 ·rcases hk with hk|hk
  ·exact wpAny_Name (wpAny_loadName_cell I.ok.kind hk hc hcell fin) hd
  ·exact wpAny_Name (wpAny_loadName_free I.ok.kind hk hc hcell fin hcd) hd
theorem pe_int{i j pos}:PE X (.Constant (.int i) j pos) (tC (.int i)):=λ_ _ _ H _ I h=>wpAny_Constant_int ⟨.int i,H,I.tok _,⟨_,rfl⟩,h⟩
theorem pe_bl{b j pos}:PE X (.Constant (.bool b) j pos) (tC (.bl b)):=λ_ _ _ H _ I h=>Constant_bool ⟨.bl b,H,I,rfl,h⟩
theorem pe_non{j pos}:PE X (.Constant .none j pos) (tC .non):=λ_ _ _ H _ I h=>Constant_none ⟨.non,H,I,rfl,h⟩
theorem pe_str{x j pos}:PE X (.Constant (.str x) j pos) (tC (.str x)):=λ_ _ _ H _ I h=>Calls.Constant_str ⟨.str x,H,I.tok _,⟨_,rfl⟩,h⟩
noncomputable def Gl(X:Cx)(x:Str):Prop:=X.env.kindOf x=some .globalImplicit
theorem GC{E:X0->X1->Prop}{pins:List (Addr×Obj)}{s:X1}{σ:St}{H:Hp}{x:Str}{u:X0}{pos:Pos}{Q:X0->X1->Prop}(I:Inv X pins σ H s)(hg:Gl X x)(hm:X.mg x=some u)(h:Q u s)
  (hd:(x==("__debug__":Str))=false:=by decide):X4 (X8 X.prog X.w) X.A (eval (.Name x pos) X.env) Q E s:=
 Gh I.ok.kind hg (Calls.loadGlobal_global (by rw[I.ok.glob];exact I.mod.glob.keeps I.bk) hm h) hd
theorem Um{E:X0->X1->Prop}{pins:List (Addr×Obj)}{s:X1}{σ:St}{H:Hp}{x:Str}{u:X0}{pos:Pos}{Q:X0->X1->Prop}(I:Inv X pins σ H s)(hg:Gl X x)(hm:X.mg x=none)(hv:YE x=some u)(h:Q u s)
  (hn:x≠"__name__":=by decide) (hd:(x==("__debug__":Str))=false:=by decide):X4 (X8 X.prog X.w) X.A (eval (.Name x pos) X.env) Q E s:=by
 obtain⟨mb,h1,h2⟩:=I.mod.blt;exact Gh I.ok.kind hg (Calls.loadGlobal_builtin (by rw[I.ok.glob];exact I.mod.glob.keeps I.bk) hm (by rw[I.ok.blt];exact h1.keeps I.bk) ((h2 x hn).trans hv) h) hd
theorem Q0{x:Str}{v:V}{u:X0}{pos:Pos}(hg:Gl X x)(hm:X.mg x=some u)(r:RelV v u)(hd:(x==("__debug__":Str))=false:=by decide):PE X (.Name x pos) (tC v):=
 λ_ _ _ H _ I h=>GC I hg hm ⟨v,H,I,r,h⟩ hd
theorem Q1{x:Str}{v:V}{u:X0}{pos:Pos}(hg:Gl X x)(hm:X.mg x=none)(hv:YE x=some u)(r:RelV v u)(hn:x≠"__name__":=by decide)(hd:(x==("__debug__":Str))=false:=by decide):PE X (.Name x pos) (tC v):=
 λ_ _ _ H _ I h=>Um I hg hm hv ⟨v,H,I,r,h⟩ hn hd
variable{a b:Expr}{ta tb:TE}{pos:Pos}
noncomputable def tB(t:TE):TT:=λσ H Q=>t σ H λx H1=>∃c,x=.bl c/\Q c H1
theorem Q2{e:Expr}{t:TE}(h:PE X e t)(he:∀whole,isTrue e X.env whole=(do let v<- whole;standAt e.pos;Uu [v] (truthy v)):=by intro _;rfl):PT X e (tB t):=by
 intro pins s σ H Q I hw;refine isTrue_plain (thn (h pins s σ H _ I hw) λv s1 ⟨x,H1,I1,r1,q1⟩=>?_) (he _);obtain⟨d,rfl,q⟩:=q1;cases r1;exact Ud ⟨H1,I1,q⟩
variable{tA tB':TT}{rest:List Expr}
noncomputable def tAnd(t u:TT):TT:=λσ H Q=>t σ H λc H1=>if c=true then u σ H1 Q else Q false H1
noncomputable def tOr(t u:TT):TT:=λσ H Q=>t σ H λc H1=>if c=true then Q true H1 else u σ H1 Q
noncomputable def tNot(t:TT):TT:=λσ H Q=>t σ H λc H1=>Q (!c) H1
theorem pw_and1(ha:PT X a tA):PW X (.BoolOp .And [a] pos) tA:=by
 intro wh pins s σ H Q I h;refine isTrue_and (thn (ha pins s σ H Q I h) λc s1 e=>?_);cases c with
 |true=>exact isTrue_and_nil e
 |false=>exact e
theorem pw_or1(ha:PT X a tA):PW X (.BoolOp .Or [a] pos) tA:=by
 intro wh pins s σ H Q I h;refine isTrue_or (thn (ha pins s σ H Q I h) λc s1 e=>?_);cases c with
 |false=>exact isTrue_or_nil e
 |true=>exact e
theorem pw_and(ha:PT X a tA)(hb:PW X (.BoolOp .And (b::rest) pos) tB'):PW X (.BoolOp .And (a::b::rest) pos) (tAnd tA tB'):=by
 intro wh pins s σ H Q I h;refine isTrue_and (thn (ha pins s σ H _ I h) λc s1 ⟨H1,I1,q1⟩=>?_);cases c with
 |true=>exact hb wh pins s1 σ H1 Q I1 q1
 |false=>exact⟨H1,I1,q1⟩
theorem pw_or(ha:PT X a tA)(hb:PW X (.BoolOp .Or (b::rest) pos) tB'):PW X (.BoolOp .Or (a::b::rest) pos) (tOr tA tB'):=by
 intro wh pins s σ H Q I h;refine isTrue_or (thn (ha pins s σ H _ I h) λc s1 ⟨H1,I1,q1⟩=>?_);cases c with
 |true=>exact⟨H1,I1,q1⟩
 |false=>exact hb wh pins s1 σ H1 Q I1 q1
theorem Q3(ha:PT X a tA):PT X (.UnaryOp .Not a pos) (tNot tA):=by
 intro pins s σ H Q I h;exact isTrue_not (ha pins s σ H (λc H1=>Q (!c) H1) I h)
noncomputable def Q4(ta tb:TE):TE:=λσ H Q=>ta σ H λx H1=>∃c,x=.bl c/\if c=true then tb σ H1 Q else Q (.bl false) H1
noncomputable def tOrV(ta tb:TE):TE:=λσ H Q=>ta σ H λx H1=>∃c,x=.bl c/\if c=true then Q (.bl true) H1 else tb σ H1 Q
noncomputable def Q5(ta:TE):TE:=λσ H Q=>ta σ H λx H1=>∃c,x=.bl c/\Q (.bl (!c)) H1
theorem GD{op}{t:TE}(h:PE X a t):PE X (.BoolOp op [a] pos) t:=λpins s σ H Q I hw=>BoolOp_one (h pins s σ H Q I hw)
theorem Q6(ha:PE X a ta)(hb:PE X (.BoolOp .And (b::rest) pos) tb):PE X (.BoolOp .And (a::b::rest) pos) (Q4 ta tb):=by
 intro pins s σ H Q I h;refine BoolOp_and (thn (ha pins s σ H _ I h) λv s1 ⟨x,H1,I1,r1,q1⟩=>?_);obtain⟨c,rfl,q1⟩:=q1;cases r1;refine Ud ?_;cases c with
 |true=>exact hb pins s1 σ H1 Q I1 q1
 |false=>exact⟨.bl false,H1,I1,rfl,q1⟩
theorem Q7(ha:PE X a ta)(hb:PE X (.BoolOp .Or (b::rest) pos) tb):PE X (.BoolOp .Or (a::b::rest) pos) (tOrV ta tb):=by
 intro pins s σ H Q I h;refine BoolOp_or (thn (ha pins s σ H _ I h) λv s1 ⟨x,H1,I1,r1,q1⟩=>?_);obtain⟨c,rfl,q1⟩:=q1;cases r1;refine Ud ?_;cases c with
 |false=>exact hb pins s1 σ H1 Q I1 q1
 |true=>exact⟨.bl true,H1,I1,rfl,q1⟩
theorem Q8(ha:PE X a ta):PE X (.UnaryOp .Not a pos) (Q5 ta):=by
 intro pins s σ H Q I h;refine UnaryOp_ (thn (ha pins s σ H _ I h) λv s1 ⟨x,H1,I1,r1,q1⟩=>?_);obtain⟨c,rfl,q1⟩:=q1;cases r1;exact not_of (Ud ⟨.bl (!c),H1,I1,rfl,q1⟩)
noncomputable def tIf(t:TT)(ta tb:TE):TE:=λσ H Q=>t σ H λc H1=>if c=true then ta σ H1 Q else tb σ H1 Q
theorem Q9{c:Expr}(hc:PT X c tA)(ha:PE X a ta)(hb:PE X b tb):PE X (.IfExp c a b pos) (tIf tA ta tb):=by
 intro pins s σ H Q I h;refine wpAny_IfExp (thn (hc pins s σ H _ I h) λd s1 ⟨H1,I1,q1⟩=>?_);cases d with
 |true=>exact ha pins s1 σ H1 Q I1 q1
 |false=>exact hb pins s1 σ H1 Q I1 q1
end
noncomputable def SqL(K:X6)(H:Hp)(a:Addr)(xs:List V):Prop:=
 Rd H a (.lst xs)\/
  ∃(o:Obj) (its:Array X0) (n:Nat),K.lookup a=some o/\o.cls=.type "list"/\o.dict=none/\o.data=.seq its n/\its.size≤sizeLine/\Vals xs its.toList
noncomputable def SqT(K:X6)(H:Hp)(a:Addr)(xs:List V):Prop:=
 Rd H a (.tup xs)\/
  ∃(o:Obj) (its:Array X0) (n:Nat),K.lookup a=some o/\o.cls=.type "tuple"/\o.data=.seq its n/\its.size≤sizeLine/\Vals xs its.toList
noncomputable def absV:X0->Option V
 |.none=>some .non
 |.bool b=>some (.bl b)
 |.int i _=>some (.int i)
 |.str x _=>some (.str x)
 |.bytes b _=>some (.byt b)
 |.float b _=>some (.flt b)
 |.ref a=>some (.ref a)
 |.type n=>some (.ty n)
 |_=>none
theorem RelV.abs{x:V}{u:X0}(r:RelV x u):absV u=some x:=by
 cases x with
 |non=>cases r;rfl
 |bl _=>cases r;rfl
 |int _=>obtain⟨t,rfl⟩:=r;rfl
 |str _=>obtain⟨t,rfl⟩:=r;rfl
 |byt _=>obtain⟨t,rfl⟩:=r;rfl
 |flt _=>obtain⟨t,rfl⟩:=r;rfl
 |ref _=>cases r;rfl
 |ty _=>cases r;rfl
theorem RelV.inj{x y:V}{u:X0}(r:RelV x u)(q:RelV y u):x=y:=Yq (r.abs.symm.trans q.abs)
theorem Vals.inj:∀{xs ys:List V} {us:List X0},Vals xs us->Vals ys us->xs=ys
 |_,_,_,.nil,.nil=>rfl
 |_,_,_,.cons r t,.cons r' t'=>by rw[r.inj r',Vals.inj t t']
section
variable{X:Cx}{pins:List (Addr×Obj)}{σ:St}{H:Hp}{s:X1}{a:Addr}{xs ys:List V}
theorem SqL.of{K:X6}(h:H a=some (.lst xs)):SqL K H a xs:=.inl (.inl h)
theorem SqT.of{K:X6}(h:H a=some (.tup xs)):SqT K H a xs:=.inl (.inl h)
theorem Inv.list(I:Inv X pins σ H s)(h:SqL X.K H a xs):∃its:List X0,Vals xs its/\PlainL s.heap a its.toArray/\xs.length≤sizeLine:=by
 rcases h with h|⟨o,its,n,hk,hc,hd,hs,hz,r⟩
 ·obtain⟨z,its,n,r,e⟩:=h.ok I.hok;exact⟨its,r,⟨_,n,e,rfl,rfl,rfl⟩,z⟩
 ·refine⟨its.toList,r,⟨o,n,I.kIn a o hk,hc,hd,by simpa using hs⟩,?_⟩
  have e:=r.length;simp only[XU]at e;lia
theorem Inv.tuple(I:Inv X pins σ H s)(h:SqT X.K H a xs):∃its:List X0,Vals xs its/\IsTup s.heap a its.toArray/\xs.length≤sizeLine:=by
 rcases h with h|⟨o,its,n,hk,hc,hs,hz,r⟩
 ·obtain⟨z,its,r,p⟩:=h.ok I.hok;exact⟨its,r,p.1,z⟩
 ·refine⟨its.toList,r,⟨o,I.kIn a o hk,hc,n,by simpa using hs⟩,?_⟩
  have e:=r.length;simp only[XU]at e;lia
theorem Inv.list_inj(I:Inv X pins σ H s)(h:SqL X.K H a xs)(h':SqL X.K H a ys):xs=ys:=by
 obtain⟨its,r,⟨o,n,e,_,_,d⟩,_⟩:=I.list h;obtain⟨its',r',⟨o',n',e',_,_,d'⟩,_⟩:=I.list h';rw[e]at e';cases e';rw[d]at d';injection d' with d1 _;have:its=its':=by simpa using congrArg Array.toList d1
 subst this;exact r.inj r'
theorem Inv.tuple_inj(I:Inv X pins σ H s)(h:SqT X.K H a xs)(h':SqT X.K H a ys):xs=ys:=by
 obtain⟨its,r,⟨o,e,_,n,d⟩,_⟩:=I.tuple h;obtain⟨its',r',⟨o',e',_,n',d'⟩,_⟩:=I.tuple h';rw[e]at e';cases e';rw[d]at d';injection d' with d1 _;have:its=its':=by simpa using congrArg Array.toList d1
 subst this;exact r.inj r'
end
noncomputable abbrev Cx.wish(X:Cx)(E:X0->X1->Prop):Cx:={X with xe:=E}
noncomputable abbrev Cx.nox(X:Cx):Cx:=X.wish λ_ _=>False
theorem Cx.Ok.wish{X:Cx}(ok:X.Ok)(E:X0->X1->Prop):(X.wish E).Ok:=
 ⟨ok.mod,ok.kind,ok.glob,ok.blt,ok.above,ok.inj,ok.has,ok.cab,ok.hd,ok.frames,ok.stk,ok.exf,ok.bs,ok.bsz,ok.noex,ok.exfs,ok.funs,ok.frf⟩
theorem Cx.Ok.unwish{X:Cx}{E:X0->X1->Prop}(ok:(X.wish E).Ok):X.Ok:=
 ⟨ok.mod,ok.kind,ok.glob,ok.blt,ok.above,ok.inj,ok.has,ok.cab,ok.hd,ok.frames,ok.stk,ok.exf,ok.bs,ok.bsz,ok.noex,ok.exfs,ok.funs,ok.frf⟩
section
variable{X:Cx}{pins:List (Addr×Obj)}{σ:St}{H:Hp}{s:X1}{E:X0->X1->Prop}
theorem Inv.wish(I:Inv X pins σ H s)(E:X0->X1->Prop):Inv (X.wish E) pins σ H s:=⟨I.ok.wish E,I.os,I.bare,I.base,I.loc,I.cell,I.free,I.freeC,I.pin,I.hok,I.len⟩
theorem Inv.unwish(I:Inv (X.wish E) pins σ H s):Inv X pins σ H s:=⟨I.ok.unwish,I.os,I.bare,I.base,I.loc,I.cell,I.free,I.freeC,I.pin,I.hok,I.len⟩
theorem SP.unwish{D:Ends}{f:Flow}{s':X1}(h:SP (X.wish E) pins D f s'):SP X pins D f s':=by
 cases f with
 |next=>obtain⟨σ',H',I,q⟩:=h;exact⟨σ',H',I.unwish,q⟩
 |brk=>obtain⟨σ',H',I,q⟩:=h;exact⟨σ',H',I.unwish,q⟩
 |cont=>obtain⟨σ',H',I,q⟩:=h;exact⟨σ',H',I.unwish,q⟩
 |ret u=>obtain⟨v,σ',H',I,r,q⟩:=h;exact⟨v,σ',H',I.unwish,r,q⟩
theorem PSs.nox{st:List Stmt}{t:TS}(h:PSs X.nox st t):PSs X st t:=λpins s σ H D I hw=>
 Ut (h pins s σ H D (I.wish _) hw) (λ_ _ q=>q.unwish) λ_ _ z=>YG z
end
section
variable{X:Cx}{st:Stmt}{rest:List Stmt}{t u:TS}{e:Expr}{te:TE}{pos:Pos}
noncomputable def Qa:TS:=λD σ H=>D.nx σ H
noncomputable def tSeq(t u:TS):TS:=λD σ H=>t {D with nx:=u D} σ H
theorem pss_nil:PSs X [] Qa:=λ_ _ σ H _ I h=>wpAny_execs_nil ⟨σ,H,I,h⟩
theorem Qb(h1:PS X st t)(h2:PSs X rest u):PSs X (st::rest) (tSeq t u):=by
 intro pins s σ H D I h;refine wpAny_execs_cons (thn (h1 pins s σ H {D with nx:=u D} I h) λf s1 q=>?_);cases f with
 |next=>
  obtain⟨σ',H',I',q⟩:=q;exact h2 pins s1 σ' H' D I' q
 |ret v=>exact q
 |brk=>exact q
 |cont=>exact q
theorem Inv.quiet{pins:List (Addr×Obj)}{σ:St}{H:Hp}{s:X1}(I:Inv X pins σ H s):interactive X.env=false:=by simp[interactive,I.ok.kind]
noncomputable def Qc(te:TE):TS:=λD σ H=>te σ H λ_ H1=>D.nx σ H1
theorem Qd(he:PE X e te)(hs:V7 e none pos.line X.env=pure false:=by rfl):PS X (.Expr e pos) (Qc te):=by
 intro pins s σ H D I h;exact wpAny_Expr_any (thn (he pins s σ H _ I h) λv s1 ⟨x,H1,I1,r1,q1⟩=>⟨σ,H1,I1,q1⟩) I.quiet hs
noncomputable def tRet(te:TE):TS:=λD σ H=>te σ H D.rt
theorem Qe(he:PE X e te):PS X (.Return (some e) pos) (tRet te):=by
 intro pins s σ H D I h;exact wpAny_Return_some (thn (he pins s σ H _ I h) λv s1 ⟨x,H1,I1,r1,q1⟩=>⟨x,σ,H1,I1,r1,q1⟩)
noncomputable def tIfS(c:TT)(t u:TS):TS:=λD σ H=>c σ H λb H1=>if b=true then t D σ H1 else u D σ H1
theorem Qf{c:Expr}{a b:List Stmt}{tc:TT}(hc:PT X c tc)(ha:PSs X a t)(hb:PSs X b u):PS X (.If c a b pos) (tIfS tc t u):=by
 intro pins s σ H D I h;refine wpAny_If (thn (hc pins s σ H _ I h) λd s1 ⟨H1,I1,q1⟩=>?_);cases d with
 |true=>exact ha pins s1 σ H1 D I1 q1
 |false=>exact hb pins s1 σ H1 D I1 q1
noncomputable def Qg:TS:=λ_ _ _=>False
theorem ps_never:PS X st Qg:=λ_ _ _ _ _ _ h=>h.elim
end
noncomputable abbrev TG:=V->St->Hp->(St->Hp->Prop)->Prop
noncomputable abbrev TGs:=List V->St->Hp->(St->Hp->Prop)->Prop
noncomputable def PG(X:Cx)(target:Expr)(t:TG):Prop:=
 ∀(pins:List (Addr×Obj)) (s:X1) (σ:St) (H:Hp) (v:V) (u:X0) (Q:St->Hp->Prop),Inv X pins σ H s->RelV v u->t v σ H Q->
  X4 (X8 X.prog X.w) X.A (assign target X.env u) (λ_ s'=>∃σ' H',Inv X pins σ' H' s'/\Q σ' H') X.xe s
noncomputable def PGs(X:Cx)(ts:List Expr)(t:TGs):Prop:=
 ∀(pins:List (Addr×Obj)) (s:X1) (σ:St) (H:Hp) (vs:List V) (us:List X0) (Q:St->Hp->Prop),Inv X pins σ H s->Vals vs us->t vs σ H Q->
  X4 (X8 X.prog X.w) X.A (assignInOrder ((Uv ts X.env).map (·.2)) us) (λ_ s'=>∃σ' H',Inv X pins σ' H' s'/\Q σ' H') X.xe s
noncomputable abbrev TSet:=V->V->V->Hp->(Hp->Prop)->Prop
noncomputable def PSet(X:Cx)(t:TSet):Prop:=
 ∀(pins:List (Addr×Obj)) (s:X1) (σ:St) (H:Hp) (o i v:V) (ov iv u:X0) (Q:Hp->Prop),Inv X pins σ H s->RelV o ov->RelV i iv->RelV v u->t o i v H Q->
  X4 (X8 X.prog X.w) X.A (setItem ov iv u) (λ_ s'=>∃H',Inv X pins σ H' s'/\Q H') X.xe s
section
variable{X:Cx}{pos:Pos}
noncomputable def BC(i:Nat):TG:=λv σ H Q=>Q (σ.set i (some v)) H
theorem GE{i:Nat}{x:Str}(hN:X.N.Nodup)(hi:X.N[i]?=some x) (hx:Loc X.env.scope x) (hf:X.fn x=true\/X.env.scope.names.lookup x=some .local:=by first|exact .inl rfl|exact .inr rfl|assumption):PG X (.Name x pos) (BC i):=by
 intro pins s σ H v u Q I r h;exact wpAny_assign_Name (Gz I hN hi hx r (λs' I'=>⟨_,H,I',h⟩) hf)
noncomputable def gNil:TGs:=λvs σ H Q=>vs=[]/\Q σ H
noncomputable def GF(t:TG)(u:TGs):TGs:=λvs σ H Q=>∃v r,vs=v::r/\t v σ H λσ' H'=>u r σ' H' Q
theorem Qh:PGs X [] gNil:=by
 intro pins s σ H vs us Q I r h;obtain⟨e,h⟩:=h;subst e;cases r;exact assignInOrder_nil ⟨σ,H,I,h⟩
theorem Qi{e:Expr}{es:List Expr}{t:TG}{u:TGs}(h1:PG X e t)(h2:PGs X es u)
  (hs:(Uv (e::es) X.env).map (·.2)=assign e X.env::(Uv es X.env).map (·.2):=by rfl):PGs X (e::es) (GF t u):=by
 intro pins s σ H vs us Q I r h;obtain⟨v,vr,e1,h⟩:=h;subst e1;cases r with
 |cons r rr=>
  rw[hs];refine assignInOrder_cons (thn (h1 pins s σ H _ _ _ I r h) λ_ s1 ⟨σ1,H1,I1,q1⟩=>?_);exact h2 pins s1 σ1 H1 _ _ Q I1 rr q1
noncomputable def gTup(K:X6)(n:Nat)(t:TGs):TG:=λv σ H Q=>∃a xs,v=.ref a/\SqT K H a xs/\xs.length=n/\t xs σ H Q
theorem Qj{es:List Expr}{k:Nat}{t:TGs}{n:Nat}(hc:X.calm=true)(h:PGs X es t)
  (hn:(Uv es X.env).length=n:=by rfl) (hst:(Uv es X.env).findIdx? (·.1)=none:=by rfl):PG X (.Tuple es k pos) (gTup X.K n t):=by
 intro pins s σ H v u Q I r hw;obtain⟨a,xs,e1,hq,hl,hw⟩:=hw;subst e1;cases r;obtain⟨its,rv,ht,hz⟩:=I.tuple hq;refine assign_Tuple_tuple (I.ok.hd hc) ht (by simp[hn,<- hl,rv.length]) hst λh' hx=>?_
 have I1:Inv X pins σ H {s with heap:=h'}:=I.kept (t':=s.toks) λb o e=>hx b o (XH (XA e)) e;exact h pins _ σ H xs _ Q I1 (by simpa using rv) hw
noncomputable def gSub(to ti:TE)(t:TSet):TG:=λv σ H Q=>to σ H λo H1=>ti σ H1 λi H2=>t o i v H2 λH3=>Q σ H3
theorem Qk{o i:Expr}{to ti:TE}{t:TSet}(ho:PE X o to)(hi:PE X i ti)(hs:PSet X t)
  (ha:∀v,assign (.Subscript o i pos) X.env v=(do
   let ov<- Uu [v] (eval o X.env)
   let iv<- Uu [v,ov] (eval i X.env)
   standAt pos
   Uu [v,ov,iv] (setItem ov iv v)
   release [v,ov,iv] []):=by intro _;rfl):PG X (.Subscript o i pos) (gSub to ti t):=by
 intro pins s σ H v u Q I r h;rw[ha];refine X3 (YF (thn (ho pins s σ H _ I h) λov s1 ⟨x,H1,I1,r1,q1⟩=>?_));refine X3 (YF (thn (hi pins s1 σ H1 _ I1 q1) λiv s2 ⟨y,H2,I2,r2,q2⟩=>?_));refine X3 (wpAny_standAt (X3 (YF (thn (hs pins s2 σ H2 x y v ov iv u _ I2 r1 r2 r q2) λ_ s3 ⟨H3,I3,q3⟩=>?_))));exact wpAny_release ⟨σ,H3,I3,q3⟩
noncomputable def tAsg(te:TE)(g:TG):TS:=λD σ H=>te σ H λx H1=>g x σ H1 D.nx
theorem GG{tg e:Expr}{te:TE}{g:TG}(he:PE X e te)(hg:PG X tg g)(hs:swapsWithSole [tg] e pos.line X.env=pure false:=by rfl)(hw:swappedStores [tg] e X.env=pure none:=by rfl)
  (h1:(Uv [tg] X.env).map (·.2)=[assign tg X.env]:=by rfl):PS X (.Assign [tg] e pos) (tAsg te g):=by
 intro pins s σ H D I h;refine wpAny_Assign_stores (thn (he pins s σ H _ I h) λv s1 ⟨x,H1,I1,r1,q1⟩=>?_) hs hw;rw[h1];exact thn (hg pins s1 σ H1 x v _ I1 r1 q1) λ_ s2 q=>q
theorem GH{i:Nat}{x:Str}{e:Expr}{te:TE}{pos':Pos}(hN:X.N.Nodup)(hi:X.N[i]?=some x) (hx:Loc X.env.scope x) (he:PE X e te) (hs:V7 e (some (.Name x pos')) pos.line X.env=pure false:=by rfl) (hf:X.fn x=true\/X.env.scope.names.lookup x=some .local:=by first|exact .inl rfl|exact .inr rfl|assumption):
  PS X (.Assign [.Name x pos'] e pos) (tAsg te (BC i)):=by
 intro pins s σ H D I h;refine wpAny_Assign_Name (thn (he pins s σ H _ I h) λv s1 ⟨y,H1,I1,r1,q1⟩=>?_) hs;exact Gz I1 hN hi hx r1 (λs2 I2=>⟨_,H1,I2,q1⟩) hf
end
section
variable{X:Cx}{pos:Pos}
end
structure It where
 go:Nat->Hp->Prop
 yld:Nat->Hp->V->Hp->Prop
 stop:Nat->Hp->Prop
noncomputable def FpOk(X:Cx)(pins:List (Addr×Obj))(H:Hp)(b:Addr):Prop:=
 H b=none/\b≠X.env.locals/\b∉X.fs/\(b∈X.ex\/X.s₀.heap.objs.size≤b)/\(∀x c,X.env.cells.lookup x=some c->c≠b)/\∀p∈X.pn++pins,p.1≠b
theorem Inv.fpOk{X:Cx}{pins:List (Addr×Obj)}{σ:St}{H H':Hp}{s:X1}{b:Addr}(I:Inv X pins σ H s)(hb:s.heap.objs.size≤b)(hn:H' b=none):FpOk X pins H' b:=by
 refine⟨hn,Vw (YQ I.lt hb),I.nofs hb,.inr (Y3 I.sz hb),λx c e z=>?_,λp hp z=>?_⟩
 ·obtain⟨v,q⟩:=I.cell x c e;exact absurd (YQ q.lt (by rw[z];exact hb)) (Vv _)
 ·exact absurd (YQ (XA (I.pin p hp).1) (by rw[z];exact hb)) (Vv _)
structure Turn (P:Xn) (w:Xj) (K:X6) (tg:Expr) (J:It) (fp:List Addr) (it:Addr) (tn:Nat->Heap->Prop):Prop where
 mem:it∈fp
 obj:∀i h,tn i h->∀b∈fp,∃o,h.get? b=some o/\∀v,o.data≠.cell v
 keep:∀i h h',tn i h->(∀b∈fp,∀o,h.get? b=some o->h'.get? b=some o)->tn i h'
 item:∀(X:Cx),X.prog=P->X.w=w->X.K=K->X.calm=true->∀(i:Nat) (pins:List (Addr×Obj)) (s:X1) (σ:St) (H:Hp) (E:X0->X1->Prop),Inv X pins σ H s->(∀b∈fp,FpOk X pins H b)->tn i s.heap->J.go i H->
  X4 (X8 P w) X.A (YV (.ref it)) (λr s1=>∃u,r=some u/\
   X4 (X8 P w) X.A (AX tg (.ref it) u) (λ_ s2=>∃x H',Inv X pins σ H' s2/\RelV x u/\J.yld i H x H'/\tn (i+1) s2.heap/\∀b∈fp,H' b=none) E s1) E s
 done:∀(X:Cx),X.prog=P->X.w=w->X.K=K->X.calm=true->∀(i:Nat) (pins:List (Addr×Obj)) (s:X1) (σ:St) (H:Hp) (E:X0->X1->Prop),Inv X pins σ H s->(∀b∈fp,FpOk X pins H b)->tn i s.heap->J.stop i H->
  X4 (X8 P w) X.A (YV (.ref it)) (λr s1=>r=none/\Inv X pins σ H s1) E s
 self:∀(A:Xz) (i:Nat) (s:X1) (Q:X0->X1->Prop) (E:X0->X1->Prop),tn i s.heap->Q (.ref it) s->X4 (X8 P w) A (pyIter (.ref it)) Q E s
noncomputable abbrev TI:=St->Hp->(It->Hp->Prop)->Prop
noncomputable def PIE(X:Cx)(pins:List (Addr×Obj))(σ:St)(tg:Expr)(R:It->Hp->Prop)(itv:X0)(s2:X1):Prop:=
 ∃(it:Addr) (fp:List Addr) (tn:Nat->Heap->Prop) (J:It) (H':Hp),itv=.ref it/\Inv X pins σ H' s2/\Turn X.prog X.w X.K tg J fp it tn/\tn 0 s2.heap/\(∀b∈fp,FpOk X pins H' b)/\R J H'
noncomputable def PI(X:Cx)(tg iter:Expr)(wi:TI):Prop:=
 ∀(pins:List (Addr×Obj)) (s:X1) (σ:St) (H:Hp) (R:It->Hp->Prop),Inv X pins σ H s->wi σ H R->
  X4 (X8 X.prog X.w) X.A (eval iter X.env) (λv s1=>X4 (X8 X.prog X.w) X.A (pyIter v) (PIE X pins σ tg R) X.xe s1) X.xe s
theorem VE{M:Model}{A:Xz}{E:X0->X1->Prop}{s:X1}{tg:Expr}{it:Addr}{u:X0}{o:Obj}{n:String}{vs:Array X0}{Q:Unit->X1->Prop}(ho:s.heap.get? it=some o)(hc:o.cls=.type n)(hd:o.data=.fields vs)
  (hn:["enumerate","zip","dict_itemiterator","dict_reverseitemiterator","odict_iterator","itertools.zip_longest","itertools.pairwise"].contains n=false) (hQ:Q () s):X4 M A (AX tg (.ref it) u) Q E s:=by
 unfold AX;cases tg<;>first
  |exact Xa hQ
  |(cases u<;>first
    |exact Xa hQ
    |(refine X3 (VU ho ?_)
      rw[hc,hd];show X4 M A (if(["enumerate","zip","dict_itemiterator","dict_reverseitemiterator","odict_iterator","itertools.zip_longest","itertools.pairwise"].contains n&&vs[0]?==some (Y5 _))=true then _ else _) Q E s;rw[if_neg (by intro h;rw[hn,D8]at h;cases h)]
      exact Xa hQ))
noncomputable def Itl(K:X6)(a:Addr):It:=
 ⟨λi H=>∃xs x,SqL K H a xs/\xs[i]?=some x,λi H x H'=>H'=H/\∀xs,SqL K H a xs->xs[i]?=some x,λi H=>∃xs,SqL K H a xs/\xs.length≤i⟩
noncomputable def Itt(K:X6)(a:Addr):It:=
 ⟨λi H=>∃xs x,SqT K H a xs/\xs[i]?=some x,λi H x H'=>H'=H/\∀xs,SqT K H a xs->xs[i]?=some x,λi H=>∃xs,SqT K H a xs/\xs.length≤i⟩
noncomputable def Itr(lo:Int)(n:Nat):It:=⟨λi _=>i<n,λi H x H'=>H'=H/\x=.int (lo+i),λi _=>n≤i⟩
theorem Ql{P:Xn}{w:Xj}{K:X6}{tg:Expr}(a it:Addr):Turn P w K tg (Itl K a) [it] it (λi h=>h.IsListIter it a i)where
 mem:=by simp
 obj:=λi h st b hb=>by
  have e:b=it:=by simpa using hb
  subst e;obtain⟨o,e,c,d⟩:=st;exact⟨o,e,λv z=>by rw[d]at z;cases z⟩
 keep:=λi h h' st k=>st.at λo e=>k it (by simp) o e
 item:=by
  intro X hP hw hK hc i pins s σ H E I hf st hg;subst hP hw hK;obtain⟨xs,x,hq,hx⟩:=hg;obtain⟨its,rv,p,hz⟩:=I.list hq;obtain⟨u,hu,ru⟩:=rv.get hx;obtain⟨f0,f1,f2,f3,f4,f5⟩:=hf it (by simp)
  refine wpAny_pyNext_list_item st p.isList (x:=u) (by simpa using hu) λh' st' sb=>?_
  have I1:Inv X pins σ H {s with heap:=h'}:=I.turned (t':=s.toks) (λb o hb e=>(sb.2 b hb).trans e) f0 f1 f3 f4 f5;obtain⟨o,e,c,d⟩:=id st';exact⟨u,rfl,VE (s:={s with heap:=h'}) e c d (by decide) ⟨x,H,I1,ru,⟨rfl,λys hy=>by rw[I.list_inj hy hq];exact hx⟩,st',λb hb=>(hf b hb).1⟩⟩
 done:=by
  intro X hP hw hK hc i pins s σ H E I hf st hg;subst hP hw hK;obtain⟨xs,hq,hx⟩:=hg;obtain⟨its,rv,p,hz⟩:=I.list hq;obtain⟨f0,f1,f2,f3,f4,f5⟩:=hf it (by simp)
  have hl:=rv.length;exact wpAny_pyNext_list_end (I.ok.hd hc) st p.isList (by simp;lia) λh' eb=>⟨rfl,I.turned (t':=s.toks) (λb o hb e=>eb b o hb e) f0 f1 f3 f4 f5⟩
 self:=λ_ _ _ _ _ st h=>wpAny_pyIter_listiter st h
theorem Qm{P:Xn}{w:Xj}{K:X6}{tg:Expr}(a it:Addr):Turn P w K tg (Itt K a) [it] it (λi h=>h.IsTupleIter it a i)where
 mem:=by simp
 obj:=λi h st b hb=>by
  have e:b=it:=by simpa using hb
  subst e;obtain⟨o,e,c,d⟩:=st;exact⟨o,e,λv z=>by rw[d]at z;cases z⟩
 keep:=λi h h' st k=>st.at λo e=>k it (by simp) o e
 item:=by
  intro X hP hw hK hc i pins s σ H E I hf st hg;subst hP hw hK;obtain⟨xs,x,hq,hx⟩:=hg;obtain⟨its,rv,p,hz⟩:=I.tuple hq;obtain⟨u,hu,ru⟩:=rv.get hx;obtain⟨f0,f1,f2,f3,f4,f5⟩:=hf it (by simp)
  refine wpAny_pyNext_tuple_item st (show s.heap.IsTuple a its.toArray from p) (x:=u) (by simpa using hu) λh' st' sb=>?_
  have I1:Inv X pins σ H {s with heap:=h'}:=I.turned (t':=s.toks) (λb o hb e=>(sb.2 b hb).trans e) f0 f1 f3 f4 f5;obtain⟨o,e,c,d⟩:=id st';exact⟨u,rfl,VE (s:={s with heap:=h'}) e c d (by decide) ⟨x,H,I1,ru,⟨rfl,λys hy=>by rw[I.tuple_inj hy hq];exact hx⟩,st',λb hb=>(hf b hb).1⟩⟩
 done:=by
  intro X hP hw hK hc i pins s σ H E I hf st hg;subst hP hw hK;obtain⟨xs,hq,hx⟩:=hg;obtain⟨its,rv,p,hz⟩:=I.tuple hq;obtain⟨f0,f1,f2,f3,f4,f5⟩:=hf it (by simp)
  have hl:=rv.length;exact wpAny_pyNext_tuple_end (I.ok.hd hc) st (show s.heap.IsTuple a its.toArray from p) (by simp;lia) λh' eb=>⟨rfl,I.turned (t':=s.toks) (λb o hb e=>eb b o hb e) f0 f1 f3 f4 f5⟩
 self:=λ_ _ _ _ _ st h=>wpAny_pyIter_tupleiter st h
theorem Qn{P:Xn}{w:Xj}{K:X6}{tg:Expr}(it:Addr)(lo:Int)(n:Nat):Turn P w K tg (Itr lo n) [it] it (λi h=>IsRangeIter h it (lo+(i:Nat)*1) ((n:Int) - (i:Nat)) 1)where
 mem:=by simp
 obj:=λi h st b hb=>by
  have e:b=it:=by simpa using hb
  subst e;exact⟨_,st,λv z=>by
   have z':UE _=Data.cell v:=z;cases z'⟩
 keep:=λi h h' st k=>k it (by simp) _ st
 item:=by
  intro X hP hw hK hc i pins s σ H E I hf st hg;subst hP hw hK;obtain⟨f0,f1,f2,f3,f4,f5⟩:=hf it (by simp)
  have W:=Walks.range (prog:=X.prog) (w:=X.w) (I.ok.hd hc) it lo 1 n;refine W.item i s _ _ hg st λv h' tk hv st' kk=>?_;obtain⟨t,rfl⟩:=hv;have I1:Inv X pins σ H {s with heap:=h',toks:=tk}:=I.turned (λb o hb e=>kk b o (by simpa using hb) e) f0 f1 f3 f4 f5
  refine⟨_,rfl,VE (s:={s with heap:=h',toks:=tk}) (n:="range_iterator") st' rfl rfl (by decide) ⟨.int (lo+i),H,I1,⟨t,?_⟩,⟨rfl,rfl⟩,st',fun b hb=>(hf b hb).1⟩⟩
  rw[Int.mul_one]
 done:=by
  intro X hP hw hK hc i pins s σ H E I hf st hg;subst hP hw hK;obtain⟨f0,f1,f2,f3,f4,f5⟩:=hf it (by simp)
  exact wpAny_pyNext_range_end (I.ok.hd hc) st (by have:n≤i:=hg;lia) λh' eb=>⟨rfl,I.turned (t':=s.toks) (λb o hb e=>eb b o hb e) f0 f1 f3 f4 f5⟩
 self:=λ_ _ _ _ _ st h=>wpAny_pyIter_rangeiter st h
section
variable{X:Cx}{tg:Expr}
theorem GJ{pins:List (Addr×Obj)}{σ:St}{H:Hp}{s:X1}{R:It->Hp->Prop}{E:X0->X1->Prop}{lo hi:Int}{t u v:Tok}{tk:Nat}(I:Inv X pins σ H s)(h1:-(2^62)≤lo)(h2:lo<2^62)(h3:-(2^62)≤hi)(h4:hi<2^62)
  (q:R (Itr lo (hi - lo).toNat) H):X4 (X8 X.prog X.w) X.A (pyIter (.ref s.heap.objs.size)) (PIE X pins σ tg R) E {s with heap:=s.heap.push {cls:=.type "range",data:=.fields #[.int lo t,.int hi u,.int 1 v]},toks:=tk}:=by
 refine wpAny_pyIter_range (Ds ..) (small_one h1 h2 h3 h4) ?_;have I1:Inv X pins σ H {s with heap:=s.heap.push {cls:=.type "range",data:=.fields #[.int lo t,.int hi u,.int 1 v]},toks:=tk}:=I.kept fun b o e=>Xs _ e;refine⟨(s.heap.push {cls:=.type "range",data:=.fields #[.int lo t,.int hi u,.int 1 v]}).objs.size,[(s.heap.push {cls:=.type "range",data:=.fields #[.int lo t,.int hi u,.int 1 v]}).objs.size],_,_,H,rfl,
  I1.kept (t':=tk) λb o e=>Xs _ e,Qn _ lo (hi - lo).toNat,?_,λb hb=>?_,q⟩
 ·have e1:lo+((0:Nat):Int)*1=lo:=by simp
  have e2:(((hi - lo).toNat:Nat):Int) - ((0:Nat):Int)=We lo hi 1:=by rw[rangeSize_one];split<;>lia
  show IsRangeIter _ _ (lo+((0:Nat):Int)*1) ((((hi - lo).toNat:Nat):Int) - ((0:Nat):Int)) 1;rw[e1,e2];exact XS _ rfl
 ·have e:b=(s.heap.push {cls:=.type "range",data:=.fields #[.int lo t,.int hi u,.int 1 v]}).objs.size:=by simpa using hb
  subst e;exact I1.fpOk (Xl _) (I1.hok.fresh (Xl _))
noncomputable def Qo(ta:TA):TI:=λσ H R=>ta σ H λvs H1=>∃j:Int,vs=[.int j]/\ -(2^62)≤j/\j<2^62/\R (Itr 0 j.toNat) H1
noncomputable def Qp(ta:TA):TI:=λσ H R=>ta σ H λvs H1=>∃i j:Int,vs=[.int i,.int j]/\(-(2^62)≤i/\i<2^62/\ -(2^62)≤j/\j<2^62)/\R (Itr i (j - i).toNat) H1
theorem Qq{a:Expr}{ta:TA}{p pos:Pos}(hg:Gl X "range")(hm:X.mg "range"=none)(ha:PA X [a] ta)(hs:XM [a] X.env=[(false,eval a X.env)]:=by rfl):PI X tg (.Call (.Name "range" p) [a] [] pos) (Qo ta):=by
 intro pins s σ H R I h;refine Call_ (Um I hg hm boot_range (VA (thn (ha pos pins s σ H _ I h) λus s1 ⟨vs,H1,I1,r1,q1⟩=>?_) hs rfl));obtain⟨j,e,q1,q2,q⟩:=q1;subst e;cases r1 with
 |cons r rr=>
  cases rr;obtain⟨t,rfl⟩:=r;exact call_range_1 (GJ I1 (by lia) (by lia) q1 q2 (by simpa using q))
theorem Qr{a b:Expr}{ta:TA}{p pos:Pos}(hg:Gl X "range")(hm:X.mg "range"=none)(ha:PA X [a,b] ta)(hs:XM [a,b] X.env=[(false,eval a X.env),(false,eval b X.env)]:=by rfl)(hs2:XM [b] X.env=[(false,eval b X.env)]:=by rfl):
  PI X tg (.Call (.Name "range" p) [a,b] [] pos) (Qp ta):=by
 intro pins s σ H R I h;refine Call_ (Um I hg hm boot_range (VA (thn (ha pos pins s σ H _ I h) λus s1 ⟨vs,H1,I1,r1,q1⟩=>?_) (by rw[hs,hs2]) (by rw[hs2];rfl)))
 obtain⟨i,j,e,⟨q1,q2,q3,q4⟩,q⟩:=q1;subst e;cases r1 with
 |cons r rr=>
  cases rr with
  |cons r' rr=>
   cases rr;obtain⟨t,rfl⟩:=r;obtain⟨t',rfl⟩:=r';exact call_range_2 (GJ I1 q1 q2 q3 q4 q)
noncomputable def tFor(wi:TI)(g:TG)(tb:TS):TS:=λD σ H=>wi σ H λJ H1=>∃W:Nat->Nat->St->Hp->Prop,(∃m,W 0 m σ H1)/\∀i m σ H,W i m σ H->
 (J.stop i H/\D.nx σ H)\/(J.go i H/\∃N:St->Hp->Prop,(∀σ' H',N σ' H'->∃m',m'<m/\W (i+1) m' σ' H')/\∀x H',J.yld i H x H'->g x σ H' λσ2 H2=>tb {D with nx:=N,ct:=N,bk:=D.nx} σ2 H2)
noncomputable def Wi(fp:List Addr)(h:Heap):List (Addr×Obj):=fp.filterMap λb=>(h.get? b).map λo=>(b,o)
theorem BD{fp:List Addr}{h:Heap}{b:Addr}{o:Obj}(hb:b∈fp)(e:h.get? b=some o):(b,o)∈Wi fp h:=List.mem_filterMap.mpr ⟨b,hb,by rw[e];rfl⟩
theorem Qs{fp:List Addr}{h:Heap}{p:Addr×Obj}(hp:p∈Wi fp h):p.1∈fp/\h.get? p.1=some p.2:=by
 obtain⟨b,hb,e⟩:=List.mem_filterMap.mp hp;cases q:h.get? b with
 |none=>rw[q]at e;cases e
 |some o=>
  rw[q]at e;have e':(b,o)=p:=Yq e;subst e';exact⟨hb,q⟩
theorem Inv.pinned{pins:List (Addr×Obj)}{σ:St}{H:Hp}{s:X1}{fp:List Addr}(I:Inv X pins σ H s)(hf:∀b∈fp,FpOk X pins H b)(ho:∀b∈fp,∃o,s.heap.get? b=some o/\∀v,o.data≠.cell v):Inv X (pins++Wi fp s.heap) σ H s:=
 I.pins_of λp hp=>(YA.mp hp).elim (λz=>I.pin p (Uz _ z)) λz=>by
  obtain⟨hb,e⟩:=Qs z;obtain⟨f0,f1,f2,_⟩:=hf p.1 hb;obtain⟨o,e',d⟩:=ho p.1 hb;rw[e]at e';cases e';exact⟨e,f0,f1,f2,d⟩
theorem Inv.unpinned{pins pl:List (Addr×Obj)}{σ:St}{H:Hp}{s:X1}(I:Inv X (pins++pl) σ H s):Inv X pins σ H s:=I.pins_of λp hp=>I.pin p (Uz _ (List.mem_append_left _ hp))
theorem Qt{iter:Expr}{body:List Stmt}{wi:TI}{g:TG}{tb:TS}{pos:Pos}(hp:PassesOwn (X8 X.prog X.w) X.A X.env X.xe)(hc:X.calm=true)(hi:PI X tg iter wi)(hg:PG X tg g)(hb:PSs X body tb)
  (hs:∀x,AY iter X.env x=pure x:=by intro _;rfl):PS X (.For tg iter body [] pos) (tFor wi g tb):=by
 intro pins s σ H D I h;refine wpAny_For (thn (hi pins s σ H _ I h) λv s1 h1=>thn h1 λitv s2 h2=>?_) hs;obtain⟨it,fp,tn,J,H2,e,I2,T,st2,f2,W,⟨m0,w0⟩,turn⟩:=h2;subst e;have stat:∀{H':Hp},(∀b∈fp,H' b=none)->∀b∈fp,FpOk X pins H' b:=λhn b hb=>⟨hn b hb,(f2 b hb).2⟩;refine codeAny_forLoop_any (λn s'=>∃i σ' H',Inv X pins σ' H' s'/\tn i s'.heap/\(∀b∈fp,H' b=none)/\W i n σ' H') ?_ m0 ⟨0,σ,H2,I2,st2,λb hb=>(f2 b hb).1,w0⟩;rintro n s3 ⟨i,σ3,H3,I3,st3,fr3,w3⟩;rcases turn i n σ3 H3 w3 with⟨stop,qn⟩|⟨go,N,hN,step⟩
 ·refine WK hp (thn (T.done X rfl rfl rfl hc i pins s3 σ3 H3 X.xe I3 (stat fr3) st3 stop) λr s4 ⟨hr,I4⟩=>?_);subst hr;exact wpAny_execs_nil ⟨σ3,H3,I4,qn⟩
 ·refine WK hp (thn (T.item X rfl rfl rfl hc i pins s3 σ3 H3 X.xe I3 (stat fr3) st3 go) λr s4 ⟨u,hr,h4⟩=>?_);subst hr;refine WK hp (thn h4 λ_ s5 ⟨x,H5,I5,r5,y5,st5,fr5⟩=>?_);have I5':=I5.pinned (stat fr5) (T.obj _ _ st5);refine WK hp (thn (hg _ s5 σ3 H5 x u _ I5' r5 (step x H5 y5)) λ_ s6 ⟨σ6,H6,I6,q6⟩=>?_);refine WK hp (thn (hb _ s6 σ6 H6 _ I6 q6) λf s7 q7=>?_);have again:∀{σ7:St} {H7:Hp},Inv X (pins++Wi fp s5.heap) σ7 H7 s7->N σ7 H7->∃m,m<n/\∃i σ' H',Inv X pins σ' H' s7/\tn i s7.heap/\(∀b∈fp,H' b=none)/\W i m σ' H':=fun{σ7 H7} I7 n7=>by
   obtain⟨m',hm,w7⟩:=hN σ7 H7 n7;refine⟨m',hm,i+1,σ7,H7,I7.unpinned,T.keep _ _ _ st5 λb hb o e=>(I7.pin (b,o) (Uz _ (Uz _ (BD hb e)))).1,λb hb=>?_,w7⟩;obtain⟨o,e,d⟩:=T.obj _ _ st5 b hb;exact(I7.pin (b,o) (Uz _ (Uz _ (BD hb e)))).2.1
  cases f with
  |next=>obtain⟨σ7,H7,I7,n7⟩:=q7;exact again I7 n7
  |cont=>obtain⟨σ7,H7,I7,n7⟩:=q7;exact again I7 n7
  |brk=>obtain⟨σ7,H7,I7,q7⟩:=q7;exact⟨σ7,H7,I7.unpinned,q7⟩
  |ret v=>obtain⟨x7,σ7,H7,I7,r7,q7⟩:=q7;exact⟨x7,σ7,H7,I7.unpinned,r7,q7⟩
end
noncomputable abbrev R2:=V->V->Hp->VK->Prop
noncomputable def OpR(X:Cx)(f:X0->X0->Sem X0)(r:R2):Prop:=
 ∀(pins:List (Addr×Obj)) (s:X1) (σ:St) (H:Hp) (x y:V) (v u:X0) (Q:VK),Inv X pins σ H s->RelV x v->RelV y u->r x y H Q->
  X4 (X8 X.prog X.w) X.A (f v u) (EP X pins σ Q) X.xe s
noncomputable def CallR(X:Cx)(f:X0)(r:List V->Hp->VK->Prop):Prop:=
 ∀(pins:List (Addr×Obj)) (s:X1) (σ:St) (H:Hp) (xs:List V) (us:List X0) (Q:VK),Inv X pins σ H s->Vals xs us->r xs H Q->
  X4 (X8 X.prog X.w) X.A (call f us) (EP X pins σ Q) X.xe s
noncomputable def tOp(r:R2)(ta tb:TE):TE:=λσ H Q=>ta σ H λx H1=>tb σ H1 λy H2=>r x y H2 Q
noncomputable def rI(C:Int->Int->Prop)(g:Int->Int->V):R2:=λx y H Q=>∃i j,x=.int i/\y=.int j/\C i j/\Q (g i j) H
noncomputable def rI0(g:Int->Int->V):R2:=λx y H Q=>∃i j,x=.int i/\y=.int j/\Q (g i j) H
section
variable{X:Cx}{a b c:Expr}{ta tb tc:TE}{pos:Pos}
theorem binT(ha:PE X a ta)(hb:PE X b tb){pins:List (Addr×Obj)}{s:X1}{σ:St}{H:Hp}{R:V->V->Hp->Prop}(I:Inv X pins σ H s)
  (h:ta σ H λx H1=>tb σ H1 λy H2=>R x y H2) {Q:X0->X1->Prop} {f:X0->X0->Sem X0}
  (hf:∀v u s2 x y H2,Inv X pins σ H2 s2->RelV x v->RelV y u->R x y H2->X4 (X8 X.prog X.w) X.A (f v u) Q X.xe s2):
  X4 (X8 X.prog X.w) X.A (eval a X.env) (λv s₁=>X4 (X8 X.prog X.w) X.A (eval b X.env) (λu s₂=>X4 (X8 X.prog X.w) X.A (f v u) Q X.xe s₂) X.xe s₁) X.xe s:=by
 refine thn (ha pins s σ H _ I h) λv s1 ⟨x,H1,I1,r1,q1⟩=>?_;refine thn (hb pins s1 σ H1 _ I1 q1) λu s2 ⟨y,H2,I2,r2,q2⟩=>?_;exact hf v u s2 x y H2 I2 r1 r2 q2
theorem Qu{op:UT}{r:R2}(ho:OpR X (Uw op) r)(ha:PE X a ta)(hb:PE X b tb):PE X (.BinOp a op b pos) (tOp r ta tb):=by
 intro pins s σ H Q I h;exact wpAny_BinOp (binT ha hb I h λv u s2 x y H2 I2 rx ry q=>ho pins s2 σ H2 x y v u Q I2 rx ry q)
theorem opI{f:X0->X0->Sem X0}{C:Int->Int->Prop}{g:Int->Int->Int}
  (rule:∀(i j:Int) (t u:Tok) (s:X1) (Q:X0->X1->Prop) (E:X0->X1->Prop),C i j->Q (.int (g i j) s.toks) {s with toks:=s.toks+1}->X4 (X8 X.prog X.w) X.A (f (.int i t) (.int j u)) Q E s):
  OpR X f (rI C λi j=>.int (g i j)):=by
 intro pins s σ H x y v u Q I rx ry h;obtain⟨i,j,rfl,rfl,hc,q⟩:=h;obtain⟨t,rfl⟩:=rx;obtain⟨t',rfl⟩:=ry;exact rule i j t t' s _ _ hc ⟨.int (g i j),H,I.tok _,⟨_,rfl⟩,q⟩
theorem opI0{f:X0->X0->Sem X0}{g:Int->Int->Int}
  (rule:∀(i j:Int) (t u:Tok) (s:X1) (Q:X0->X1->Prop) (E:X0->X1->Prop),Q (.int (g i j) s.toks) {s with toks:=s.toks+1}->X4 (X8 X.prog X.w) X.A (f (.int i t) (.int j u)) Q E s):
  OpR X f (rI0 λi j=>.int (g i j)):=by
 intro pins s σ H x y v u Q I rx ry h;obtain⟨i,j,rfl,rfl,q⟩:=h;obtain⟨t,rfl⟩:=rx;obtain⟨t',rfl⟩:=ry;exact rule i j t t' s _ _ ⟨.int (g i j),H,I.tok _,⟨_,rfl⟩,q⟩
theorem opB0{f:X0->X0->Sem X0}{g:Int->Int->Bool}
  (rule:∀(i j:Int) (t u:Tok) (s:X1) (Q:X0->X1->Prop) (E:X0->X1->Prop),Q (.bool (g i j)) s->X4 (X8 X.prog X.w) X.A (f (.int i t) (.int j u)) Q E s):
  OpR X f (rI0 λi j=>.bl (g i j)):=by
 intro pins s σ H x y v u Q I rx ry h;obtain⟨i,j,rfl,rfl,q⟩:=h;obtain⟨t,rfl⟩:=rx;obtain⟨t',rfl⟩:=ry;exact rule i j t t' s _ _ ⟨.bl (g i j),H,I,rfl,q⟩
noncomputable def CPow(i j:Int):Prop:=0≤j/\j≤1000000/\i.natAbs<2^64
noncomputable def CMul(i j:Int):Prop:=(-(2^64)<i/\i<2^64)\/(-(2^64)<j/\j<2^64)
theorem CMul.ok{i j:Int}(h:CMul i j):IntMulOk i j:=by
 rcases h with⟨h1,h2⟩|⟨h1,h2⟩
 ·exact .of_left (intBits_le_64 h1 h2)
 ·exact .of_right (intBits_le_64 h1 h2)
theorem Qv:OpR X (Uw .Add) (rI0 λi j=>.int (i+j)):=opI0 λ_ _ _ _ _ _ _ q=>add_int q
theorem Qw:OpR X (Uw .Sub) (rI0 λi j=>.int (i - j)):=opI0 λ_ _ _ _ _ _ _ q=>sub_int q
theorem Qx:OpR X (Uw .Mult) (rI CMul λi j=>.int (i*j)):=opI λ_ _ _ _ _ _ _ hc q=>mul_int q hc.ok
theorem Qy:OpR X (Uw .Mod) (rI (λ_ j=>0<j) λi j=>.int (i%j)):=opI λi j _ _ _ _ _ hc q=>by
 have h1:(0:Int)<j:=hc;exact mod_int' (by lia) (by rw[Int.fmod_eq_emod_of_nonneg i (by lia)];exact q)
theorem Qz:OpR X (Uw .Pow) (rI CPow λi j=>.int (i^j.toNat)):=opI λ_ _ _ _ _ _ _ hc q=>pow_int_small hc.1 hc.2.1 hc.2.2 q
end
noncomputable def scal:V->V->Bool
 |.non,.non=>true|.non,.int _=>true|.int _,.non=>true|.non,.bl _=>true|.bl _,.non=>true|.non,.str _=>true|.str _,.non=>true
 |.int _,.int _=>true|.bl _,.bl _=>true|.str _,.str _=>true|.byt _,.byt _=>true
 |.int _,.str _=>true|.str _,.int _=>true|.bl _,.str _=>true|.str _,.bl _=>true
 |_,_=>false
noncomputable def rEq:R2:=λx y H Q=>scal x y=true/\Q (.bl (decide (x=y))) H
noncomputable def rNe:R2:=λx y H Q=>scal x y=true/\Q (.bl (!decide (x=y))) H
theorem GK{i j:Int}:decide (V.int i=V.int j)=(i==j):=by
 rw[Bi];simp
theorem GM{i j:Bool}:decide (V.bl i=V.bl j)=(i==j):=by
 rw[Bi];simp
theorem GN{i j:Str}:decide (V.str i=V.str j)=(i==j):=by
 rw[Bi];simp
theorem GO{i j:Array UInt8}:decide (V.byt i=V.byt j)=(i.toList==j.toList):=by
 rw[Bi];cases i;cases j;simp
section
variable{X:Cx}{a b c:Expr}{ta tb tc:TE}{pos:Pos}
theorem XQ{pins:List (Addr×Obj)}{σ:St}{H:Hp}{s:X1}{Q:VK}{k k':Bool}(I:Inv X pins σ H s)(q:Q (.bl k) H)(e:k=k'):EP X pins σ Q (.bool k') s:=by
 subst e;exact⟨.bl k,H,I,rfl,q⟩
theorem QA:OpR X (Y0 .Eq) rEq:=by
 intro pins s σ H x y v u Q I rx ry h;obtain⟨hs,q⟩:=h;cases x with
 |non=>
  cases rx;cases y with
  |non=>cases ry;exact PySem.EqNone.eq_none_none (XQ I q (by simp))
  |bl j=>cases ry;exact PySem.EqNone.eq_none_bool (XQ I q (by simp))
  |int j=>obtain⟨t',rfl⟩:=ry;exact PySem.EqNone.eq_none_int (XQ I q (by simp))
  |str j=>obtain⟨t',rfl⟩:=ry;exact PySem.EqNone.eq_none_str (XQ I q (by simp))
  |_=>exact absurd (show false=true from hs) XG
 |bl i=>
  cases rx;cases y with
  |non=>cases ry;exact PySem.EqNone.eq_bool_none (XQ I q (by simp))
  |bl j=>cases ry;exact eq_bool (XQ I q GM)
  |str j=>obtain⟨t',rfl⟩:=ry;exact PySem.EqMixed.eq_bool_str (XQ I q (by simp))
  |_=>exact absurd (show false=true from hs) XG
 |int i=>
  obtain⟨t,rfl⟩:=rx;cases y with
  |non=>cases ry;exact PySem.EqNone.eq_int_none (XQ I q (by simp))
  |int j=>obtain⟨t',rfl⟩:=ry;exact eq_int (XQ I q GK)
  |str j=>obtain⟨t',rfl⟩:=ry;exact PySem.EqMixed.eq_int_str (XQ I q (by simp))
  |_=>exact absurd (show false=true from hs) XG
 |str i=>
  obtain⟨t,rfl⟩:=rx;cases y with
  |non=>cases ry;exact PySem.EqNone.eq_str_none (XQ I q (by simp))
  |bl j=>cases ry;exact PySem.EqMixed.eq_str_bool (XQ I q (by simp))
  |int j=>obtain⟨t',rfl⟩:=ry;exact PySem.EqMixed.eq_str_int (XQ I q (by simp))
  |str j=>obtain⟨t',rfl⟩:=ry;exact eq_str (XQ I q GN)
  |_=>exact absurd (show false=true from hs) XG
 |byt i=>
  obtain⟨t,rfl⟩:=rx;cases y with
  |byt j=>obtain⟨t',rfl⟩:=ry;exact PySem.W.eq_bytes (XQ I q GO)
  |_=>exact absurd (show false=true from hs) XG
 |_=>cases y<;>exact absurd (show false=true from hs) XG
theorem QB:OpR X (Y0 .NotEq) rNe:=by
 intro pins s σ H x y v u Q I rx ry h;obtain⟨hs,q⟩:=h;cases x with
 |non=>
  cases rx;cases y with
  |non=>cases ry;exact PySem.EqNone.ne_none_none (XQ I q (by simp))
  |bl j=>cases ry;exact PySem.EqNone.ne_none_bool (XQ I q (by simp))
  |int j=>obtain⟨t',rfl⟩:=ry;exact PySem.EqNone.ne_none_int (XQ I q (by simp))
  |str j=>obtain⟨t',rfl⟩:=ry;exact PySem.EqNone.ne_none_str (XQ I q (by simp))
  |_=>exact absurd (show false=true from hs) XG
 |bl i=>
  cases rx;cases y with
  |non=>cases ry;exact PySem.EqNone.ne_bool_none (XQ I q (by simp))
  |bl j=>cases ry;exact ne_bool (XQ I q (congrArg not GM))
  |str j=>obtain⟨t',rfl⟩:=ry;exact PySem.EqMixed.ne_bool_str (XQ I q (by simp))
  |_=>exact absurd (show false=true from hs) XG
 |int i=>
  obtain⟨t,rfl⟩:=rx;cases y with
  |non=>cases ry;exact PySem.EqNone.ne_int_none (XQ I q (by simp))
  |int j=>obtain⟨t',rfl⟩:=ry;exact ne_int (XQ I q (congrArg not GK))
  |str j=>obtain⟨t',rfl⟩:=ry;exact PySem.EqMixed.ne_int_str (XQ I q (by simp))
  |_=>exact absurd (show false=true from hs) XG
 |str i=>
  obtain⟨t,rfl⟩:=rx;cases y with
  |non=>cases ry;exact PySem.EqNone.ne_str_none (XQ I q (by simp))
  |bl j=>cases ry;exact PySem.EqMixed.ne_str_bool (XQ I q (by simp))
  |int j=>obtain⟨t',rfl⟩:=ry;exact PySem.EqMixed.ne_str_int (XQ I q (by simp))
  |str j=>obtain⟨t',rfl⟩:=ry;exact ne_str (XQ I q (congrArg not GN))
  |_=>exact absurd (show false=true from hs) XG
 |byt i=>
  obtain⟨t,rfl⟩:=rx;cases y with
  |byt j=>obtain⟨t',rfl⟩:=ry;exact PySem.W.ne_bytes (XQ I q (congrArg not GO))
  |_=>exact absurd (show false=true from hs) XG
 |_=>cases y<;>exact absurd (show false=true from hs) XG
theorem QC:OpR X (Y0 .Lt) (rI0 λi j=>.bl (decide (i<j))):=opB0 λ_ _ _ _ _ _ _ q=>lt_int q
theorem QD:OpR X (Y0 .LtE) (rI0 λi j=>.bl (decide (i≤j))):=opB0 λ_ _ _ _ _ _ _ q=>le_int q
theorem QE:OpR X (Y0 .Gt) (rI0 λi j=>.bl (decide (j<i))):=opB0 λ_ _ _ _ _ _ _ q=>gt_int q
theorem QF:OpR X (Y0 .GtE) (rI0 λi j=>.bl (decide (j≤i))):=opB0 λ_ _ _ _ _ _ _ q=>ge_int q
theorem QG:OpR X (Y0 .Is) (λx y H Q=>y=.non/\Q (.bl (decide (x=.non))) H):=by
 intro pins s σ H x y v u Q I rx ry h;obtain⟨rfl,q⟩:=h;cases ry;refine is_none_gen (XQ I q ?_);cases x<;>first
  |(cases rx;rfl)
  |(obtain⟨t,rfl⟩:=rx;rfl)
theorem QH:OpR X (Y0 .IsNot) (λx y H Q=>y=.non/\Q (.bl (!decide (x=.non))) H):=by
 intro pins s σ H x y v u Q I rx ry h;obtain⟨rfl,q⟩:=h;cases ry;refine isnot_none_gen (XQ I q ?_);cases x<;>first
  |(cases rx;rfl)
  |(obtain⟨t,rfl⟩:=rx;rfl)
theorem OpR.or{f:X0->X0->Sem X0}{r r':R2}(h:OpR X f r)(h':OpR X f r'):OpR X f (λx y H Q=>r x y H Q\/r' x y H Q):=by
 intro pins s σ H x y v u Q I rx ry q;rcases q with q|q
 ·exact h pins s σ H x y v u Q I rx ry q
 ·exact h' pins s σ H x y v u Q I rx ry q
theorem nomark(b:Expr){op:Yw}(h:op≠.In:=by decide)(h2:op≠.NotIn:=by decide):WL op b=false:=by
 have e1:(op==CmpOp.In)=false:=by cases op<;>first|rfl|exact absurd rfl h
 have e2:(op==CmpOp.NotIn)=false:=by cases op<;>first|rfl|exact absurd rfl h2
 cases b<;>simp[WL,e1,e2]
theorem QI{op:Yw}{r:R2}(ho:OpR X (Y0 op) r)(ha:PE X a ta)(hb:PE X b tb)(hm:WL op b=false):PE X (.Compare a [op] [b] pos) (tOp r ta tb):=by
 intro pins s σ H Q I h;exact wpAny_Compare1 (binT ha hb I h λv u s2 x y H2 I2 rx ry q=>ho pins s2 σ H2 x y v u Q I2 rx ry q) hm
noncomputable def GP(t:TE):TT:=λσ H Q=>t σ H λx H'=>∃k,x=.bl k/\Q k H'
theorem QJ{op:Yw}{r:R2}(ho:OpR X (Y0 op) r)(ha:PE X a ta)(hb:PE X b tb)(hm:WL op b=false):PT X (.Compare a [op] [b] pos) (GP (tOp r ta tb)):=by
 intro pins s σ H Q I h;refine wpAny_isTrue_Compare1 (thn (ha pins s σ H _ I h) λv s1 ⟨x,H1,I1,r1,q1⟩=>thn (hb pins s1 σ H1 _ I1 q1) λu s2 ⟨y,H2,I2,r2,q2⟩=>
  thn (ho pins s2 σ H2 x y v u _ I2 r1 r2 q2) λc s3 ⟨z,H3,I3,r3,k,e,q3⟩=>?_) hm
 subst e;cases r3;exact Ud ⟨H3,I3,q3⟩
noncomputable def Dt(r r':R2)(ta tb tc:TE):TE:=λσ H Q=>ta σ H λx H1=>tb σ H1 λy H2=>r x y H2 λz H3=>∃k,z=.bl k/\
 (if k=true then tc σ H3 λw' H4=>r' y w' H4 Q else Q (.bl false) H3)
theorem QK{op op':Yw}{r r':R2}(ho:OpR X (Y0 op) r)(ho':OpR X (Y0 op') r')(ha:PE X a ta)(hb:PE X b tb)(hc:PE X c tc)
  (hm:lastMarks [op,op'] [b,c]=false:=by with_unfolding_all rfl):PE X (.Compare a [op,op'] [b,c] pos) (Dt r r' ta tb tc):=by
 intro pins s σ H Q I h;refine Compare_chain (thn (ha pins s σ H _ I h) λv s1 ⟨x,H1,I1,r1,q1⟩=>chain_link (thn (hb pins s1 σ H1 _ I1 q1) λu s2 ⟨y,H2,I2,r2,q2⟩=>
  thn (ho pins s2 σ H2 x y v u _ I2 r1 r2 q2) λd s3 ⟨z,H3,I3,r3,k,e,q3⟩=>?_)) hm
 subst e;cases r3;refine Ud ?_;cases k with
 |false=>exact ite_ff ⟨.bl false,H3,I3,rfl,q3⟩
 |true=>exact ite_tt (chain_last (thn (hc pins s3 σ H3 _ I3 q3) λw' s4 ⟨z',H4,I4,r4,q4⟩=>ho' pins s4 σ H4 y z' u w' Q I4 r2 r4 q4))
theorem QL{op op':Yw}{r r':R2}(ho:OpR X (Y0 op) r)(ho':OpR X (Y0 op') r')(ha:PE X a ta)(hb:PE X b tb)(hc:PE X c tc)
  (hm:lastMarks [op,op'] [b,c]=false:=by with_unfolding_all rfl):PT X (.Compare a [op,op'] [b,c] pos) (GP (Dt r r' ta tb tc)):=by
 intro pins s σ H Q I h;refine isTrue_chain (thn (ha pins s σ H _ I h) λv s1 ⟨x,H1,I1,r1,q1⟩=>test_link (thn (hb pins s1 σ H1 _ I1 q1) λu s2 ⟨y,H2,I2,r2,q2⟩=>
  thn (ho pins s2 σ H2 x y v u _ I2 r1 r2 q2) λd s3 ⟨z,H3,I3,r3,k,e,q3⟩=>?_)) hm
 subst e;cases r3;refine Ud ?_;cases k with
 |false=>
  obtain⟨k',e',q'⟩:=q3;cases e';exact ite_ff ⟨H3,I3,q'⟩
 |true=>
  refine ite_tt (test_last (thn (hc pins s3 σ H3 _ I3 q3) λw' s4 ⟨z',H4,I4,r4,q4⟩=>thn (ho' pins s4 σ H4 y z' u w' _ I4 r2 r4 q4) λd' s5 ⟨z2,H5,I5,r5,k2,e2,q5⟩=>?_));subst e2;cases r5;exact Ud ⟨H5,I5,q5⟩
theorem Wj:(sizeLine:Nat)<2^63:=by rw[sizeLine_eq];decide
theorem QN:OpR X (Uw .Add) (λx y H Q=>∃i j,x=.str i/\y=.str j/\i.length+j.length≤sizeLine/\Q (.str (i++j)) H):=by
 intro pins s σ H x y v u Q I rx ry h;obtain⟨i,j,rfl,rfl,hz,q⟩:=h;obtain⟨t,rfl⟩:=rx;obtain⟨t',rfl⟩:=ry;exact add_str (λt' tk=>⟨.str (i++j),H,I.tok _,⟨_,rfl⟩,q⟩) hz
theorem YR{x:V}{us:List X0}(r:Vals [x] us):∃u,us=[u]/\RelV x u:=by
 cases r with
 |cons r1 r2=>cases r2;exact⟨_,rfl,r1⟩
theorem Wk{x y:V}{us:List X0}(r:Vals [x,y] us):∃u w',us=[u,w']/\RelV x u/\RelV y w':=by
 cases r with
 |cons r1 r2=>
  cases r2 with
  |cons r3 r4=>cases r4;exact⟨_,_,rfl,r1,r3⟩
theorem QO:CallR X (.builtin "abs") (fun xs H Q=>∃i,xs=[.int i]/\Q (.int (if i<0 then -i else i)) H):=by
 intro pins s σ H xs us Q I r h;obtain⟨i,rfl,q⟩:=h;obtain⟨u,rfl,t,rfl⟩:=YR r;exact call_abs_int λu tk=>⟨.int (if i<0 then -i else i),H,I.tok _,⟨_,rfl⟩,q⟩
theorem QP(hc:X.calm=true):CallR X (.builtin "max") (fun xs H Q=>∃i j,xs=[.int i,.int j]/\Q (.int (if j>i then j else i)) H):=by
 intro pins s σ H xs us Q I r h;obtain⟨i,j,rfl,q⟩:=h;obtain⟨u,w',rfl,⟨t,rfl⟩,⟨t',rfl⟩⟩:=Wk r;refine max_two_ints (I.ok.hd hc) λh' tk k=>⟨_,H,I.kept k,?_,q⟩;by_cases hj:j>i
 ·rw[if_pos hj,if_pos hj];exact⟨_,rfl⟩
 ·rw[if_neg hj,if_neg hj];exact⟨_,rfl⟩
theorem QQ(hc:X.calm=true):CallR X (.builtin "min") (fun xs H Q=>∃i j,xs=[.int i,.int j]/\Q (.int (if j<i then j else i)) H):=by
 intro pins s σ H xs us Q I r h;obtain⟨i,j,rfl,q⟩:=h;obtain⟨u,w',rfl,⟨t,rfl⟩,⟨t',rfl⟩⟩:=Wk r;refine min_two_ints (I.ok.hd hc) λh' tk k=>⟨_,H,I.kept k,?_,q⟩;by_cases hj:j<i
 ·rw[if_pos hj,if_pos hj];exact⟨_,rfl⟩
 ·rw[if_neg hj,if_neg hj];exact⟨_,rfl⟩
theorem GQ:CallR X (.type "int") (fun xs H Q=>(∃i,xs=[.int i]/\Q (.int i) H)\/∃k,xs=[.bl k]/\Q (.int (if k then 1 else 0)) H):=by
 intro pins s σ H xs us Q I r h;rcases h with⟨i,rfl,q⟩|⟨k,rfl,q⟩
 ·obtain⟨u,rfl,t,rfl⟩:=YR r;exact call_int_int ⟨.int i,H,I,⟨_,rfl⟩,q⟩
 ·obtain⟨u,rfl,r1⟩:=YR r;cases r1;exact call_int_bool ⟨.int (if k then 1 else 0),H,I.tok _,⟨_,rfl⟩,q⟩
end
structure ObjM (h:Heap) (x dx C:Addr) (mA:Str->Option X0):Prop where
 obj:h.get? x=some (Vs C dx)
 ns:h.Ns1 dx mA
 ne:dx≠x
theorem QR{h:Heap}{dx:Addr}{mA:Str->Option X0}(n:h.Ns1 dx mA):∃od,h.get? dx=some od/\∀name,D6 name od=some (mA name):=by
 obtain⟨o,es,ep,ho,hd,hk,_,hm⟩:=n;refine⟨o,ho,λname=>?_⟩;have e:=hm name;unfold nsFind findBy at e;rw[<- Array.find?_toList]at e;unfold D6;rw[hd];dsimp only;split
 ·rename_i y q
  rw[q]at e;exact congrArg some e
 ·rename_i q
  rw[q]at e;have a:es.toList.any (·.refKey)=false:=by
   rw[List.any_eq_false];intro y hy;obtain⟨z,t,hkey⟩:=hk y (Array.mem_toList_iff.mp hy);simp[DictEntry.refKey,hkey]
  have a':¬es.toList.any (·.refKey)=true:=by rw[a];exact XG
  rw[if_neg a'];exact congrArg some e
theorem ObjM.look{h:Heap}{x dx C:Addr}{mA:Str->Option X0}(I:ObjM h x dx C mA):∃od,PySem.W.InstAt h x (Vs C dx) C (some od)/\∀name,D6 name od=some (mA name):=
 let⟨od,ho,hl⟩:=QR I.ns
 ⟨od,⟨I.obj,rfl,rfl,ho⟩,hl⟩
section
variable{prog:Xn}{w:Xj}{A:Xz}{E:X0->X1->Prop}{s:X1}{K:X6}{x dx C f:Addr}{mA:Str->Option X0}{name:Str}{v:X0}
end
theorem RelO.some_of{v:V}{o:Option X0}(r:RelO (some v) o):∃u,o=some u/\RelV v u:=by
 cases o with
 |none=>exact(show False from r).elim
 |some u=>exact⟨u,rfl,r⟩
section
variable{P:Xn}{w:Xj}{H H':Hp}{h h':Heap}{a C dx:Addr}{fs fs':List (Str×V)}
theorem GR(hok:HOk P w H h)(e:H a=some (.ins C dx fs)):∃mA,ObjM h a dx C mA/\(∀f,RelO (fs.lookup f) (mA f))/\PySem.Within mA (fs.map (·.1))/\fs.length≤1000/\H dx=some (.own a):=by
 obtain⟨d,z,ne,ob,mA,n,r,q⟩:=(show ObjOk P w H h a (.ins C dx fs)from hok a _ e);exact⟨mA,⟨ob,n,ne⟩,r,q,z,d⟩
end
structure Cls (K:X6) (C:Addr):Prop where
 pg:PySem.W.plainGet K C Wc=true
 hd:PySem.W.hasDictIn K C=true
 po:PySem.W.plainOver K C=true
 sa:W9 K (.ref C) "__setattr__"=some (some (.builtin "object.__setattr__"))
theorem Cls.get{K:X6}{C:Addr}(c:Cls K C)(f:Str):PySem.W.plainGet K C f=true:=c.pg
noncomputable def Du(K:X6)(C:Addr)(f:Str):Prop:=W9 K (.ref C) f=some none
structure Con (K:X6) (C:Addr) (f:Str) (v:V) (u:X0):Prop where
 at_:W9 K (.ref C) f=some (some u)
 rel:RelV v u
 get:PySem.W.specialIn K u "__get__"=some none
 cp:PySem.W.copiedNames.contains f=false
structure Meth (K:X6) (C:Addr) (m:Str) (f:Addr):Prop where
 at_:W9 K (.ref C) m=some (some (.ref f))
 fn:PySem.W.isFn K (.ref f)=true
 kp:Xr K (.ref f)=true
section
variable{X:Cx}{pins:List (Addr×Obj)}{σ:St}{H:Hp}{s:X1}{a C dx:Addr}{fs:List (Str×V)}{f:Str}{v:V}{A:Xz}{E:X0->X1->Prop}
theorem Inv.made(I:Inv X pins σ H s):Inv X pins σ (upd (upd H s.heap.objs.size (.own (s.heap.objs.size+1))) (s.heap.objs.size+1) (.ins C s.heap.objs.size []))
  {s with heap:=(s.heap.push Vc).push (Vs C s.heap.objs.size)}:=by
 have e1:(s.heap.push Vc).get? s.heap.objs.size=some Vc:=XS s.heap rfl;have e2:((s.heap.push Vc).push (Vs C s.heap.objs.size)).get? (s.heap.objs.size+1)=some (Vs C s.heap.objs.size):=by
  have:=XS (s.heap.push Vc) (o:=Vs C s.heap.objs.size) rfl
  rwa [Uk]at this
 have e3:(s.heap.push Vc).Ns s.heap.objs.size (λ_=>none):=⟨Vc,#[],_,e1,rfl,(λe he=>absurd he (by simp)),λ_=>rfl⟩
 have I1:=I.laid (a:=s.heap.objs.size) (o:=.own (s.heap.objs.size+1)) (h':=s.heap.push Vc) (t':=s.toks) (λb u q=>Xs _ q) (Xl _) ⟨_,e1⟩;refine I1.laid (a:=s.heap.objs.size+1) (o:=.ins C s.heap.objs.size []) (t':=s.toks) (λb u q=>Xs _ q) (A0 (Uk _ _)) ?_;have ne:s.heap.objs.size≠s.heap.objs.size+1:=XH (Nat.lt_succ_self _);refine⟨by rw[XO ne,UG],YD _,ne,e2,λ_=>none,(Heap.Ns1.of_empty e3).at λo q=>Xs _ q,λ_=>YH,λy hy=>absurd rfl hy⟩
end
section
variable{X:Cx}{o e value:Expr}{f:Str}{pos pos' tpos:Pos}{ta tv:TE}
end
section
variable{X:Cx}{pins:List (Addr×Obj)}{σ:St}{H:Hp}{s:X1}{A:Xz}{E:X0->X1->Prop}{Q:X0->X1->Prop}{c:X0}{b:Bool}
inductive TyOf (K:X6) (H:Hp):V->X0->Prop where
 |non:TyOf K H .non (.type "NoneType")
 |bl (x:Bool):TyOf K H (.bl x) (.type "bool")
 |int (i:Int):TyOf K H (.int i) (.type "int")
 |str (x:Str):TyOf K H (.str x) (.type "str")
 |flt (x:UInt64):TyOf K H (.flt x) (.type "float")
 |lst {a:Addr} {xs:List V} (e:H a=some (.lst xs)):TyOf K H (.ref a) (.type "list")
 |frz {a:Addr} {o:Obj} {xs:List V} (e:H a=some (.frz o (.lst xs))):TyOf K H (.ref a) (.type "list")
 |tup {a:Addr} {xs:List V} (e:H a=some (.tup xs)):TyOf K H (.ref a) (.type "tuple")
 |dK {a:Addr} {kvs:List (Key×V)} (e:H a=some (.dK kvs)):TyOf K H (.ref a) (.type "dict")
 |dT {a:Addr} {kvs:List (List Key×V)} (e:H a=some (.dT kvs)):TyOf K H (.ref a) (.type "dict")
 |ins {a C dx:Addr} {fs:List (Str×V)} (e:H a=some (.ins C dx fs)) (cl:Cls K C) (ha:W9 K (.ref C) "__class__"=some (some (.builtin "object.__class__")))
   (hn:PySem.W.specialIn K (.builtin "object.__class__") "__get__"=some (some (.builtin "getset_descriptor.__get__"))) (htk:PySem.W.takesIn K (.builtin "object.__class__")=some true)
   (hm:PySem.W.mroIn K C (.type "object")=some true):TyOf K H (.ref a) (.ref C)
theorem QS{x:V}{u t:X0}(I:Inv X pins σ H s)(rx:RelV x u)(ty:TyOf X.K H x t)(e:Vt X.K t c=some b)(h:∀tk,Q (.bool b) {s with toks:=tk}):
  X4 (X8 X.prog X.w) A (call (.builtin "isinstance") [u,c]) Q E s:=by
 cases ty with
 |non=>cases(show u=XB from rx);exact Uh PySem.W.kitx_none I.kIn YH e (λz=>nomatch z) h
 |bl y=>cases(show u=Yh y from rx);exact Uh PySem.W.kitx_bool I.kIn YH e (λz=>nomatch z) h
 |int i=>obtain⟨t,q⟩:=(show∃t,u=A3 i t from rx);cases q;exact Uh PySem.W.kitx_int I.kIn YH e (λz=>nomatch z) h
 |str y=>obtain⟨t,q⟩:=(show∃t,u=XL y t from rx);cases q;exact Uh PySem.W.kitx_str I.kIn YH e (λz=>nomatch z) h
 |flt y=>obtain⟨t,q⟩:=(show∃t,u=Value.float y t from rx);cases q;exact Uh PySem.W.kitx_float I.kIn YH e (λz=>nomatch z) h
 | @lst a xs ea=>
  cases(show u=XD a from rx);obtain⟨_,_,n,_,h1⟩:=(show ObjOk X.prog X.w H s.heap a (.lst xs)from I.hok a _ ea);exact Uh Be I.kIn ⟨_,h1,rfl⟩ e (λz=>nomatch z) h
 | @frz a ob xs ea=>
  cases(show u=XD a from rx);obtain⟨_,_,_,n,_,h1⟩:=(show ObjOk X.prog X.w H s.heap a (.frz ob (.lst xs))from I.hok a _ ea);exact Uh Be I.kIn ⟨_,h1,rfl⟩ e (λz=>nomatch z) h
 | @tup a xs ea=>
  cases(show u=XD a from rx);obtain⟨_,_,_,p⟩:=(show ObjOk X.prog X.w H s.heap a (.tup xs)from I.hok a _ ea);obtain⟨o,h1,h2,_⟩:=p.1;exact Uh PySem.W.kitx_tuple I.kIn ⟨o,h1,h2⟩ e (λz=>nomatch z) h
 | @dK a kvs ea=>
  cases(show u=XD a from rx);obtain⟨_,_,vs,_,p⟩:=(show ObjOk X.prog X.w H s.heap a (.dK kvs)from I.hok a _ ea);obtain⟨o,es,ep,h1,h2,_⟩:=p;exact Uh Bf I.kIn ⟨o,h1,h2.1⟩ e (λz=>nomatch z) h
 | @dT a kvs ea=>
  cases(show u=XD a from rx);obtain⟨_,_,xs,_,o,es,ep,h1,h2,_⟩:=(show ObjOk X.prog X.w H s.heap a (.dT kvs)from I.hok a _ ea);exact Uh Bf I.kIn ⟨o,h1,h2.1⟩ e (λz=>nomatch z) h
 | @ins a C dx fs ea cl ha hn htk hm=>
  cases(show u=XD a from rx);obtain⟨mA,O,_⟩:=GR I.hok ea;obtain⟨od,J,_⟩:=O.look;exact Uh (PySem.W.kitx_own (cl.get _) cl.hd ha hn htk hm) I.kIn J e (λz=>nomatch z) h
end
structure Room (k:Nat) (A:Xz):Prop where
 hd:A.handled=none
 dp:A.depth+3*k+5<recursionLimit
 un:A.units+16*k+200<cLine
theorem Room.mono{j k:Nat}{A:Xz}(r:Room k A)(h:j≤k):Room j A:=⟨r.hd,by have:=r.dp;lia,by have:=r.un;lia⟩
theorem Room.deeper{k:Nat}{A:Xz}(r:Room (k+1) A)(env:Env):Room k (A.deeper env):=
 ⟨r.hd,by have:=r.dp;show A.depth+1+3*k+5<_;lia,by have:=r.un;show A.units+3+16*k+200<_;lia⟩
theorem Room.depth{k:Nat}{A:Xz}(r:Room k A):A.depth<recursionLimit:=by have:=r.dp;lia
noncomputable def tNil:TA:=λ_ H Q=>Q [] H
noncomputable def Aa(ta:TE)(tr:TA):TA:=λσ H Q=>ta σ H λx H1=>tr σ H1 λxs H2=>Q (x::xs) H2
section
variable{X:Cx}{e:Expr}{es:List Expr}{te:TE}{t:TA}{pos:Pos}
theorem pa_nil:PA X [] tNil:=λ_ _ _ _ H Q I h=>A7 ⟨[],H,I,.nil,h⟩
theorem UH(ha:PE X e te)(hr:PA X es t)(hs:XM (e::es) X.env=(false,eval e X.env)::XM es X.env:=by rfl):PA X (e::es) (Aa te t):=by
 intro pos pins s σ H Q I h;rw[hs];show X4 _ _ (spliced ((false,eval e X.env)::Yn pos (XM es X.env))) _ _ s;refine A6 (thn (ha pins s σ H _ I h) λu s1 ⟨x,H1,I1,r1,q1⟩=>?_);exact thn (hr pos pins s1 σ H1 _ I1 q1) λus s2 ⟨xs,H2,I2,r2,q2⟩=>⟨x::xs,H2,I2,.cons r1 r2,q2⟩
noncomputable def tTup(t:TA):TE:=λσ H Q=>t σ H λxs H1=>xs.length≤sizeLine/\∀p,H1 p=none->Q (.ref p) (upd H1 p (.tup xs))
noncomputable def tLst(t:TA):TE:=λσ H Q=>t σ H λxs H1=>xs.length≤sizeLine/\∀p,H1 p=none->Q (.ref p) (upd H1 p (.lst xs))
theorem QT{x1}(h:PA X es t):PE X (.Tuple es x1 pos) (tTup t):=by
 intro pins s σ H Q I hq;refine wpAny_Tuple_spliced (thn (h pos pins s σ H _ I hq) λus s1 ⟨xs,H1,I1,r,z,q⟩=>⟨by rw[<- r.length];exact z,?_⟩)
 have hf:H1 s1.heap.objs.size=none:=I1.hok.fresh (Xl _);refine⟨.ref s1.heap.objs.size,upd H1 s1.heap.objs.size (.tup xs),I1.laid (t':=s1.toks) (λb u e=>Xs _ e) (Xl _) ?_,rfl,q _ hf⟩;exact⟨z,us,r,⟨_,XS _ rfl,rfl,_,rfl⟩,_,XS _ rfl,rfl⟩
theorem QU(h:PA X es t):PE X (.List es pos) (tLst t):=by
 intro pins s σ H Q I hq;refine wpAny_List_spliced (thn (h pos pins s σ H _ I hq) λus s1 ⟨xs,H1,I1,r,z,q⟩=>⟨by rw[<- r.length];exact z,?_⟩)
 have hf:H1 s1.heap.objs.size=none:=I1.hok.fresh (Xl _);refine⟨.ref s1.heap.objs.size,upd H1 s1.heap.objs.size (.lst xs),I1.laid (t':=s1.toks) (λb u e=>Xs _ e) (Xl _) ?_,rfl,q _ hf⟩;exact⟨z,us,0,r,XS _ rfl⟩
end
noncomputable abbrev Sp:=List V->Hp->VK->XK->Prop
noncomputable abbrev CXT:=List Env->Hp->X1->XK->X0->X1->Prop
structure Env0 (P:Xn) (w:Xj) (K:X6) (mg:Str->Option X0) (base:Heap) (A:Xz) (outer:List Env) (s:X1) (H:Hp):Prop where
 frames:A.frames=some outer
 mod:Mod K mg base
 bs:∀b o,base.get? b=some o->s.heap.get? b=some o/\H b=none
 bsz:base.objs.size≤s.heap.objs.size
 funs:s.heap.FunFrames base outer
 frf:∀b∈frs outer,H b=none
 hok:HOk P w H s.heap
 bare:AllBare s.gens
noncomputable def CE(outer:List Env)(P:Xn)(w:Xj)(H:Hp)(s:X1)(Q:VK)(u:X0)(s':X1):Prop:=
 ∃v H',s'.os=s.os/\AllBare s'.gens/\Un (frs outer) [] H H' s.heap s'.heap/\HOk P w H' s'.heap/\RelV v u/\Q v H'
noncomputable def CR(CX:CXT)(outer:List Env)(P:Xn)(w:Xj)(H:Hp)(s:X1)(Q:VK)(E:XK)(r:Result)(s':X1):Prop:=
 match r with
 |.ok (.ret u)=>CE outer P w H s Q u s'
 |.ok _=>False
 |.error e=>CX outer H s E e s'
structure FnOk (P:Xn) (w:Xj) (K:X6) (mg:Str->Option X0) (base:Heap) (CX:CXT) (k:Nat) (f:Addr) (fd:Xm) (ps:List Str) (sp:Sp):Prop where
 len:∀vs H Q E,sp vs H Q E->vs.length=ps.length
 run:∀(A:Xz) (outer:List Env) (s:X1) (H:Hp) (args:Args) (us:List X0) (vs:List V) (Q:VK) (E:XK),Room k A->Env0 P w K mg base A outer s H->BindsTo s fd args (ps.zip us)->Vals vs us->sp vs H Q E->
  YW (X8 P w) A (.call (.ref f) args) (CR CX outer P w H s Q E) s
theorem FnOk.mono{P:Xn}{w:Xj}{K:X6}{mg:Str->Option X0}{base:Heap}{CX:CXT}{j k:Nat}{f:Addr}{fd:Xm}{ps:List Str}{sp:Sp}(F:FnOk P w K mg base CX j f fd ps sp)(h:j≤k):
  FnOk P w K mg base CX k f fd ps sp:=⟨F.len,λA outer s H args us vs Q E hr=>F.run A outer s H args us vs Q E (hr.mono h)⟩
theorem FnOk.imp{P:Xn}{w:Xj}{K:X6}{mg:Str->Option X0}{base:Heap}{CX:CXT}{k:Nat}{f:Addr}{fd:Xm}{ps:List Str}{sp sp':Sp}(F:FnOk P w K mg base CX k f fd ps sp)
  (h:∀vs H Q E,sp' vs H Q E->sp vs H Q E):FnOk P w K mg base CX k f fd ps sp':=
 ⟨λvs H Q E q=>F.len vs H Q E (h _ _ _ _ q),λA outer s H args us vs Q E hr he hb hv hs=>F.run A outer s H args us vs Q E hr he hb hv (h _ _ _ _ hs)⟩
section
variable{X:Cx}{pins:List (Addr×Obj)}{σ:St}{H:Hp}{s s':X1}
theorem Inv.env0(I:Inv X pins σ H s):Env0 X.prog X.w X.K X.mg X.base X.A X.stack s H:=
 ⟨I.ok.frames,I.ok.mod,I.bs,Y3 I.ok.bsz I.sz,I.stack,I.stkFree,I.hok,I.bare⟩
theorem Inv.after{Q:VK}{u:X0}(I:Inv X pins σ H s)(h:CE X.stack X.prog X.w H s Q u s'):EP X pins σ Q u s':=by
 obtain⟨v,H',os,bare,un,hok,r,q⟩:=h;obtain⟨hh,g,d,t,os'⟩:=s';obtain rfl:os'=s.os:=os;exact⟨v,H',I.call (h':=hh) (g':=g) (d':=d) (t':=t) (ch:=[]) un hok bare (λb z=>absurd z (by simp)),r,q⟩
end
noncomputable def QV(sp:Sp)(dvs:List V)(E:XK)(t:TA):TE:=λσ H Q=>t σ H λvs H1=>sp (vs++dvs) H1 Q E
noncomputable def Binds(K:X6)(fd:Xm)(ps:List Str)(ds:List X0):Prop:=
 ∀(s:X1) (us:List X0),K.In s.heap->(us++ds).length=ps.length->BindsTo s fd ⟨us,[]⟩ (ps.zip (us++ds))
theorem Binds.all{K:X6}{fd:Xm}{ps:List Str}(h:∀us:List X0,us.length=ps.length->bindArgs fd ⟨us,[]⟩=pure (ps.zip us)):Binds K fd ps []:=λs us _ hl=>by
 rw[Bc]at hl ⊢;exact .of_eq (h us hl)
noncomputable def Dv(CX:CXT)(X:Cx)(E:XK):Prop:=∀(pins:List (Addr×Obj)) (σ:St) (H:Hp) (s:X1) (e:X0) (s':X1),Inv X pins σ H s->CX X.stack H s E e s'->X.xe e s'
section
variable{X:Cx}{CX:CXT}{k:Nat}{f C:Addr}{fd:Xm}{ps:List Str}{sp:Sp}{dvs:List V}{ds:List X0}{E:XK}{x m:Str}{p pos apos:Pos}{e o:Expr}{es:List Expr}{ta:TE}{t:TA}
theorem QW{pins:List (Addr×Obj)}{σ:St}{H:Hp}{s:X1}{Q:VK}{us:List X0}{vs:List V}(F:FnOk X.prog X.w X.K X.mg X.base CX k f fd ps sp)(hr:Room k X.A)(hb:Binds X.K fd ps ds)(hd:Vals dvs ds)(hx:Dv CX X E)
  (I:Inv X pins σ H s) (r:Vals vs us) (h:sp (vs++dvs) H Q E):X4 (X8 X.prog X.w) X.A (call (.ref f) us) (EP X pins σ Q) X.xe s:=by
 have r2:Vals (vs++dvs) (us++ds):=r.append hd;have hl:(us++ds).length=ps.length:=by rw[<- r2.length];exact F.len _ _ _ _ h
 refine wpAny_call (WM (F.run X.A X.stack s H ⟨us,[]⟩ (us++ds) (vs++dvs) Q E hr I.env0 (hb s us I.kIn hl) r2 h) λr s' hq=>?_);cases r with
 |error e=>exact hx pins σ H s e s' I hq
 |ok fl=>
  cases fl with
  |ret u=>exact I.after hq
  |next=>exact YG hq
  |brk=>exact YG hq
  |cont=>exact YG hq
theorem QX(F:FnOk X.prog X.w X.K X.mg X.base CX k f fd ps sp)(hr:Room k X.A)(hg:Gl X x)(hm:X.mg x=some (.ref f))(hk:Xr X.K (.ref f)=true)(hb:Binds X.K fd ps ds)(hd:Vals dvs ds)(hx:Dv CX X E)
  (ha:PA X (e::es) t) (hdb:(x==("__debug__":Str))=false:=by decide) (he:XM (e::es) X.env=(false,eval e X.env)::XM es X.env:=by rfl) (hpl:(Yn pos (XM es X.env)).any (·.1)=false:=by rfl):
  PE X (.Call (.Name x p) (e::es) [] pos) (QV sp dvs E t):=by
 intro pins s σ H Q I h;refine V8 (GC I hg hm ?_ hdb);refine PySem.W.callWith_K (h₀:=X.base) I.ok.mod.kin hk (thn (ha pos pins s σ H _ I h) λus s1 ⟨vs,H1,I1,r,q⟩=>⟨I1.kIn,?_⟩) he hpl;exact QW F hr hb hd hx I1 r q
structure Mk (K:X6) (C f:Addr):Prop where
 makes:PySem.W.makesIn K C=true
 init:W9 K (.ref C) "__init__"=some (some (.ref f))
 fn:PySem.W.isFn K (.ref f)=true
 kp:Xr K (.ref C)=true
end
section
variable{X:Cx}{CX:CXT}{k:Nat}{f C:Addr}{fd:Xm}{ps ks:List Str}{sp:Sp}{E:XK}{x m:Str}{p pos apos kpos:Pos}{e o:Expr}{es:List Expr}{kws:List Ue}{te ta:TE}{t tk:TA}{nm:Option Str}
structure KBinds (K:X6) (fd:Xm) (ps ks:List Str) (g:List X0->List X0->List X0) (gV:List V->List V->List V):Prop where
 to:∀(s:X1) (us ws:List X0),K.In s.heap->(g us ws).length=ps.length->BindsTo s fd ⟨us,ks.zip ws⟩ (ps.zip (g us ws))
 rel:∀{vs:List V} {us:List X0} {zs:List V} {ws:List X0},Vals vs us->Vals zs ws->Vals (gV vs zs) (g us ws)
variable{g:List X0->List X0->List X0}{gV:List V->List V->List V}
end
structure FnScope (N P:List Str) (sc:Scope):Prop where
 kind:sc.kind=.function
 co:sc.isCoroutine=false
 gen:sc.isGenerator=false
 nd:N.Nodup
 pre:N.take P.length=P
 par:∀x∈P,sc.names.lookup x=some .local\/sc.names.lookup x=some .cell
 nofree:∀y∈sc.names,y.2≠.free
theorem mkSc {N P:List Str}{sc:Scope}(a:sc.kind=.function:=by rfl)(b:sc.isCoroutine=false:=by rfl)(c:sc.isGenerator=false:=by rfl)(d:N.Nodup:=by decide+kernel)(e:N.take P.length=P:=by rfl)(f:∀x∈P,sc.names.lookup x=some .local\/sc.names.lookup x=some .cell:=by decide+kernel)(g:∀y∈sc.names,y.2≠.free:=by decide+kernel):FnScope N P sc:=⟨a,b,c,d,e,f,g⟩
theorem GS{kindOf:Str->Option Zc}{x:Str}:∀{binds:List (Str×X0)} {m:Str->Option X0},(∀v,(x,v)∉binds)->bindL kindOf binds m x=m x
 |[],_,_=>rfl
 |(n,v)::r,m,h=>by
  unfold bindL;rw[GS λw hw=>h w (Ya _ hw)];split
  ·have:x≠n:=by rintro rfl;exact h v Yg
   simp[this]
  ·rfl
theorem GT{kindOf:Str->Option Zc}{x:Str}:∀{binds:List (Str×X0)} {m:Str->Option X0},(∀v,(x,v)∉binds)->bindC kindOf binds m x=m x
 |[],_,_=>rfl
 |(n,v)::r,m,h=>by
  unfold bindC;rw[GT λw hw=>h w (Ya _ hw)];split
  ·rfl
  ·have:x≠n:=by rintro rfl;exact h v Yg
   simp[this]
theorem GU{kindOf:Str->Option Zc}{x:Str}{v:X0}:∀{P:List Str} {vs:List X0} {i:Nat} {m:Str->Option X0},P.Nodup->P[i]?=some x->vs[i]?=some v->kindOf x=some .local->
  bindL kindOf (P.zip vs) m x=some v
 |[],_,_,_,_,h,_,_=>by simp at h
 |_::_,[],_,_,_,_,h,_=>by simp at h
 |p::P,w::vs,0,m,nd,h1,h2,hk=>by
  simp at h1 h2;subst h1;subst h2;show bindL kindOf ((p,w)::P.zip vs) m p=_;unfold bindL;rw[GS λv hv=>(YO.mp nd).1 (CZ hv).1,if_pos hk];simp
 |p::P,w::vs,i+1,m,nd,h1,h2,hk=>by
  show bindL kindOf ((p,w)::P.zip vs) m x=_;unfold bindL;exact GU (i:=i) (YO.mp nd).2 (by simpa using h1) (by simpa using h2) hk
theorem GV{kindOf:Str->Option Zc}{x:Str}{v:X0}:∀{P:List Str} {vs:List X0} {i:Nat} {m:Str->Option X0},P.Nodup->P[i]?=some x->vs[i]?=some v->kindOf x≠some .local->
  bindC kindOf (P.zip vs) m x=some v
 |[],_,_,_,_,h,_,_=>by simp at h
 |_::_,[],_,_,_,_,h,_=>by simp at h
 |p::P,w::vs,0,m,nd,h1,h2,hk=>by
  simp at h1 h2;subst h1;subst h2;show bindC kindOf ((p,w)::P.zip vs) m p=_;unfold bindC;rw[GT λv hv=>(YO.mp nd).1 (CZ hv).1,if_neg hk];simp
 |p::P,w::vs,i+1,m,nd,h1,h2,hk=>by
  show bindC kindOf ((p,w)::P.zip vs) m x=_;unfold bindC;exact GV (i:=i) (YO.mp nd).2 (by simpa using h1) (by simpa using h2) hk
noncomputable def UI(N:List Str)(vs:List V):St:=vs.map some++Ze (N.length - vs.length) none
noncomputable def cxOf(CX:CXT)(P:Xn)(w:Xj)(K:X6)(mg:Str->Option X0)(base:Heap)(N:List Str)(qual:Str)(scope:Scope)(f:Addr)(cd:X0)(A:Xz)(outer:List Env)(s:X1)(H:Hp)(E:XK):Cx where
 prog:=P
 w:=w
 K:=K
 mg:=mg
 base:=base
 A:=A.deeper (envOfC qual scope s.heap.objs.size f cd)
 N:=N
 s₀:=s
 H₀:=H
 env:=envOfC qual scope s.heap.objs.size f cd
 outer:=outer
 stack:=envOfC qual scope s.heap.objs.size f cd::outer
 ex:=[]
 calm:=true
 fn:=λ_=>true
 pn:=[]
 xe:=λe s'=>X4 (X8 P w) (A.deeper (envOfC qual scope s.heap.objs.size f cd)) (leaving (envOfC qual scope s.heap.objs.size f cd) e) (λ_ s''=>CX outer H s E e s'') (λe' s''=>CX outer H s E e' s'') s'
theorem GW{sc:Scope}{n:Nat}{x:Str}(h:sc.names.lookup x=some .cell):∃c,(cellsFrom n sc.names []).lookup x=some c:=by
 have q:=G1 sc.names n [] (.inl h);exact Option.isSome_iff_exists.mp q
theorem QY{CX:CXT}{P:Xn}{w:Xj}{K:X6}{mg:Str->Option X0}{base:Heap}{N ps:List Str}{qual:Str}{scope:Scope}{f:Addr}{cd:X0}{A:Xz}{outer:List Env}{s s1:X1}{H:Hp}{E:XK}{us:List X0}{vs:List V}
  (S:FnScope N ps scope) (hd:A.handled=none) (e0:Env0 P w K mg base A outer s H) (hl:vs.length=ps.length) (r:Vals vs us)
  (x:InCallC s s.heap.objs.size (bindL (envOfC qual scope s.heap.objs.size f cd).kindOf (ps.zip us) λ_=>none) (cellsFrom (s.heap.objs.size+1) scope.names []) (bindC (envOfC qual scope s.heap.objs.size f cd).kindOf (ps.zip us) λ_=>none) s1):
  Inv (cxOf CX P w K mg base N qual scope f cd A outer s H E) [] (UI N vs) H s1:=by
 have hpl:ps.length≤N.length:=by have:=congrArg WX S.pre;rw[Yz]at this;lia
 obtain⟨h1,tk,rfl,hk⟩:=x.done;have noA:∀b:Addr,b∉(cxOf CX P w K mg base N qual scope f cd A outer s H E).ex:=λb z=>absurd (show b∈([]:List Addr)from z) (by simp)
 refine⟨⟨e0.mod,S.kind,rfl,rfl,Xl _,λy z c h1 h2=>?_,λy hy=>?_,λy c _ h=>?_,λ_=>hd,Around.frames_deeper e0.frames,.inr ⟨rfl,rfl⟩,λb z=>absurd z (noA b),e0.bs,e0.bsz,λb _ _=>noA b,λb z=>absurd z (noA b),e0.funs,e0.frf⟩,
  rfl,e0.bare,Un.kept hk,⟨_,x.toInCall.ns,λi y v h1 h2 h3=>?_⟩,λy c h=>⟨_,x.cell y c h⟩,e0.hok.fresh (Xl _),λy c h=>?_,λp hp=>absurd (show p∈([]:List (Addr×Obj))from hp) (by simp),e0.hok.kept hk,?_⟩
 ·exact name_of_addr x.apart (Wf h1) (Wf h2)
 ·have hy:scope.names.lookup y=some .cell\/scope.names.lookup y=some .free:=hy;rcases hy with hy|hy
  ·exact GW hy
  ·exact absurd rfl (S.nofree _ (Wf hy))
 ·exact Bm (x.above y c (Wf h))
 ·have hi:i<vs.length:=by
   unfold UI at h2;by_cases hi:i<vs.length
   ·exact hi
   ·rw[Ug (by simpa using hi)]at h2
    rw[FY]at h2;split at h2<;>cases h2
  have ha:vs[i]?=some v:=by
   unfold UI at h2;rw[Uy (by simpa using hi),Xq]at h2
   cases e:vs[i]? with
   |none=>rw[e]at h2;cases h2
   |some a=>rw[e]at h2;cases h2;rfl
  obtain⟨u,hu,rv⟩:=r.get ha;have hp:ps[i]?=some y:=by
   rw[<- S.pre,List.getElem?_take_of_lt (by lia)];exact h1
  have ndP:ps.Nodup:=by rw[<- S.pre];exact S.nd.sublist (List.take_sublist _ _)
  refine⟨u,rv,?_⟩;rcases S.par y (XI hp)with k|k
  ·exact .inl ⟨k,GU ndP hp hu k⟩
  ·obtain⟨c,e⟩:=GW (n:=s.heap.objs.size+1) k;refine .inr ⟨.inl k,c,e,?_⟩;have q:=x.cell y c e;rw[GV ndP hp hu (by show scope.names.lookup y≠_;rw[k];decide)]at q
   exact q
 ·exact e0.hok.fresh (Bm (x.above y c (Wf h)))
 ·unfold UI;show _=N.length;rw[YY,X7,Zd];lia
theorem QZ{CX:CXT}{P:Xn}{w:Xj}{K:X6}{mg:Str->Option X0}{base:Heap}{k:Nat}{f:Addr}{name qual:Str}{params:Arguments}{body:List Stmt}{scope:Scope}{dV kV doc pm cdv ct oc:X0}{an od:Option Addr}
  {osl:Array (Option X0)} {N ps:List Str} {sp:Sp} (lk:K.lookup f=some ⟨oc,od,.func (X9 name qual params body scope dV kV doc pm an cdv ct),osl⟩) (hcd:Xu K cdv qual=true) (S:FnScope N ps scope)
  (len:∀vs H Q E,sp vs H Q E->vs.length=ps.length)
  (hbody:∀(A:Xz) (outer:List Env) (s:X1) (H:Hp) (vs:List V) (Q:VK) (E:XK),Room k (A.deeper (envOfC qual scope s.heap.objs.size f cdv))->sp vs H Q E->
   ∃t,PSs (cxOf CX P w K mg base N qual scope f cdv A outer s H E) body t/\t {nx:=λ_ H'=>Q .non H',rt:=Q} (UI N vs) H):
  FnOk P w K mg base CX (k+1) f (X9 name qual params body scope dV kV doc pm an cdv ct) ps sp:=by
 refine⟨len,λA outer s H args us vs Q E hr e0 hb r hsp=>?_⟩;have hl:=len _ _ _ _ hsp;have KX:K.In s.heap:=e0.mod.kin.keeps λb o e=>(e0.bs b o e).1;have lim:s.heap.NoLimit:=e0.mod.nolimit.keeps λb o e=>(e0.bs b o e).1;have hkind:∀y∈ps.zip us,scope.names.lookup y.1=some .local\/(scope.names.lookup y.1=some .cell/\((cellsFrom (s.heap.objs.size+1) scope.names []).lookup y.1).isSome=true):=fun⟨n,v⟩ hy=>by
  rcases S.par n (CZ hy).1 with q|q
  ·exact .inl q
  ·exact .inr ⟨q,G1 _ _ _ (.inl q)⟩
 refine codeAny_call_function hr.depth (KX _ _ lk) rfl S.co S.gen rfl (PySem.W.codeRec_of KX hcd) (hb _ _ _ _ ?_);refine wpAny_newFunctionEnv_cells S.kind hkind λenv he s1 x=>?_;subst he;refine⟨lim.keeps x.toInCall.keep,codeAny_func ?_⟩;obtain⟨t,ht,hq⟩:=hbody A outer s H vs Q E (hr.deeper _) hsp;have I:Inv (cxOf CX P w K mg base N qual scope f cdv A outer s H E) [] (UI N vs) H s1:=QY S hr.hd e0 hl r x;refine Ut (ht [] s1 (UI N vs) H _ I hq) (λfl s' hs=>?_) λe s' hs=>hs;have fin:∀{σ':St} {H':Hp} {v:V} {u:X0},Inv (cxOf CX P w K mg base N qual scope f cdv A outer s H E) [] σ' H' s'->RelV v u->Q v H'->CE outer P w H s Q u s':=
  fun{σ' H' v u} J rv q=>⟨v,H',J.os,J.bare,J.base,J.hok,rv,q⟩
 cases fl with
 |ret u=>
  obtain⟨v,σ',H',J,rv,q⟩:=hs;exact fin J rv q
 |next=>
  obtain⟨σ',H',J,q⟩:=hs;exact fin (v:=V.non) (u:=XB) J rfl q
 |brk=>
  obtain⟨_,_,_,q⟩:=hs;exact YG q
 |cont=>
  obtain⟨_,_,_,q⟩:=hs;exact YG q
section
variable{X:Cx}{x:Str}{p pos:Pos}{e:Expr}{es:List Expr}{t:TA}{id T:String}{r:List V->Hp->VK->Prop}
noncomputable def tCB(r:List V->Hp->VK->Prop)(t:TA):TE:=λσ H Q=>t σ H λvs H1=>r vs H1 Q
theorem R0(hc:CallR X (.builtin id) r)(hg:Gl X x)(hm:X.mg x=none)(hv:YE x=some (.builtin id))(ha:PA X (e::es) t)(hn:x≠"__name__":=by decide)(hdb:(x==("__debug__":Str))=false:=by decide)
  (he:XM (e::es) X.env=(false,eval e X.env)::XM es X.env:=by rfl) (hpl:(Yn pos (XM es X.env)).any (·.1)=false:=by rfl):PE X (.Call (.Name x p) (e::es) [] pos) (tCB r t):=by
 intro pins s σ H Q I h;refine V8 (Um I hg hm hv ?_ hn hdb);exact G3 (thn (ha pos pins s σ H _ I h) λus s1 ⟨vs,H1,I1,r1,q1⟩=>hc pins s1 σ H1 vs us Q I1 r1 q1) he hpl
theorem R1(hc:CallR X (.type T) r)(hg:Gl X x)(hm:X.mg x=none)(hv:YE x=some (.type T))(ha:PA X (e::es) t)(hn:x≠"__name__":=by decide)(hdb:(x==("__debug__":Str))=false:=by decide)
  (he:XM (e::es) X.env=(false,eval e X.env)::XM es X.env:=by rfl) (hpl:(Yn pos (XM es X.env)).any (·.1)=false:=by rfl):PE X (.Call (.Name x p) (e::es) [] pos) (tCB r t):=by
 intro pins s σ H Q I h;refine V8 (Um I hg hm hv ?_ hn hdb);exact VA (thn (ha pos pins s σ H _ I h) λus s1 ⟨vs,H1,I1,r1,q1⟩=>hc pins s1 σ H1 vs us Q I1 r1 q1) he hpl
end
end L2
namespace HT
open PySem PyProof.Rows
section
open PySem.SeqAt
open PySem.AutoSeq1 (wpAny_loadPart')
open PySem.MeetsSeq PySem.MeetsSeq2 PySem.MeetsSeq3
end
section
variable{prog:Xn}{w:Xj}{A:Xz}{E:X0->X1->Prop}{s:X1}
noncomputable def sIx(n d:Nat):Option Int->Nat
 |none=>d
 |some v=>if v<0 then(v+(n:Int)).toNat else min v.toNat n
theorem sIx_none(n d:Nat):sIx n d none=d:=rfl
theorem sIx_nat(n d k:Nat):sIx n d (some (k:Int))=min k n:=by
 show(if(k:Int)<0 then((k:Int)+(n:Int)).toNat else min (k:Int).toNat n)=min k n;rw[if_neg (by lia),Wd]
theorem R4(n d:Nat)(hd:d≤n)(o:Option Int):sIx n d o≤n:=by
 cases o with
 |none=>exact hd
 |some v=>
  show(if v<0 then(v+(n:Int)).toNat else min v.toNat n)≤n;by_cases hv:v<0
  ·rw[if_pos hv];lia
  ·rw[if_neg hv];exact Nat.min_le_right _ _
theorem GX(v:Int)(n d:Nat):(if v<0 then max (v+(n:Int)) 0 else min v (n:Int))=((sIx n d (some v):Nat):Int):=by
 show(if v<0 then max (v+(n:Int)) 0 else min v (n:Int))=(((if v<0 then(v+(n:Int)).toNat else min v.toNat n):Nat):Int);by_cases hv:v<0
 ·simp only[if_pos hv];lia
 ·simp only[if_neg hv];lia
theorem R5(lo hi:Option Int)(n:Nat):Dh lo hi 1 (n:Int)=(((sIx n 0 lo:Nat):Int),((sIx n n hi:Nat):Int)):=by
 have h1:¬((1:Int)<0):=by lia
 unfold Dh;simp only[h1,if_false];refine Prod.ext ?_ ?_
 ·cases lo with
  |none=>rfl
  |some v=>exact GX v n 0
 ·cases hi with
  |none=>rfl
  |some v=>exact GX v n n
theorem R6(i j:Nat):Bu (i:Int) (j:Int) 1=j - i:=by
 unfold Bu;have h1:(1:Int)>0:=by lia
 simp only[h1,if_true,Int.ediv_one];split<;>lia
theorem GY{v:X0}{o:Option Int}{Q:Option Int->X1->Prop}(p:IsPart v o)(h:Q o s):X4 (X8 prog w) A (Builtin.Slice.slicePartIndex v) Q E s:=by
 cases p with
 |none=>exact slicePart_none h
 |int i t=>exact slicePart_int h
theorem R7{sl:Addr}{vl vu:X0}{lo hi:Option Int}{n:Nat}{Q:Int×Int×Nat->X1->Prop}(hs:s.heap.IsSliceOf sl vl vu .none)(pl:IsPart vl lo)(pu:IsPart vu hi)
  (h:Q (((sIx n 0 lo:Nat):Int),1,sIx n n hi - sIx n 0 lo) s):X4 (X8 prog w) A (Ge (.ref sl) (pure (n:Int))) Q E s:=by
 obtain⟨os,hos,hcs,hds⟩:=id hs;unfold Ge Builtin.Slice.sliceFields;refine X3 (X3 (wpAny_field hos hds (x:=vl) rfl (X3 (wpAny_field hos hds (x:=vu) rfl (X3 (wpAny_field hos hds (x:=.none) rfl (Xa ?_)))))));refine X3 (slicePart_none ?_);show X4 _ _ (if((1:Int)==0)=true then _ else _) _ _ s;rw[if_neg (by decide)]
 refine X3 (GY pl (X3 (GY pu (X3 (Xa ?_)))));show X4 _ _ (match Dh lo hi 1 (n:Int)with|(lo,hi)=>pure (lo,(1:Int),Bu lo hi 1)) _ _ s
 rw[R5 lo hi n];show X4 _ _ (pure (((sIx n 0 lo:Nat):Int),(1:Int),Bu ((sIx n 0 lo:Nat):Int) ((sIx n n hi:Nat):Int) 1)) _ _ s;rw[R6];exact Xa h
theorem R8(xs:Array X0)(i k:Nat):((XX k).filterMap fun(m:Nat)=>xs[((i:Int)+(m:Int)*1).toNat]?).toArray=((xs.toList.drop i).take k).toArray:=by
 have e:(fun(m:Nat)=>xs[((i:Int)+(m:Int)*1).toNat]?)=λm=>xs[i+m]?:=by
  funext m
  have:((i:Int)+(m:Int)*1).toNat=i+m:=by lia
  rw[this]
 rw[e];have:=pick_run xs i k;rw[List.filterMap_map]at this;have e2:((λx=>xs[x]?)∘ λx=>i+x)=λm=>xs[i+m]?:=rfl;rw[e2]at this;rw[this]
theorem getItem_tuple_cut{t sl:Addr}{items:Array X0}{vl vu:X0}{lo hi:Option Int}{Q:X0->X1->Prop}(ht:IsTup s.heap t items)(hs:s.heap.IsSliceOf sl vl vu .none)(pl:IsPart vl lo)(pu:IsPart vu hi)
  (hw:¬(sIx items.size 0 lo=0/\sIx items.size items.size hi=items.size))
  (h:Q (.ref s.heap.objs.size) {s with heap:=s.heap.push {cls:=.type "tuple",data:=.seq ((items.toList.drop (sIx items.size 0 lo)).take (sIx items.size items.size hi - sIx items.size 0 lo)).toArray} })
  (hsz:items.size≤sizeLine):X4 (X8 prog w) A (getItem (.ref t) (.ref sl)) Q E s:=by
 have htake:sizeOk (.seq ((items.toList.drop (sIx items.size 0 lo)).take (sIx items.size items.size hi - sIx items.size 0 lo)).toArray):=by
  show((items.toList.drop (sIx items.size 0 lo)).take (sIx items.size items.size hi - sIx items.size 0 lo)).toArray.size≤sizeLine;rw[XT,Yz,WW,XU];lia
 have hj:sIx items.size items.size hi≤items.size:=R4 _ _ (Xl _) hi;obtain⟨os,hos,hcs,hds⟩:=id hs;have hTs:s.TypeIs (.ref sl) "slice":=⟨os,hos,hcs⟩;unfold getItem
 try with_reducible refine YF ?_
 first|refine X3 (Xa ?_)|skip
 refine X3 (wpAny_sequenceKey ht.typeIs (by decide) ?_)
 refine X3 (wpAny_callSpecial?_slot (name:=Ys "__getitem__") ht.typeIs Dd
  (Uf Dd ht.typeIs entry_tuple_getitem ?_ (args_tuple_getitem _ _)))
 show X4 _ _ (Builtin.Tuple.tupleItemsOf (.ref t)>>= _) _ _ s;refine X3 (tupleItemsOf_ ht ?_);refine X3 (V9 hTs ?_);rw[if_pos (by decide)]
 refine X3 (R7 hs pl pu ?_);have hno:¬((((sIx items.size 0 lo:Nat):Int)==0&&(1:Int)==1&&(sIx items.size items.size hi - sIx items.size 0 lo)==items.size)=true):=by
  intro q;rw[Yp,Yp]at q;have q1:((sIx items.size 0 lo:Nat):Int)=0:=eq_of_beq q.1.1;have q2:sIx items.size items.size hi - sIx items.size 0 lo=items.size:=eq_of_beq q.2;exact hw ⟨by lia,by lia⟩
 show X4 _ _ (if(((sIx items.size 0 lo:Nat):Int)==0&&(1:Int)==1&&(sIx items.size items.size hi - sIx items.size 0 lo)==items.size)=true then _ else _) _ _ s;rw[if_neg hno,R8]
 first
  |exact X3 (m:=Bq _) (Ux (Xa ⟨_,rfl,Xa h⟩) htake)
  |exact X3 (m:=Bq _) (Ux (X3 (Xa (Xa ⟨_,rfl,Xa h⟩))) htake)
  |exact X3 (X3 (m:=Bq _) (Ux (Xa (Xa ⟨_,rfl,Xa h⟩)) htake))
  |exact X3 (X3 (m:=Bq _) (Ux (Xa ⟨_,rfl,Xa h⟩) htake))
end
end HT
namespace L2
open PySem PySem.Spec PyProof.Rows
noncomputable abbrev TO:=St->Hp->(Option Int->Hp->Prop)->Prop
noncomputable def PO(X:Cx)(e:Option Expr)(t:TO):Prop:=
 ∀(pins:List (Addr×Obj)) (s:X1) (σ:St) (H:Hp) (Q:Option Int->Hp->Prop),Inv X pins σ H s->t σ H Q->
  X4 (X8 X.prog X.w) X.A (evalPart e X.env) (λu s'=>∃o H',Inv X pins σ H' s'/\IsPart u o/\Q o H') X.xe s
noncomputable def R9:TO:=λ_ H Q=>Q none H
noncomputable def Ra(t:TE):TO:=λσ H Q=>t σ H λx H1=>∃i,x=.int i/\Q (some i) H1
theorem Dw{ns:List Int}:∀{us:List X0},Vals (ns.map V.int) us->IntsAre us ns:=by
 induction ns with
 |nil=>intro us r;rw[Y2]at r;cases r;exact .nil
 |cons n ns ih=>
  intro us r;rw[XC]at r;cases r with
  |cons r1 r2=>
   obtain⟨t,e⟩:=r1;subst e;exact .cons n t (ih r2)
section
variable{X:Cx}{e:Expr}{te:TE}{lo hi:Option Expr}{tl th:TO}{pos p2:Pos}
theorem Rb:PO X none R9:=by
 intro pins s σ H Q I h;rw[evalPart_none];exact Xa ⟨none,H,I,.none,h⟩
theorem Rc(h:PE X e te):PO X (some e) (Ra te):=by
 intro pins s σ H Q I hw;rw[evalPart_some];refine thn (h pins s σ H _ I hw) λu s1 ⟨x,H1,I1,r1,q1⟩=>?_;obtain⟨i,rfl,q⟩:=q1;obtain⟨t,rfl⟩:=r1;exact⟨some i,H1,I1,.int i t,q⟩
noncomputable def SlR(X:Cx)(r:V->Option Int->Option Int->Hp->VK->Prop):Prop:=
 ∀(pins:List (Addr×Obj)) (s:X1) (σ:St) (H:Hp) (x:V) (v vl vu:X0) (lo hi:Option Int) (sl:Addr) (Q:VK),Inv X pins σ H s->RelV x v->s.heap.IsSliceOf sl vl vu .none->IsPart vl lo->IsPart vu hi->r x lo hi H Q->
  ∃T id,VW (.type T) "__getitem__"=pure (some (.builtin id))/\s.TypeIs v T/\X4 (X8 X.prog X.w) X.A (getItem v (.ref sl)) (EP X pins σ Q) X.xe s
theorem SlR.or{r r':V->Option Int->Option Int->Hp->VK->Prop}(h:SlR X r)(h':SlR X r'):SlR X (λx lo hi H Q=>r x lo hi H Q\/r' x lo hi H Q):=by
 intro pins s σ H x v vl vu lo hi sl Q I rx hs pl pu q;rcases q with q|q
 ·exact h pins s σ H x v vl vu lo hi sl Q I rx hs pl pu q
 ·exact h' pins s σ H x v vl vu lo hi sl Q I rx hs pl pu q
noncomputable def tSl(r:V->Option Int->Option Int->Hp->VK->Prop)(te:TE)(tl th:TO):TE:=λσ H Q=>te σ H λx H1=>tl σ H1 λl H2=>th σ H2 λu H3=>r x l u H3 Q
theorem Re{r:V->Option Int->Option Int->Hp->VK->Prop}(hr:SlR X r)(he:PE X e te)(hl:PO X lo tl)(hu:PO X hi th):PE X (.Subscript e (.Slice lo hi none p2) pos) (tSl r te tl th):=by
 intro pins s σ H Q I h;refine Subscript_ (thn (he pins s σ H _ I h) λv s1 ⟨x,H1,I1,r1,q1⟩=>?_);refine wpAny_Slice (thn (hl pins s1 σ H1 _ I1 q1) λvl s2 ⟨l,H2,I2,pl,q2⟩=>thn (hu pins s2 σ H2 _ I2 q2) λvu s3 ⟨u,H3,I3,pu,q3⟩=>?_);rw[evalPart_none];refine Xa ?_;have I4:Inv X pins σ H3 {s3 with heap:=s3.heap.push {cls:=.type "slice",data:=.fields #[vl,vu,.none]} }:=I3.kept (t':=s3.toks) fun b ob q=>Xs _ q;obtain⟨T,id,hT,ht,hg⟩:=hr pins {s3 with heap:=s3.heap.push {cls:=.type "slice",data:=.fields #[vl,vu,.none]} } σ H3 x v vl vu l u s3.heap.objs.size Q I4 r1 (Heap.IsSliceOf.new ..) pl pu q3;show X4 (X8 X.prog X.w) X.A (subscriptTail e (.Slice lo hi none p2) v (.ref s3.heap.objs.size)) (EP X pins σ Q) X.xe {s3 with heap:=s3.heap.push {cls:=.type "slice",data:=.fields #[vl,vu,.none]} };exact tail_any (ops:=[.ref s3.heap.objs.size,v]) ht hT hg (by with_unfolding_all rfl)
noncomputable def cutV(xs:List V)(lo hi:Option Int):List V:=(xs.drop (HT.sIx xs.length 0 lo)).take (HT.sIx xs.length xs.length hi - HT.sIx xs.length 0 lo)
theorem GZ(xs:List V)(lo hi:Option Int):(cutV xs lo hi).length≤xs.length:=by
 unfold cutV;rw[Yz,WW];lia
noncomputable def rSlT(K:X6):V->Option Int->Option Int->Hp->VK->Prop:=λx lo hi H Q=>∃a xs,x=.ref a/\SqT K H a xs/\
 ¬(HT.sIx xs.length 0 lo=0/\HT.sIx xs.length xs.length hi=xs.length)/\∀p,H p=none->Q (.ref p) (upd H p (.tup (cutV xs lo hi)))
theorem Rf:SlR X (rSlT X.K):=by
 intro pins s σ H x v vl vu lo hi sl Q I rx hs pl pu h;obtain⟨a,xs,rfl,hx,hw,q⟩:=h;cases rx;obtain⟨its,r,ht,hz⟩:=I.tuple hx;have hlen:its.toArray.size=xs.length:=by rw[XT];exact r.length.symm
 refine⟨"tuple",_,Dd.lookup,ht.typeIs,?_⟩;refine HT.getItem_tuple_cut ht hs pl pu (by rw[hlen];exact hw) ?_ (by rw[hlen];exact hz)
 rw[hlen];refine⟨.ref s.heap.objs.size,_,I.laid (t':=s.toks) (o:=.tup (cutV xs lo hi)) (λb ob q=>Xs _ q) (Xl _) ?_,rfl,q _ (I.hok.fresh (Xl _))⟩;exact⟨Y3 (GZ xs lo hi) hz,_,(r.drop (HT.sIx xs.length 0 lo)).take (HT.sIx xs.length xs.length hi - HT.sIx xs.length 0 lo),IsTup.new _ _,_,XS _ rfl,rfl⟩
end
noncomputable def ixN(n:Nat)(i:Int):Option Nat:=if 0≤i then(if i<n then some i.toNat else none)else if -(n:Int)≤i then some (i+n).toNat else none
noncomputable def atI{α:Type}(xs:List α)(i:Int):Option α:=(ixN xs.length i).bind λj=>xs[j]?
theorem Ha{n:Nat}{i:Int}{j:Nat}(h:ixN n i=some j):seqIndex? i n=some j/\j<n/\ -(n:Int)≤i/\i<n:=by
 unfold ixN at h;by_cases h0:0≤i
 ·rw[if_pos h0]at h;by_cases h1:i<n
  ·rw[if_pos h1]at h;have e:i.toNat=j:=Yq h;exact⟨by rw[seqIndex_of h0 h1,e],by lia,by lia,h1⟩
  ·rw[if_neg h1]at h;cases h
 ·rw[if_neg h0]at h;by_cases h1:-(n:Int)≤i
  ·rw[if_pos h1]at h;have e:(i+n).toNat=j:=Yq h;exact⟨by rw[seqIndex_neg (by lia) h1,e],by lia,h1,by lia⟩
  ·rw[if_neg h1]at h;cases h
theorem Dx{α:Type}{xs:List α}{i:Int}{v:α}(h:atI xs i=some v):∃j,seqIndex? i xs.length=some j/\xs[j]?=some v/\j<xs.length/\ -(xs.length:Int)≤i/\i<xs.length:=by
 unfold atI at h;cases e:ixN xs.length i with
 |none=>rw[e]at h;cases h
 |some j=>
  rw[e]at h;obtain⟨h1,h2,h3,h4⟩:=Ha e;exact⟨j,h1,h,h2,h3,h4⟩
theorem Z9{α:Type}{xs:List α}{j:Nat}{v:α}(h:xs[j]?=some v):atI xs (j:Int)=some v:=by
 have hj:j<xs.length:=(XE.mp h).1;have e:ixN xs.length (j:Int)=some j:=by
  unfold ixN;rw[if_pos (by lia),if_pos (by lia)];simp
 unfold atI;rw[e];exact h
noncomputable def Hb(b:Expr):Prop:=∀o i,subscripted b false o i=operate [o,i] (getItem o i)
noncomputable def IxR(X:Cx)(r:R2):Prop:=
 ∀(value slice:Expr) (pins:List (Addr×Obj)) (s:X1) (σ:St) (H:Hp) (x y:V) (v u:X0) (Q:VK),Inv X pins σ H s->RelV x v->RelV y u->r x y H Q->
  subscripted slice false v u=operate [v,u] (getItem v u)->X4 (X8 X.prog X.w) X.A (subscriptTail value slice v u) (EP X pins σ Q) X.xe s
noncomputable def MtR(X:Cx)(id:String)(r:V->List V->Hp->VK->Prop):Prop:=
 ∀(pins:List (Addr×Obj)) (s:X1) (σ:St) (H:Hp) (x:V) (xs:List V) (v:X0) (us:List X0) (Q:VK),Inv X pins σ H s->RelV x v->Vals xs us->r x xs H Q->
  X4 (X8 X.prog X.w) X.A (call (.builtin id) (v::us)) (EP X pins σ Q) X.xe s
section
variable{X:Cx}{a b:Expr}{ta tb:TE}{pos:Pos}
theorem IxR.or{r r':R2}(h:IxR X r)(h':IxR X r'):IxR X (λx y H Q=>r x y H Q\/r' x y H Q):=by
 intro value slice pins s σ H x y v u Q I rx ry q hs;rcases q with q|q
 ·exact h value slice pins s σ H x y v u Q I rx ry q hs
 ·exact h' value slice pins s σ H x y v u Q I rx ry q hs
theorem MtR.or{id:String}{r r':V->List V->Hp->VK->Prop}(h:MtR X id r)(h':MtR X id r'):MtR X id (λx xs H Q=>r x xs H Q\/r' x xs H Q):=by
 intro pins s σ H x xs v us Q I rx rs q;rcases q with q|q
 ·exact h pins s σ H x xs v us Q I rx rs q
 ·exact h' pins s σ H x xs v us Q I rx rs q
theorem Rg{r:R2}(hr:IxR X r)(ha:PE X a ta)(hb:PE X b tb)(hs:Hb b):PE X (.Subscript a b pos) (tOp r ta tb):=by
 intro pins s σ H Q I h;exact Subscript_ (binT ha hb I h λv u s2 x y H2 I2 rx ry q=>hr a b pins s2 σ H2 x y v u Q I2 rx ry q (hs _ _))
noncomputable def rIxL(K:X6):R2:=λx y H Q=>∃p xs i v,x=.ref p/\y=.int i/\SqL K H p xs/\atI xs i=some v/\Q v H
noncomputable def rIxT(K:X6):R2:=λx y H Q=>∃p xs i v,x=.ref p/\y=.int i/\SqT K H p xs/\atI xs i=some v/\Q v H
noncomputable def rIxS:R2:=λx y H Q=>∃z i c,x=.str z/\y=.int i/\z.length≤sizeLine/\atI z.cps.toList i=some c/\Q (.str ⟨#[c]⟩) H
theorem Hc:IxR X (rIxL X.K):=by
 intro value slice pins s σ H x y v u Q I rx ry h hs;obtain⟨p,xs,i,z,rfl,rfl,hq,he,q⟩:=h;cases rx;obtain⟨t,rfl⟩:=ry;obtain⟨its,r,pl,hz⟩:=I.list hq;obtain⟨j,h1,h2,h3,h4,h5⟩:=Dx he;obtain⟨w,ew,rw'⟩:=r.get h2;have hl:=r.length;have hn:=Wj;have fin:EP X pins σ Q w s:=⟨z,H,I,rw',q⟩;by_cases h0:0≤i
 ·have hj:i.toNat=j:=by
   rw[seqIndex_of h0 h5]at h1;exact Yq h1
  exact item_listR pl.isList h0 (by lia) (by rw[hj];simpa using ew) fin hs
 ·have hj:(i+(its.toArray.size:Int)).toNat=j:=by
   rw[seqIndex_neg (by lia) h4]at h1
   rw[XT,<- hl];exact Yq h1
  exact subscriptTail_builtinR (x:=w) pl.isList.typeIs slot_list_getitem.lookup
   (wpAny_getItem_list_neg (Q:=λr s'=>r=w/\EP X pins σ Q r s') pl.isList (by lia) (by rw[XT]<;>lia) (by lia) (by rw[hj];simpa using ew) ⟨rfl,fin⟩) hs
theorem Rh:IxR X (rIxT X.K):=by
 intro value slice pins s σ H x y v u Q I rx ry h hs;obtain⟨p,xs,i,z,rfl,rfl,hq,he,q⟩:=h;cases rx;obtain⟨t,rfl⟩:=ry;obtain⟨its,r,pl,hz⟩:=I.tuple hq;obtain⟨j,h1,h2,h3,h4,h5⟩:=Dx he;obtain⟨w,ew,rw'⟩:=r.get h2;have hl:=r.length;have hn:=Wj;have fin:EP X pins σ Q w s:=⟨z,H,I,rw',q⟩;exact subscriptTail_builtinR (x:=w) pl.typeIs slot_tuple_getitem.lookup
  (getItem_tuple (j:=j) (Q:=λr s'=>r=w/\EP X pins σ Q r s') pl (by lia) (by lia) (by rw[XT,<- hl];exact h1) (by simpa using ew) ⟨rfl,fin⟩) hs
theorem Ri:IxR X rIxS:=by
 intro value slice pins s σ H x y v u Q I rx ry h hs;obtain⟨z,i,c,rfl,rfl,hz,he,q⟩:=h;obtain⟨t,rfl⟩:=rx;obtain⟨t',rfl⟩:=ry;obtain⟨j,h1,h2,h3,h4,h5⟩:=Dx he;have hl:z.cps.toList.length=z.length:=by simp[Bo]
 rw[hl]at h1 h4 h5;have hn:=Wj;exact tail_any (typeIs_str s z t) slot_str_getitem.lookup (getItem_str (c:=c) (by
  have e1:decide (i< -(2^63:Int))=false:=decide_eq_false (by lia)
  have e2:decide (i ≥ 2^63)=false:=decide_eq_false (by lia)
  rw[e1,e2,Bool.or_false]) (by rw[h1];simpa using h2) ⟨.str ⟨#[c]⟩,H,I.tok _,⟨_,rfl⟩,q⟩) hs
theorem Rj(its:List X0)(n j:Nat)(u:X0):V0 (·.setIfInBounds j u) {cls:=.type "list",data:=.seq its.toArray n}={cls:=.type "list",data:=.seq (its.set j u).toArray n}:=by
 simp[V0]
theorem Inv.lst{pins:List (Addr×Obj)}{σ:St}{H:Hp}{s:X1}{p:Addr}{xs:List V}(I:Inv X pins σ H s)(h:H p=some (.lst xs)):
  ∃(its:List X0) (n:Nat),Vals xs its/\s.heap.get? p=some {cls:=.type "list",data:=.seq its.toArray n}/\xs.length≤sizeLine:=by
 obtain⟨z,its,n,r,e⟩:=I.hok p _ h;exact⟨its,n,r,e,z⟩
theorem Inv.lstUpd{pins:List (Addr×Obj)}{σ:St}{H:Hp}{s:X1}{p:Addr}{xs ys:List V}{its its':List X0}{n n':Nat}{f:Obj->Obj}(I:Inv X pins σ H s)(h:H p=some (.lst xs))
  (ho:s.heap.get? p=some {cls:=.type "list",data:=.seq its.toArray n}) (hf:f {cls:=.type "list",data:=.seq its.toArray n}={cls:=.type "list",data:=.seq its'.toArray n'}) (r:Vals ys its') (hz:ys.length≤sizeLine) (t:Nat):
  Inv X pins σ (upd H p (.lst ys)) {s with heap:=s.heap.update p f,toks:=t}:=by
 have e:(s.heap.update p f).get? p=some {cls:=.type "list",data:=.seq its'.toArray n'}:=by
  rw[UW f ho (by rw[hf]<;>rfl),hf]
 refine I.write (x:=p) (e:=p) (by rw[h];trivial) (.inl rfl) (λb u hb q=>(Uj _ _ (YI hb)).trans q) ⟨_,e⟩ ?_
 exact⟨hz,its',n',r,e⟩
noncomputable def Rk:V->V->V->Hp->(Hp->Prop)->Prop:=λo i v H Q=>∃p xs k j,o=.ref p/\i=.int k/\H p=some (.lst xs)/\ixN xs.length k=some j/\Q (upd H p (.lst (xs.set j v)))
theorem Rm:PSet X Rk:=by
 intro pins s σ H o i v ov iv u Q I ro ri rv h;obtain⟨p,xs,k,j,rfl,rfl,hp,hj,q⟩:=h;cases ro;obtain⟨t,rfl⟩:=ri;obtain⟨its,n,r,ho,hz⟩:=I.lst hp;obtain⟨h1,h2,h3,h4⟩:=Ha hj;have hl:=r.length;have hn:=Wj;have I':Inv X pins σ (upd H p (.lst (xs.set j v))) {s with heap:=s.heap.update p (V0 (·.setIfInBounds j u))}:=
  I.lstUpd hp ho (Rj its n j u) (r.set rv j) (by rw[Vq];exact hz) s.toks
 by_cases h0:0≤k
 ·have hk:k.toNat=j:=by
   rw[seqIndex_of h0 h4]at h1;exact Yq h1
  exact PySem.W.ki_setAt ho h0 (by lia) (by rw[XT,<- hl];exact h4) (by rw[hk];exact⟨_,I',q⟩)
 ·have hk:(k+(its.toArray.size:Int)).toNat=j:=by
   rw[seqIndex_neg (by lia) h3]at h1
   rw[XT,<- hl];exact Yq h1
  exact PySem.W.ki_setBack ho (by lia) (by rw[XT,<- hl];exact h3) (by lia) (by rw[hk];exact⟨_,I',q⟩)
theorem Dy(lo hi:Option Int)(n:Nat):(Z5 lo hi none n).1=((HT.sIx n 0 lo:Nat):Int)/\(Z5 lo hi none n).2.1=((HT.sIx n n hi:Nat):Int)/\(Z5 lo hi none n).2.2=1:=by
 refine⟨?_,?_,rfl⟩
 ·cases lo with
  |none=>simp[Z5,HT.sIx]
  |some i=>
   simp only[Z5,HT.sIx,Option.getD_none,show(1:Int)>0 by decide,if_true]
   by_cases h:i<0
   ·simp only[h,if_true]<;>lia
   ·simp only[h,if_false]<;>lia
 ·cases hi with
  |none=>simp[Z5,HT.sIx]
  |some i=>
   simp only[Z5,HT.sIx,Option.getD_none,show(1:Int)>0 by decide,if_true]
   by_cases h:i<0
   ·simp only[h,if_true]<;>lia
   ·simp only[h,if_false]<;>lia
theorem Rn(its:List X0)(lo hi:Option Int):slicePick its.toArray lo hi none=((its.drop (HT.sIx its.length 0 lo)).take (HT.sIx its.length its.length hi - HT.sIx its.length 0 lo)).toArray:=by
 obtain⟨h1,h2,h3⟩:=Dy lo hi its.toArray.size;unfold slicePick;rw[h1,h2,h3];simp only[sliceRange_one,pick_run,XT]<;>rfl
noncomputable def rSlL(K:X6):V->Option Int->Option Int->Hp->VK->Prop:=λx lo hi H Q=>∃a xs,x=.ref a/\SqL K H a xs/\∀p,H p=none->Q (.ref p) (upd H p (.lst (cutV xs lo hi)))
theorem Hd:SlR X (rSlL X.K):=by
 intro pins s σ H x v vl vu lo hi sl Q I rx hs pl pu h;obtain⟨a,xs,rfl,hx,q⟩:=h;cases rx;obtain⟨its,r,ht,hz⟩:=I.list hx;have hlen:=r.length;refine⟨"list",_,slot_list_getitem.lookup,ht.isList.typeIs,?_⟩;refine wpAny_getItem_list_slice ht.isList hs pl pu .none (by simp) ?_ (by rw[XT]<;>lia)
 rw[Rn,<- hlen];refine⟨.ref s.heap.objs.size,_,I.laid (t':=s.toks) (o:=.lst (cutV xs lo hi)) (λb ob q=>Xs _ q) (Xl _) ?_,rfl,q _ (I.hok.fresh (Xl _))⟩;exact⟨Y3 (GZ xs lo hi) hz,_,0,(r.drop (HT.sIx xs.length 0 lo)).take (HT.sIx xs.length xs.length hi - HT.sIx xs.length 0 lo),XS _ rfl⟩
noncomputable def UJ:V->Bool
 |.non=>true
 |.bl _=>true
 |.int _=>true
 |.str _=>true
 |_=>false
noncomputable def eqV:V->V->Bool
 |.non,.non=>true
 |.bl a,.bl b=>a==b
 |.bl a,.int b=>(if a then 1 else 0)==b
 |.int a,.bl b=>a==(if b then 1 else 0)
 |.int a,.int b=>a==b
 |.str a,.str b=>a==b
 |_,_=>false
theorem He{A:Xz}{s:X1}{y x:V}{u v:X0}(ry:RelV y u)(rx:RelV x v)(fy:UJ y=true)(fx:UJ x=true):SeqAt.EqAt A s u v (eqV y x):=by
 cases y with
 |non=>
  cases ry;cases x with
  |non=>cases rx;exact SeqAt.EqAt.same _
  |bl b=>cases rx;exact SeqAt.EqAt.none_bool b
  |int b=>obtain⟨t,rfl⟩:=rx;exact SeqAt.EqAt.none_int b t
  |str b=>obtain⟨t,rfl⟩:=rx;exact SeqAt.EqAt.none_str b t
  |_=>exact absurd (show false=true from fx) XG
 |bl a=>
  cases ry;cases x with
  |non=>cases rx;exact SeqAt.EqAt.bool_none a
  |bl b=>cases rx;exact SeqAt.EqAt.bool_bool a b
  |int b=>obtain⟨t,rfl⟩:=rx;exact SeqAt.EqAt.bool_int a b t
  |str b=>obtain⟨t,rfl⟩:=rx;exact SeqAt.EqAt.bool_str a b t
  |_=>exact absurd (show false=true from fx) XG
 |int a=>
  obtain⟨t',rfl⟩:=ry;cases x with
  |non=>cases rx;exact SeqAt.EqAt.int_none a t'
  |bl b=>cases rx;exact SeqAt.EqAt.int_bool a t' b
  |int b=>obtain⟨t,rfl⟩:=rx;exact SeqAt.EqAt.int_int a t' b t
  |str b=>obtain⟨t,rfl⟩:=rx;exact Gq a t' b t
  |_=>exact absurd (show false=true from fx) XG
 |str a=>
  obtain⟨t',rfl⟩:=ry;cases x with
  |non=>cases rx;exact SeqAt.EqAt.str_none a t'
  |bl b=>cases rx;exact SeqAt.EqAt.str_bool a t' b
  |int b=>obtain⟨t,rfl⟩:=rx;exact Gr a t' b t
  |str b=>obtain⟨t,rfl⟩:=rx;exact SeqAt.EqAt.str_str a t' b t
  |_=>exact absurd (show false=true from fx) XG
 |_=>exact absurd (show false=true from fy) XG
noncomputable def eqU(x:V)(u:X0):Bool:=match u with
 |.none=>eqV .non x
 |.bool b=>eqV (.bl b) x
 |.int i _=>eqV (.int i) x
 |.str z _=>eqV (.str z) x
 |_=>false
theorem Hf{x y:V}{u:X0}(r:RelV y u)(f:UJ y=true):eqU x u=eqV y x:=by
 cases y with
 |non=>cases r;rfl
 |bl b=>cases r;rfl
 |int i=>obtain⟨t,rfl⟩:=r;rfl
 |str z=>obtain⟨t,rfl⟩:=r;rfl
 |_=>exact absurd (show false=true from f) XG
theorem Ab{x:V}:∀{xs:List V} {us:List X0},Vals xs us->xs.all UJ=true->us.any (eqU x)=xs.any λy=>eqV y x
 |_,_,.nil,_=>rfl
 |y::xs,u::us,.cons r t,f=>by
  rw[Vr,Yp]at f;rw[UD,UD,Hf r f.1,Ab t f.2]
theorem Ac{A:Xz}{s:X1}{x:V}{v:X0}(rx:RelV x v)(fx:UJ x=true):∀{xs:List V} {us:List X0},Vals xs us->xs.all UJ=true->∀u∈us,SeqAt.EqAt A s u v (eqU x u)
 |_,_,.nil,_=>λu hu=>by cases hu
 |y::xs,u::us,.cons r t,f=>λu' hu=>by
  rw[Vr,Yp]at f;rcases Xt.mp hu with rfl|hu
  ·rw[Hf r f.1];exact He r rx f.1 fx
  ·exact Ac rx fx t f.2 u' hu
noncomputable def inV(x:V)(xs:List V):Bool:=xs.any λy=>eqV y x
noncomputable def rIn(K:X6)(neg:Bool):R2:=λx y H Q=>∃p xs,y=.ref p/\(SqL K H p xs\/SqT K H p xs)/\UJ x=true/\xs.all UJ=true/\Q (.bl (if neg then !inV x xs else inV x xs)) H
theorem Dz:OpR X (Y0 .In) (rIn X.K false):=by
 intro pins s σ H x y v u Q I rx ry h;obtain⟨p,xs,rfl,hq,fx,fs,q⟩:=h;cases ry;rcases hq with hq|hq
 ·obtain⟨its,r,pl,hz⟩:=I.list hq;refine SeqAt.in_listAt (eqU x) pl.isList (λw hw=>Ac rx fx r fs w (by simpa using hw)) ⟨.bl _,H,I,rfl,?_⟩
  rw[show its.toArray.any (eqU x)=its.any (eqU x) by simp,Ab r fs]
  exact q
 ·obtain⟨its,r,pl,hz⟩:=I.tuple hq;refine SeqAt.in_tupleAt (eqU x) pl (λw hw=>Ac rx fx r fs w (by simpa using hw)) ⟨.bl _,H,I,rfl,?_⟩
  rw[show its.toArray.any (eqU x)=its.any (eqU x) by simp,Ab r fs]
  exact q
theorem DA:OpR X (Y0 .NotIn) (rIn X.K true):=by
 intro pins s σ H x y v u Q I rx ry h;obtain⟨p,xs,rfl,hq,fx,fs,q⟩:=h;cases ry;rcases hq with hq|hq
 ·obtain⟨its,r,pl,hz⟩:=I.list hq;refine SeqAt.notIn_listAt (eqU x) pl.isList (λw hw=>Ac rx fx r fs w (by simpa using hw)) ⟨.bl _,H,I,rfl,?_⟩
  rw[show its.toArray.any (eqU x)=its.any (eqU x) by simp,Ab r fs]
  exact q
 ·obtain⟨its,r,pl,hz⟩:=I.tuple hq;refine SeqAt.notIn_tupleAt (eqU x) pl (λw hw=>Ac rx fx r fs w (by simpa using hw)) ⟨.bl _,H,I,rfl,?_⟩
  rw[show its.toArray.any (eqU x)=its.any (eqU x) by simp,Ab r fs]
  exact q
theorem DB:CallR X (.builtin "len") (fun xs H Q=>∃p ys,xs=[.ref p]/\(SqL X.K H p ys\/SqT X.K H p ys)/\Q (.int ys.length) H):=by
 intro pins s σ H xs us Q I r h;obtain⟨p,ys,rfl,hq,q⟩:=h;obtain⟨u,rfl,rx⟩:=YR r;cases rx;have hn:=Wj;rcases hq with hq|hq
 ·obtain⟨its,r',pl,hz⟩:=I.list hq;have hlen:=r'.length;exact Calls.call_len_list pl.isList (by simp only[XT]<;>lia) ⟨.int ys.length,H,I.tok _,⟨s.toks+1,by rw[XT,hlen]⟩,q⟩
 ·obtain⟨its,r',pl,hz⟩:=I.tuple hq;have hlen:=r'.length;exact len_tuple pl (by simp only[XT]<;>lia) ⟨.int ys.length,H,I.tok _,⟨s.toks+1,by rw[XT,hlen]⟩,q⟩
theorem Ro:CallR X (.builtin "len") (fun xs H Q=>∃z,xs=[.str z]/\z.length≤sizeLine/\Q (.int z.length) H):=by
 intro pins s σ H xs us Q I r h;obtain⟨z,rfl,hz,q⟩:=h;obtain⟨u,rfl,t,rfl⟩:=YR r;have hn:=Wj;exact len_str (by lia) ⟨.int z.length,H,I.tok _,⟨_,rfl⟩,q⟩
theorem CallR.or{f:X0}{r r':List V->Hp->VK->Prop}(h:CallR X f r)(h':CallR X f r'):CallR X f (λxs H Q=>r xs H Q\/r' xs H Q):=by
 intro pins s σ H xs us Q I rs q;rcases q with q|q
 ·exact h pins s σ H xs us Q I rs q
 ·exact h' pins s σ H xs us Q I rs q
theorem DC:CallR X (.type "list") (fun xs H Q=>∃p ys,xs=[.ref p]/\(SqL X.K H p ys\/SqT X.K H p ys)/\∀l,H l=none->Q (.ref l) (upd H l (.lst ys))):=by
 intro pins s σ H xs us Q I r h;obtain⟨p,ys,rfl,hq,q⟩:=h;obtain⟨u,rfl,rx⟩:=YR r;cases rx;have fin:∀(its:List X0),Vals ys its->ys.length≤sizeLine->∀(h':Heap) (c':Nat),(∀b o',s.heap.get? b=some o'->h'.get? b=some o')->
   h'.get? s.heap.objs.size=some {cls:=.type "list",dict:=none,data:=.seq its.toArray c',slots:=#[]}->EP X pins σ Q (.ref s.heap.objs.size) {s with heap:=h'}:=fun its r' hz h' c' kp e=>
  ⟨.ref s.heap.objs.size,_,I.laid (t':=s.toks) kp (Xl _) (show ObjOk X.prog X.w _ h' _ (.lst ys)from⟨hz,its,c',r',e⟩),rfl,q _ (I.hok.fresh (Xl _))⟩
 rcases hq with hq|hq
 ·obtain⟨its,r',pl,hz⟩:=I.list hq;have hlen:=r'.length;obtain⟨o,ho,hc,n,hd⟩:=pl.isList;exact call_list_seq p (.inl rfl) ho hc hd (λh' c' kp e=>fin its r' hz h' c' kp e) (by simp only[XT]<;>lia)
 ·obtain⟨its,r',pl,hz⟩:=I.tuple hq;have hlen:=r'.length;obtain⟨o,ho,hc,n,hd⟩:=pl;exact call_list_seq p (.inr rfl) ho hc hd (λh' c' kp e=>fin its r' hz h' c' kp e) (by simp only[XT]<;>lia)
theorem DD:CallR X (.type "tuple") (fun xs H Q=>∃p ys,xs=[.ref p]/\((SqL X.K H p ys/\∀l,H l=none->Q (.ref l) (upd H l (.tup ys)))\/(SqT X.K H p ys/\Q (.ref p) H))):=by
 intro pins s σ H xs us Q I r h;obtain⟨p,ys,rfl,h⟩:=h;obtain⟨u,rfl,rx⟩:=YR r;cases rx;rcases h with⟨hq,q⟩|⟨hq,q⟩
 ·obtain⟨its,r',pl,hz⟩:=I.list hq;have hlen:=r'.length;refine call_tuple_list pl.isList (λh' kp=>?_) (by simp only[XT]<;>lia)
  have I1:Inv X pins σ H {s with heap:=h'}:=I.kept (t':=s.toks) kp;have I2:Inv X pins σ (upd H h'.objs.size (.tup ys)) {s with heap:=h'.push {cls:=.type "tuple",data:=.seq its.toArray} }:=
   I1.laid (t':=s.toks) (λb o e=>Xs _ e) (Xl _) (show ObjOk X.prog X.w _ _ _ (.tup ys)from⟨hz,its,r',IsTup.new _ _,_,XS _ rfl,rfl⟩)
  exact⟨.ref h'.objs.size,_,I2,rfl,q _ (I1.hok.fresh (Xl _))⟩
 ·obtain⟨its,r',pl,hz⟩:=I.tuple hq;exact call_tuple_same pl ⟨.ref p,H,I,rfl,q⟩
noncomputable def tyV(K:X6)(T:String)(x:V)(H:Hp):Prop:=match x with
 |.str _=>T="str"
 |.int _=>T="int"
 |.ref p=>(T="list"/\∃xs,SqL K H p xs)\/(T="tuple"/\∃o,K.lookup p=some o/\o.cls=.type "tuple"/\o.dict=none)\/
   (T="dict"/\((∃kvs,H p=some (.dK kvs))\/∃kvs,H p=some (.dT kvs)))\/(T="set"/\∃S n,H p=some (.set S n))
 |_=>False
theorem Hg{pins:List (Addr×Obj)}{σ:St}{H:Hp}{s:X1}{T:String}{x:V}{v:X0}(I:Inv X pins σ H s)(r:RelV x v)(ty:tyV X.K T x H):
  s.TypeIs v T/\∀a,v=.ref a->∃ob,s.heap.get? a=some ob/\ob.dict=none:=by
 cases x with
 |str z=>
  obtain⟨t,rfl⟩:=r;cases(show T="str" from ty);exact⟨typeIs_str s z t,λ_ e=>nomatch e⟩
 |int i=>
  obtain⟨t,rfl⟩:=r;cases(show T="int" from ty);exact⟨typeIs_int s i t,λ_ e=>nomatch e⟩
 |ref p=>
  cases r;rcases ty with⟨rfl,xs,hq⟩|⟨rfl,o,hk,hc,hd⟩|⟨rfl,hk⟩|⟨rfl,S,n,hk⟩
  ·obtain⟨its,_,pl,_⟩:=I.list hq;refine⟨pl.isList.typeIs,λa e=>?_⟩;cases e;obtain⟨o,n,e,c,hd,_⟩:=pl;exact⟨o,e,hd⟩
  ·refine⟨⟨o,I.kIn p o hk,hc⟩,λa e=>?_⟩;cases e;exact⟨o,I.kIn _ o hk,hd⟩
  ·have z:∃o,s.heap.get? p=some o/\o.ExactDict:=by
    rcases hk with⟨kvs,hk⟩|⟨kvs,hk⟩
    ·obtain⟨_,_,_,_,o,_,_,e,ex,_⟩:=I.hok p _ hk;exact⟨o,e,ex⟩
    ·obtain⟨_,_,_,_,o,_,_,e,ex,_⟩:=I.hok p _ hk;exact⟨o,e,ex⟩
   obtain⟨o,e,ex⟩:=z;refine⟨⟨o,e,ex.1⟩,λa e2=>?_⟩;cases e2;exact⟨o,e,ex.2.1⟩
  ·obtain⟨o,_,_,_,e,ex,_⟩:=I.hok p _ hk;refine⟨⟨o,e,ex.1⟩,λa e2=>?_⟩;cases e2;exact⟨o,e,ex.2.1⟩
 |_=>exact YG ty
noncomputable def tBM0(K:X6)(T:String)(r:V->List V->Hp->VK->Prop)(to:TE):TE:=λσ H Q=>to σ H λx H1=>tyV K T x H1/\r x [] H1 Q
noncomputable def tBM(K:X6)(T:String)(r:V->List V->Hp->VK->Prop)(to:TE)(t:TA):TE:=λσ H Q=>to σ H λx H1=>tyV K T x H1/\t σ H1 λxs H2=>r x xs H2 Q
variable{o e:Expr}{es:List Expr}{to:TE}{t:TA}{name:Str}{apos cpos:Pos}{T id:String}{r:V->List V->Hp->VK->Prop}
theorem Rp(pa:PlainAttrs T)(slot:Slot T name id)(hty:typeOf (.builtin id)=pure (.type "method_descriptor"))(hm:MtR X id r)(ho:PE X o to)
  (hbase:WN o name X.env (eval o X.env)=eval o X.env:=by rfl) (hline:(apos.endLine==cpos.line)=true:=by rfl):PE X (.Call (.Attribute o name apos) [] [] cpos) (tBM0 X.K T r to):=by
 intro pins s σ H Q I h;refine wpAny_Call_method0_late hbase hline (thn (ho pins s σ H _ I h) λv s1 ⟨x,H1,I1,r1,ty,q1⟩=>?_);obtain⟨h1,h2⟩:=Hg I1 r1 ty;exact⟨T,id,pa,slot,hty,h1,h2,Gi rfl (PySem.evalArgs_none (hm pins s1 σ H1 x [] v [] Q I1 r1 .nil q1))⟩
theorem Rq(pa:PlainAttrs T)(slot:Slot T name id)(hty:typeOf (.builtin id)=pure (.type "method_descriptor"))(hm:MtR X id r)(ho:PE X o to)(ha:PA X (e::es) t)
  (hbase:WN o name X.env (eval o X.env)=eval o X.env:=by rfl)
  (hfew:((Yn cpos (XM (e::es) X.env)).all (λx=>!x.1)&&(backToKw cpos (keywordEach [] X.env)).all (λx=>x.1.isSome)
   &&decide ((e::es).length+([]:List Ue).length+(if([]:List Ue).isEmpty then 0 else 1)<30))=true:=by rfl)
  (hline:(apos.endLine==cpos.line)=true:=by rfl) (hs:XM (e::es) X.env=(false,eval e X.env)::XM es X.env:=by rfl) (hplain:(Yn cpos (XM es X.env)).any (·.1)=false:=by rfl):
  PE X (.Call (.Attribute o name apos) (e::es) [] cpos) (tBM X.K T r to t):=by
 intro pins s σ H Q I h;refine wpAny_Call_method_late hbase hfew hline rfl (thn (ho pins s σ H _ I h) λv s1 ⟨x,H1,I1,r1,ty,q1⟩=>?_);obtain⟨h1,h2⟩:=Hg I1 r1 ty;refine⟨T,id,pa,slot,hty,h1,h2,?_⟩;have hA:=ha cpos pins s1 σ H1 _ I1 q1;rw[hs]at hA ⊢;refine Gi (by show(false||(Yn cpos (XM es X.env)).any (·.1))=false;rw[hplain]<;>rfl) (Calls.evalArgs_plain ?_)
 exact thn hA λus s2 ⟨vs,H2,I2,r2,q2⟩=>hm pins s2 σ H2 x vs v us Q I2 r1 r2 q2
/- xs.append(e),list.index on a module's tuple .. are MtR facts of 06m -/
end
noncomputable def MtM(X:Cx)(id:String)(r:V->List V->Hp->VK->Prop):Prop:=
 ∀(pins:List (Addr×Obj)) (s:X1) (σ:St) (H:Hp) (x:V) (xs:List V) (v:X0) (us:List X0) (Q:VK),Inv X pins σ H s->RelV x v->Vals xs us->r x xs H Q->
  X4 (X8 X.prog X.w) X.A (call (.builtin id) (v::us)) (EP X pins σ Q) X.xe s
theorem Vals.one:∀{x:V} {us:List X0},Vals [x] us->∃u,us=[u]/\RelV x u
 |_,_,.cons r .nil=>⟨_,rfl,r⟩
theorem Vals.two:∀{x y:V} {us:List X0},Vals [x,y] us->∃u v,us=[u,v]/\RelV x u/\RelV y v
 |_,_,_,.cons r (.cons q .nil)=>⟨_,_,rfl,r,q⟩
theorem Vals.zero:∀{us:List X0},Vals [] us->us=[]
 |_,.nil=>rfl
theorem Vals.eraseIdx:∀{xs:List V} {us:List X0} (i:Nat),Vals xs us->Vals (xs.eraseIdx i) (us.eraseIdx i)
 |_,_,_,.nil=>.nil
 |_,_,0,.cons _ t=>t
 |_,_,i+1,.cons r t=>.cons r (Vals.eraseIdx i t)
theorem Hh{α:Type}:∀(l:List α) (i:Nat),(l.eraseIdx i).length≤l.length
 |[],_=>Xl _
 |_::_,0=>Ul _
 |_::r,i+1=>Da (Hh r i)
section
variable{X:Cx}{pins:List (Addr×Obj)}{σ:St}{H:Hp}{s:X1}{l b:Addr}{xs ys zs:List V}
theorem Inv.lset{its its':List X0}{n:Nat}{f:Array X0->Array X0}{t':Nat}(I:Inv X pins σ H s)(hH:H l=some (.lst xs))
  (e:s.heap.get? l=some {cls:=.type "list",data:=.seq its.toArray n}) (hf:f its.toArray=its'.toArray) (hv:Vals ys its') (hz:ys.length≤sizeLine):
  Inv X pins σ (upd H l (.lst ys)) {s with heap:=s.heap.update l (V0 f),toks:=t'}:=by
 have q:=PySem.IsL.update e f;rw[hf]at q;refine I.write (x:=l) (e:=l) (by rw[hH];exact trivial) (.inl rfl) (λb' u hb hu=>(Uj s.heap (V0 f) (YI hb)).trans hu) ⟨_,q⟩ ?_
 exact⟨hz,its',_,hv,q⟩
theorem Inv.lstM(I:Inv X pins σ H s)(hH:H l=some (.lst xs)):xs.length≤sizeLine/\∃(its:List X0) (n:Nat),Vals xs its/\xs.length=its.length/\s.heap.get? l=some {cls:=.type "list",data:=.seq its.toArray n}:=by
 obtain⟨z,its,n,r,e⟩:=I.hok l _ hH;exact⟨z,its,n,r,r.length,e⟩
theorem Rr{n:Nat}(h:n≤sizeLine):Dl n=false:=by
 unfold Dl;exact decide_eq_false (by lia)
end
section
variable{X:Cx}
noncomputable def Rs:V->List V->Hp->VK->Prop:=λx vs H Q=>∃l xs y,x=.ref l/\vs=[y]/\H l=some (.lst xs)/\xs.length<sizeLine/\Q .non (upd H l (.lst (xs++[y])))
theorem Hi:MtM X "list.append" Rs:=by
 intro pins s σ H x vs v us Q I rx rv h;obtain⟨l,xs,y,rfl,rfl,hH,hz,q⟩:=h;cases rx;obtain⟨u,rfl,ru⟩:=rv.one;obtain⟨z,its,n,r,hl,e⟩:=I.lstM hH;refine call_meets F.slot_list_append ⟨_,e,rfl⟩ F.entry_list_append (F.args_list_append_2 _ _) (PySem.list_append l its.toArray n u (by rw[XT];lia)) ⟨e,?_⟩
 refine⟨.non,_,I.lset (its':=its++[u]) hH e (by simp) (r.append (.cons ru .nil)) ?_,rfl,q⟩
 rw[YY,List.length_singleton];lia
noncomputable def Rt:V->List V->Hp->VK->Prop:=λx vs H Q=>∃l b xs zs,x=.ref l/\vs=[.ref b]/\H l=some (.lst xs)/\H b=some (.lst zs)/\xs.length+zs.length≤sizeLine/\Q .non (upd H l (.lst (xs++zs)))
theorem Ru:MtM X "list.extend" Rt:=by
 intro pins s σ H x vs v us Q I rx rv h;obtain⟨l,b,xs,zs,rfl,rfl,hH,hB,hz,q⟩:=h;cases rx;obtain⟨u,rfl,ru⟩:=rv.one;cases ru;obtain⟨z,its,n,r,hl,e⟩:=I.lstM hH;obtain⟨z2,its2,n2,r2,hl2,e2⟩:=I.lstM hB;have hsz:its.toArray.size+its2.toArray.size≤sizeLine:=by rw[XT,XT];lia
 have hlong:¬(!its.toArray.isEmpty&&Dl (its.toArray.size+its2.toArray.size))=true:=by
  rw[Rr hsz,D9];exact XG
 refine call_meets F.slot_list_extend ⟨_,e,rfl⟩ F.entry_list_extend (F.args_list_extend_2 _ _)
  (AutoSeq1.list_extend_list_list_0 l its.toArray n b its2.toArray n2 hlong (by rw[XT];lia) (by lia)) ⟨e,e2,?_⟩
 refine⟨.non,_,I.lset (its':=its++its2) hH e (by simp) (r.append r2) ?_,rfl,q⟩
 rw[YY];lia
end
section
variable{prog:Xn}{w:Xj}{A:Xz}{E:X0->X1->Prop}{s:X1}
set_option maxRecDepth 100000 in
end
section
variable{X:Cx}
end
section
variable{κ:Type} [DecidableEq κ]
noncomputable def valV(kvs:List (κ×V))(k:κ):Option V:=(kvs.find? λkv=>decide (kv.1=k)).map (·.2)
noncomputable def putK(kvs:List (κ×V))(k:κ)(v:V):List (κ×V):=
 if(kvs.any λkv=>decide (kv.1=k))=true then kvs.map (λkv=>if kv.1=k then(kv.1,v)else kv)else kvs++[(k,v)]
theorem BE{p:κ×V}{r:List (κ×V)}{k:κ}(e:p.1=k):valV (p::r) k=some p.2:=by simp[valV,W6,e]
theorem BF{p:κ×V}{r:List (κ×V)}{k:κ}(e:¬p.1=k):valV (p::r) k=valV r k:=by simp[valV,W6,e]
theorem Hj(k:κ):∀kvs:List (κ×V),(kvs.any λkv=>decide (kv.1=k))=(valV kvs k).isSome
 |[]=>rfl
 |p::r=>by
  rw[UD];by_cases e:p.1=k
  ·simp only[BE e,decide_eq_true e,Bk,Option.isSome_some]
  ·rw[BF e,decide_eq_false e,Bool.false_or];exact Hj k r
theorem Hk(kvs:List (κ×V))(k:κ)(v:V):(putK kvs k v).length≤kvs.length+1:=by
 unfold putK;split
 ·rw[X7];lia
 ·rw[YY,YZ,List.length_nil];lia
theorem RelO.isSome_eq{o:Option V}{u:Option X0}(r:RelO o u):o.isSome=u.isSome:=by
 cases o with
 |none=>cases u with
  |none=>rfl
  |some _=>exact(show False from r).elim
 |some _=>cases u with
  |none=>exact(show False from r).elim
  |some _=>rfl
theorem KV.val{kvs:List (κ×V)}{vs:List (κ×X0)}(r:KV kvs vs)(k:κ):RelO (valV kvs k) (Z6 vs k):=by
 unfold KV at r
 induction r with
 |nil=>exact YH
 | @cons p q ps qs h t ih=>
  obtain⟨h1,h2⟩:=h;by_cases e:p.1=k
  ·have e':q.1=k:=h1.symm.trans e;have b:Z6 (q::qs) k=some q.2:=by simp[Z6,W6,e']
   rw[BE e,b];exact h2
  ·have e':¬q.1=k:=λz=>e (h1.trans z);have b:Z6 (q::qs) k=Z6 qs k:=by simp[Z6,W6,e']
   rw[BF e,b];exact ih
theorem KV.any{kvs:List (κ×V)}{vs:List (κ×X0)}(r:KV kvs vs)(k:κ):(kvs.any λkv=>decide (kv.1=k))=vs.any λkv=>decide (kv.1=k):=by
 unfold KV at r
 induction r with
 |nil=>rfl
 |cons h t ih=>rw[UD,UD,ih,h.1]
theorem KV.repl{kvs:List (κ×V)}{vs:List (κ×X0)}(r:KV kvs vs)(k:κ){y:V}{u:X0}(ry:RelV y u):
  KV (kvs.map λkv=>if kv.1=k then(kv.1,y)else kv) (vs.map λkv=>if kv.1=k then(kv.1,u)else kv):=by
 unfold KV at r ⊢
 induction r with
 |nil=>exact .nil
 | @cons p q ps qs h t ih=>
  rw[XC,XC];refine .cons ?_ ih;obtain⟨h1,h2⟩:=h;by_cases e:p.1=k
  ·rw[if_pos e,if_pos (h1.symm.trans e)];exact⟨h1,ry⟩
  ·rw[if_neg e,if_neg (λz=>e (h1.trans z))];exact⟨h1,h2⟩
theorem KV.put{kvs:List (κ×V)}{vs:List (κ×X0)}(r:KV kvs vs)(k:κ){y:V}{u:X0}(ry:RelV y u):KV (putK kvs k y) (stored vs k u):=by
 unfold putK stored;rw[r.any k];by_cases e:(vs.any λkv=>decide (kv.1=k))=true
 ·rw[if_pos e,if_pos e];exact r.repl k ry
 ·rw[if_neg e,if_neg e];exact Paired.snoc r ⟨rfl,ry⟩
theorem KV.keys{kvs:List (κ×V)}{vs:List (κ×X0)}(r:KV kvs vs):kvs.map (·.1)=vs.map (·.1):=by
 unfold KV at r
 induction r with
 |nil=>rfl
 |cons h t ih=>rw[XC,XC,ih,h.1]
theorem KV.length{kvs:List (κ×V)}{vs:List (κ×X0)}(r:KV kvs vs):kvs.length=vs.length:=Paired.length r
end
theorem VF{P:Xn}{w:Xj}{k:Key}{u:X0}(r:RelV (kV k) u):(Yt P w).is k u=true:=by
 cases k with
 |inl i=>obtain⟨t,e⟩:=(show∃t,u=A3 i t from r);subst e;exact PR P w i t
 |inr x=>obtain⟨t,e⟩:=(show∃t,u=XL x t from r);subst e;exact PU P w x t
theorem Hl{P:Xn}{w:Xj}:∀{ks:List Key} {us:List X0},Vals (ks.map kV) us->ItemsAre (Yt P w) ks us
 |[],_,r=>by rw[Y2]at r;cases r;exact .nil
 |k::ks,_,r=>by
  rw[XC]at r;cases r with
  |cons h t=>exact .cons (VF h) (Hl t)
noncomputable abbrev KT(H:Hp):List (List Key×V)->List (List Key×Addr×X0)->Prop:=Paired λp q=>p.1=q.1/\H q.2.1=some (.tup (p.1.map kV))/\RelV p.2 q.2.2
theorem KT.val{H:Hp}{kvs:List (List Key×V)}{xs:List (List Key×Addr×X0)}(r:KT H kvs xs)(k:List Key):RelO (valV kvs k) ((atKey xs k).map (·.2)):=by
 induction r with
 |nil=>exact YH
 | @cons p q ps qs h t ih=>
  obtain⟨h1,_,h2⟩:=h;by_cases e:p.1=k
  ·have e':q.1=k:=h1.symm.trans e;have b:atKey (q::qs) k=some q.2:=by simp[atKey,W6,e']
   rw[BE e,b];exact h2
  ·have e':¬q.1=k:=λz=>e (h1.trans z);have b:atKey (q::qs) k=atKey qs k:=by simp[atKey,W6,e']
   rw[BF e,b];exact ih
theorem KT.repl{H:Hp}{kvs:List (List Key×V)}{xs:List (List Key×Addr×X0)}(r:KT H kvs xs)(k:List Key){y:V}{u:X0}(ry:RelV y u):
  KT H (kvs.map λkv=>if kv.1=k then(kv.1,y)else kv) (xs.map (putAt k u)):=by
 induction r with
 |nil=>exact .nil
 | @cons p q ps qs h t ih=>
  rw[XC,XC];refine .cons ?_ ih;obtain⟨h1,h2,h3⟩:=h;unfold putAt;by_cases e:p.1=k
  ·rw[if_pos e,if_pos (h1.symm.trans e)];exact⟨h1,h2,ry⟩
  ·rw[if_neg e,if_neg (λz=>e (h1.trans z))];exact⟨h1,h2,h3⟩
theorem KT.put{H:Hp}{kvs:List (List Key×V)}{xs:List (List Key×Addr×X0)}(r:KT H kvs xs)(k:List Key){b:Addr}{y:V}{u:X0}(hb:H b=some (.tup (k.map kV)))(ry:RelV y u):
  KT H (putK kvs k y) (storedH xs k b u):=by
 have e:(kvs.any λkv=>decide (kv.1=k))=(atKey xs k).isSome:=by
  rw[Hj,(r.val k).isSome_eq,Dq]
 unfold putK storedH;rw[e];by_cases q:(atKey xs k).isSome=true
 ·rw[if_pos q,if_pos q];exact r.repl k ry
 ·rw[if_neg q,if_neg q];exact Paired.snoc r ⟨rfl,hb,ry⟩
theorem KT.keeps{H H':Hp}{kvs:List (List Key×V)}{xs:List (List Key×Addr×X0)}(r:KT H kvs xs)(ht:∀b ys,H b=some (.tup ys)->H' b=some (.tup ys)):KT H' kvs xs:=
 Paired.mapP r λ_ _ z=>⟨z.1,ht _ _ z.2.1,z.2.2⟩
section
variable{P:Xn}{w:Xj}{H:Hp}{h:Heap}{a:Addr}
theorem Hm{u:HO}(ok:HOk P w H h)(e:Rd H a u):ObjOk P w H h a u:=e.ok ok
theorem VG{kvs:List (Key×V)}(ok:HOk P w H h)(e:Rd H a (.dK kvs)):kvs.length≤sizeLine/\(a==YK)=false/\∃vs,KV kvs vs/\h.DictOf (Yt P w) a vs:=
 show ObjOk P w H h a (.dK kvs)from Hm ok e
theorem BG{kvs:List (Key×V)}(ok:HOk P w H h)(e:H a=some (.dK kvs)):kvs.length≤sizeLine/\(a==YK)=false/\∃vs,KV kvs vs/\h.DictOf (Yt P w) a vs:=VG ok (.inl e)
theorem Ad{ks:List Key}(ok:HOk P w H h)(e:H a=some (.tup (ks.map kV))):(tupleKind (Yt P w)).is h ks a:=by
 obtain⟨_,its,r,⟨o,h1,h2,n,h3⟩,_⟩:=(show ObjOk P w H h a (.tup (ks.map kV))from ok a _ e);exact⟨o,its.toArray,n,h1,h2,h3,by simpa using Hl r⟩
theorem Ae{kvs:List (List Key×V)}(ok:HOk P w H h)(e:Rd H a (.dT kvs)):kvs.length≤sizeLine/\(a==YK)=false/\
  ∃xs,KT H kvs xs/\h.DictOfH (tupleKind (Yt P w)) a xs:=by
 obtain⟨z,y,xs,r,o,es,ep,h1,h2,h3,h4,h5⟩:=(show ObjOk P w H h a (.dT kvs)from Hm ok e);refine⟨z,y,xs,r,o,es,ep,h1,h2,h3,h4,λx hx=>?_,h5⟩;have all:∀{l:List (List Key×V)} {m:List (List Key×Addr×X0)},KT H l m->∀x∈m,(tupleKind (Yt P w)).is h x.1 x.2.1:=by
  intro l m q
  induction q with
  |nil=>intro x hx;exact nomatch hx
  | @cons p q ps qs hq t ih=>
   intro x hx;rcases Xt.mp hx with e|hx
   ·subst e;exact Ad ok (by rw[<- hq.1];exact hq.2.1)
   ·exact ih x hx
 exact all r x hx
theorem Rv{kvs:List (List Key×V)}(ok:HOk P w H h)(e:H a=some (.dT kvs)):kvs.length≤sizeLine/\(a==YK)=false/\
  ∃xs,KT H kvs xs/\h.DictOfH (tupleKind (Yt P w)) a xs:=Ae ok (.inl e)
end
noncomputable def DGet(H:Hp)(a:Addr)(y:V)(r:Option V):Prop:=
 (∃kvs k,Rd H a (.dK kvs)/\y=kV k/\r=valV kvs k)\/∃kvs k b,Rd H a (.dT kvs)/\y=.ref b/\H b=some (.tup (k.map kV))/\r=valV kvs k
noncomputable def DPut(H:Hp)(a:Addr)(y v:V)(H':Hp):Prop:=
 (∃kvs k,H a=some (.dK kvs)/\y=kV k/\kvs.length<sizeLine/\H'=upd H a (.dK (putK kvs k v)))\/
 ∃kvs k b,H a=some (.dT kvs)/\y=.ref b/\H b=some (.tup (k.map kV))/\kvs.length<sizeLine/\H'=upd H a (.dT (putK kvs k v))
theorem DGet.k{H:Hp}{a:Addr}{kvs:List (Key×V)}{k:Key}(e:H a=some (.dK kvs)):DGet H a (kV k) (valV kvs k):=.inl ⟨kvs,k,.inl e,rfl,rfl⟩
theorem DGet.t{H:Hp}{a b:Addr}{kvs:List (List Key×V)}{k:List Key}(e:H a=some (.dT kvs))(eb:H b=some (.tup (k.map kV))):DGet H a (.ref b) (valV kvs k):=.inr ⟨kvs,k,b,.inl e,rfl,eb,rfl⟩
theorem DPut.k{H:Hp}{a:Addr}{kvs:List (Key×V)}{k:Key}{v:V}(e:H a=some (.dK kvs))(hl:kvs.length<sizeLine):DPut H a (kV k) v (upd H a (.dK (putK kvs k v))):=.inl ⟨kvs,k,e,rfl,hl,rfl⟩
theorem DPut.t{H:Hp}{a b:Addr}{kvs:List (List Key×V)}{k:List Key}{v:V}(e:H a=some (.dT kvs))(eb:H b=some (.tup (k.map kV)))(hl:kvs.length<sizeLine):
  DPut H a (.ref b) v (upd H a (.dT (putK kvs k v))):=.inr ⟨kvs,k,b,e,rfl,eb,hl,rfl⟩
section
variable{X:Cx}{pins:List (Addr×Obj)}{σ:St}{H:Hp}{s:X1}{a:Addr}{y v:V}{u r:X0}{o:Option V}{A:Xz}{E:X0->X1->Prop}
theorem Inv.big(I:Inv X pins σ H s):YK<s.heap.objs.size:=by
 have h:Xf<s.heap.objs.size:=(I.mod.glob.keeps I.bk).lt;exact Vx (by decide) h
theorem Rw{Q:X0->X1->Prop}(hu:A.units+1<cLine)(I:Inv X pins σ H s)(g:DGet H a y (some v))(ry:RelV y u)(h:∀w' s',Inv X pins σ H s'->RelV v w'->Q w' s'):
  X4 (X8 X.prog X.w) A (getItem (.ref a) u) Q E s:=by
 rcases g with⟨kvs,k,e,ey,l⟩|⟨kvs,k,b,e,ey,eb,l⟩
 ·subst ey;obtain⟨z,hd,vs,rel,dd⟩:=VG I.hok e;obtain⟨w',hw,rw'⟩:=RelO.some_of (v:=v) (o:=Z6 vs k) (by rw[l];exact rel.val k)
  exact wpAny_getItem_of (VF ry) dd.mapOf hw (h w' _ (I.tok _) rw')
 ·subst ey;cases(show u=XD b from ry);obtain⟨z,hd,xs,rel,dd⟩:=Ae I.hok e;obtain⟨w',hw,rw'⟩:=RelO.some_of (v:=v) (o:=(atKey xs k).map (·.2)) (by rw[l];exact rel.val k)
  obtain⟨p,hp,hp2⟩:=Dm.mp hw;refine wpAny_getItem_heap (AZ hu) (Ad I.hok eb) dd hp ?_;rw[hp2];exact h w' _ (I.tok _) rw'
theorem d_in{Q:X0->X1->Prop}(hu:A.units+1<cLine)(I:Inv X pins σ H s)(g:DGet H a y o)(ry:RelV y u)(h:∀s',Inv X pins σ H s'->Q (.bool o.isSome) s'):
  X4 (X8 X.prog X.w) A (Y0 .In u (.ref a)) Q E s:=by
 rcases g with⟨kvs,k,e,ey,l⟩|⟨kvs,k,b,e,ey,eb,l⟩
 ·subst ey;obtain⟨z,hd,vs,rel,dd⟩:=VG I.hok e;refine wpAny_in_of (VF ry) hd dd.mapOf ?_;rw[<- (rel.val k).isSome_eq,<- l];exact h _ (I.tok _)
 ·subst ey;cases(show u=XD b from ry);obtain⟨z,hd,xs,rel,dd⟩:=Ae I.hok e;refine wpAny_in_heap (AZ hu) (Ad I.hok eb) hd dd ?_;have q:=(rel.val k).isSome_eq;rw[Dq]at q;rw[<- q,<- l];exact h _ (I.tok _)
theorem Rx{Q:X0->X1->Prop}(hu:A.units+1<cLine)(I:Inv X pins σ H s)(g:DGet H a y o)(ry:RelV y u)(h:∀s',Inv X pins σ H s'->Q (.bool (!o.isSome)) s'):
  X4 (X8 X.prog X.w) A (Y0 .NotIn u (.ref a)) Q E s:=by
 rcases g with⟨kvs,k,e,ey,l⟩|⟨kvs,k,b,e,ey,eb,l⟩
 ·subst ey;obtain⟨z,hd,vs,rel,dd⟩:=VG I.hok e;refine wpAny_notIn_of (VF ry) hd dd.mapOf ?_;rw[<- (rel.val k).isSome_eq,<- l];exact h _ (I.tok _)
 ·subst ey;cases(show u=XD b from ry);obtain⟨z,hd,xs,rel,dd⟩:=Ae I.hok e;refine wpAny_notIn_heap (AZ hu) (Ad I.hok eb) hd dd ?_;have q:=(rel.val k).isSome_eq;rw[Dq]at q;rw[<- q,<- l];exact h _ (I.tok _)
theorem DE{h':Heap}{t':Nat}{ob:HO}(I:Inv X pins σ H s)(mu:Mut (H a))(hs:Vd a s.heap h')(he:∃q,h'.get? a=some q)(new:ObjOk X.prog X.w (upd H a ob) h' a ob):
  Inv X pins σ (upd H a ob) {s with heap:=h',toks:=t'}:=
 I.write (x:=a) (e:=a) mu (.inl rfl) (λb q hb z=>(hs.2 b hb).trans z) he new
theorem Af{P:Xn}{w:Xj}{H':Hp}{h':Heap}{kvs:List (Key×V)}{vs:List (Key×X0)}(z:kvs.length≤sizeLine)(hd:(a==YK)=false)(rel:KV kvs vs)(dd:h'.DictOf (Yt P w) a vs):
  ObjOk P w H' h' a (.dK kvs):=⟨z,hd,vs,rel,dd⟩
theorem Ry{H':Hp}{Q:Unit->X1->Prop}(hu:A.units+1<cLine)(I:Inv X pins σ H s)(g:DPut H a y v H')(ry:RelV y u)(rv:RelV v r)(h:∀s',Inv X pins σ H' s'->Q () s'):
  X4 (X8 X.prog X.w) A (setItem (.ref a) u r) Q E s:=by
 rcases g with⟨kvs,k,e,ey,l,eH⟩|⟨kvs,k,b,e,ey,eb,l,eH⟩
 ·subst ey eH;obtain⟨z,hd,vs,rel,dd⟩:=BG I.hok e;have hz:vs.length≤sizeLine:=by rw[<- rel.length];exact z
  have hl:(putK kvs k v).length≤sizeLine:=by have:=Hk kvs k v;lia
  refine wpAny_setItem_pairs (hsz:=hz) (VF ry) dd λh' dd' hs=>h _ ?_;have he:∃q,h'.get? a=some q:=let⟨q,_,_,hq,_⟩:=dd';⟨q,hq⟩
  exact DE I (by rw[e];exact YH) hs he (Af hl hd (rel.put k rv) dd')
 ·subst ey eH;cases(show u=XD b from ry);obtain⟨z,hd,xs,rel,dd⟩:=Rv I.hok e;have hz:xs.length≤sizeLine:=by rw[<- Paired.length rel];exact z
  have hl:(putK kvs k v).length≤sizeLine:=by have:=Hk kvs k v;lia
  refine wpAny_setItem_heap (hsz:=hz) (AZ hu) (Ad I.hok eb) dd λh' dd' hs=>h _ ?_;obtain⟨q,es,ep,hq,h2,h3,h4,_,h5⟩:=dd';refine DE I (by rw[e];exact YH) hs ⟨q,hq⟩ ⟨hl,hd,_,(rel.put k eb rv).keeps λc ys ec=>?_,q,es,ep,hq,h2,h3,h4,h5⟩
  rw[XO (Gw ec e (λz=>nomatch z))];exact ec
end
section
variable{X:Cx}{pins:List (Addr×Obj)}{σ:St}{H:Hp}{s:X1}{a:Addr}{kvs:List (Key×V)}{k:Key}{u:X0}{A:Xz}{E:X0->X1->Prop}
theorem Rz{Q:X0->X1->Prop}(I:Inv X pins σ H s)(e:H a=some (.dK kvs))(h:∀s',Inv X pins σ (upd H a (.dK [])) s'->Q .none s'):X4 (X8 X.prog X.w) A (call (.builtin "dict.clear") [.ref a]) Q E s:=by
 obtain⟨z,hd,vs,rel,dd⟩:=BG I.hok e;refine call_meetsIn G6 dd.typeIs PySem.F.entry_dict_clear (PySem.F.args_dict_clear_1 _) (meets_dict_clear (Yt X.prog X.w) a) ⟨vs,dd,by rw[<- rel.length];exact z,λh' dd' hs=>h _ ?_⟩
 have he:∃q,h'.get? a=some q:=let⟨q,_,_,hq,_⟩:=dd';⟨q,hq⟩
 exact DE (t':=s.toks) I (by rw[e];exact YH) hs he (Af (YD _) hd .nil dd')
theorem RA{Q:X0->X1->Prop}(I:Inv X pins σ H s)(e:Rd H a (.dK kvs))(h:∀t s',Inv X pins σ H s'->Q (.int kvs.length t) s'):X4 (X8 X.prog X.w) A (call (.builtin "len") [.ref a]) Q E s:=by
 obtain⟨z,hd,vs,rel,dd⟩:=VG I.hok e;refine call_len_dict hd dd (by rw[<- rel.length];rw[sizeLine_eq]at z;lia) ?_
 rw[<- rel.length];exact h _ _ (I.tok _)
end
theorem RB{X:Cx}{pins:List (Addr×Obj)}{σ:St}{H:Hp}{s:X1}{a:Addr}{y:V}{o:Option V}(I:Inv X pins σ H s)(g:DGet H a y o):s.TypeIs (.ref a) "dict":=by
 rcases g with⟨kvs,k,e,_,_⟩|⟨kvs,k,b,e,_,_,_⟩
 ·obtain⟨_,_,vs,_,dd⟩:=VG I.hok e;exact dd.typeIs
 ·obtain⟨_,_,xs,_,dd⟩:=Ae I.hok e;exact dd.typeIs
section
variable{X:Cx}{o i e value:Expr}{pos pos' tpos:Pos}{td ty tv:TE}
end
theorem RC{P:Xn}{w:Xj}{H:Hp}(h:Heap)(hb:YK<h.objs.size):ObjOk P w H (h.push {cls:=.type "dict",data:=.dict #[]}) h.objs.size (.dK []):=
 ⟨YD _,beq_eq_false_iff_ne.mpr (YI (XH hb)),[],.nil,Dr h⟩
noncomputable def RD:TE:=λ_ H Q=>∀p,H p=none->Q (.ref p) (upd H p (.dK []))
section
variable{X:Cx}{pos:Pos}
theorem pe_dnewK:PE X (.Dict [] [] pos) RD:=λpins s σ H Q I h=>
 wpAny_Dict_empty ⟨.ref s.heap.objs.size,_,I.laid (a:=s.heap.objs.size) (o:=.dK []) (t':=s.toks) (λ_ _ q=>Xs _ q) (Xl _) (RC s.heap I.big),rfl,h _ (I.hok.fresh (Xl _))⟩
end
noncomputable def Hn:List (TE×TE)->St->Hp->(List (V×V)->Hp->Prop)->Prop
 |[],_,H,Q=>Q [] H
 |(tk,tv)::r,σ,H,Q=>tk σ H λx H1=>tv σ H1 λy H2=>Hn r σ H2 λps H3=>Q ((x,y)::ps) H3
noncomputable abbrev VV:List (V×V)->List (X0×X0)->Prop:=Paired λp q=>RelV p.1 q.1/\RelV p.2 q.2
noncomputable def PPs(X:Cx)(pos:Pos)(keys:List (Option Expr))(values:List Expr)(trs:List (TE×TE)):Prop:=
 ∀(pins:List (Addr×Obj)) (s:X1) (σ:St) (H:Hp) (Q:List (V×V)->Hp->Prop),Inv X pins σ H s->Hn trs σ H Q->
  X4 (X8 X.prog X.w) X.A (evalPairs (pairTrees keys values X.env pos)) (λvs s'=>∃ps H',Inv X pins σ H' s'/\VV ps vs/\Q ps H') X.xe s
theorem RE{X:Cx}{pos:Pos}:PPs X pos [] [] []:=λpins s σ H Q I h=>pairTrees_nil_walk ⟨[],H,I,.nil,h⟩
theorem RF{X:Cx}{pos:Pos}{k v:Expr}{ks:List (Option Expr)}{vs:List Expr}{tk tv:TE}{trs:List (TE×TE)}(hk:PE X k tk)(hv:PE X v tv)(hr:PPs X pos ks vs trs):
  PPs X pos (some k::ks) (v::vs) ((tk,tv)::trs):=λpins s σ H Q I h=>
 pairTrees_cons_walk (thn (hk pins s σ H _ I h) λu s1 ⟨x,H1,I1,rx,q1⟩=>thn (hv pins s1 σ H1 _ I1 q1) λw2 s2 ⟨y,H2,I2,ry,q2⟩=>
  thn (hr pins s2 σ H2 _ I2 q2) λws s3 ⟨ps,H3,I3,rel,q3⟩=>⟨(x,y)::ps,H3,I3,.cons ⟨rx,ry⟩ rel,q3⟩)
structure M1 (X:Cx) (o:Expr) (m:Str) (apos:Pos) (e:Expr) (cpos:Pos):Prop where
 base:WN o m X.env (eval o X.env)=eval o X.env
 few:((Yn cpos (XM [e] X.env)).all (λx=>!x.1)&&(backToKw cpos (keywordEach [] X.env)).all (λx=>x.1.isSome)
  &&decide (([e]:List Expr).length+([]:List Ue).length+(if([]:List Ue).isEmpty then 0 else 1)<30))=true
 line:(apos.endLine==cpos.line)=true
 trees:Yn cpos (XM [e] X.env)=[(false,eval e X.env)]
structure M2 (X:Cx) (o:Expr) (m:Str) (apos:Pos) (e f:Expr) (cpos:Pos):Prop where
 base:WN o m X.env (eval o X.env)=eval o X.env
 few:((Yn cpos (XM [e,f] X.env)).all (λx=>!x.1)&&(backToKw cpos (keywordEach [] X.env)).all (λx=>x.1.isSome)
  &&decide (([e,f]:List Expr).length+([]:List Ue).length+(if([]:List Ue).isEmpty then 0 else 1)<30))=true
 line:(apos.endLine==cpos.line)=true
 trees:Yn cpos (XM [e,f] X.env)=[(false,eval e X.env),(false,eval f X.env)]
section
variable{X:Cx}{pins:List (Addr×Obj)}{σ:St}{H:Hp}{s:X1}{a:Addr}{y d:V}{u r:X0}{o:Option V}{A:Xz}{E:X0->X1->Prop}
end
section
variable{X:Cx}{o e f:Expr}{apos cpos:Pos}{td ty tx:TE}
end
section
variable{X:Cx}{pins:List (Addr×Obj)}{σ:St}{H:Hp}{s:X1}{a:Addr}{kvs:List (Key×V)}{A:Xz}{E:X0->X1->Prop}
theorem RG{Q:X0->X1->Prop}(I:Inv X pins σ H s)(e:Rd H a (.dK kvs))(h:∀p s',H p=none->Inv X pins σ (upd H p (.dK kvs)) s'->Q (.ref p) s'):X4 (X8 X.prog X.w) A (call (.type "dict") [.ref a]) Q E s:=by
 obtain⟨z,hd,vs,rel,dd⟩:=VG I.hok e;refine kt_call_dict hd dd (by rw[<- rel.length];exact z) λh' dd' hs=>?_
 refine h _ _ (I.hok.fresh (Xl _)) (I.laid (a:=s.heap.objs.size) (o:=.dK kvs) (t':=s.toks) (λb q hq=>?_) (Xl _) (Af z (beq_eq_false_iff_ne.mpr (YI (XH I.big))) rel dd'));exact(hs.2 b (XH (XA hq))).trans (Xs _ hq)
end
section
variable{X:Cx}{pins:List (Addr×Obj)}{σ:St}{H:Hp}{s:X1}{a:Addr}{y:V}{u:X0}{A:Xz}{E:X0->X1->Prop}
end
end L2
namespace Att
open PySem PySem.W PySem.Calls PyProof.Rows
theorem RI{P:Params}{h:Heap}:∀(ns:List Int) (vs:List X0),WellAll P h vs (ns.map WData.int)->IntsAre vs ns:=by
 intro ns
 induction ns with
 |nil=>
  intro vs w;rw[Y2]at w;cases w;exact .nil
 |cons n ns ih=>
  intro vs w;rw[XC]at w;cases w with
  |cons a b=>
   cases a;exact .cons _ _ (ih _ b)
theorem RJ{l:OpenLaw}{n:Nat}(hn:l.most=some n){P:Params}{h:Heap}{args:List WData}{vals:List X0}
  (hpre:l.row.toRowW.claim.pre args=true) (hwl:WellAll P h vals args):
  ∃a vs ns,vals=[XD a]/\args=[WData.list (ns.map WData.int)]/\h.get? a=some {cls:=.type "list",data:=.seq vs.toArray}/\IntsAre vs ns/\ns.length≤n:=by
 have hsh:WShape.hasAll [] args [.list .int]=true:=(pre_splitW hpre).1;have hc:l.pre.holds [] {args:=args}=true:=(pre_splitW hpre).2;obtain⟨d,r,rfl,h1,h2⟩:=hasAllW_cons hsh;obtain rfl:=hasAllW_nil h2;obtain⟨xs,rfl,h3⟩:=hasW_list h1;obtain⟨ns,rfl⟩:=items_int h3;have hlen:ns.length≤n:=by
  unfold OpenLaw.pre at hc;have h4:(WTm.not (.lt (.lit (.int (n:Int))) (.len (.arg 0)))).holds [] {args:=[.list (ns.map .int)]}=true:=by
   have h4:=(holds_andW hc).1;rw[hn]at h4;exact h4
  have h5:=condW_of h4 (w_not (w_lt w_lit (w_len_list (w_arg rfl))));rw[X7]at h5;refine Nat.le_of_not_lt λq=>?_;have q':(n:Int)<((ns.length:Nat):Int):=by lia
  first
   |(rw[decide_eq_true q']at h5;exact absurd h5 (by decide))
   |(simp at h5;lia)
 cases hwl with
 |cons w1 w2=>
  cases w2;cases w1 with
  |list ho hall=>exact⟨_,_,ns,rfl,rfl,ho,RI ns _ hall,hlen⟩
theorem RK(l:OpenLaw)(args:List WData):l.row.toRowW.claim.post args (.bool true) args=true:=
 postW_of (r:=l.row.toRowW) (X:=(true==true))
  (show WShape.has [] (.bool true) .bool=true by first|rfl|decide|simp[WShape.has,WShape.arms,WShape.armsAll])
  (show(WTm.eq .res (.lit (.bool true))).value [] {args:=args,res:=some (.bool true),after:=args}=some (.bool (true==true))from w_eq_bool (w_res rfl) w_lit) rfl
theorem attach_call{l:OpenLaw}{n:Nat}{q:Xn}{loose:List Str}{XP:(Str->Option X0)->Heap->Prop}{YP:Xj->Heap->Prop}{d:DefRec}
  (hn:l.most=some n) (hdf:d.params.defaults=[])
  (call:∀(w:Xj) (s₀ s₁:X1) (mg mb:Str->Option X0) (fa:Addr) (o:Obj) (pm cd doc:X0) (a:Addr) (vs:List X0) (ns:List Int),
   Ground q loose [] XP w s₀ mg mb s₁.heap->YP w s₁.heap->
   s₁.heap.get? fa=some o->o.data=.func (docDef d.name d.params d.body d.scope pm cd doc)->s₁.heap.CodeRec cd d.name->mg d.name=some (.ref fa)->
   s₁.heap.get? a=some {cls:=.type "list",data:=.seq vs.toArray}->IntsAre vs ns->ns.length≤n->s₁.gens=#[]->
   YW (X8 l.prog w) callerA (.call (.ref fa) ⟨[.ref a],[]⟩) (λr s'=>r=.ok (.ret (.bool true))/\OldK s₁.heap s'.heap/\s'.os=s₁.os/\AllBare s'.gens) s₁):
  WalkO q loose XP YP l.row.toRowW d [] (λf vs=>PySem.call f vs):=by
 intro w s₀ s₁ mg mb G Y fa o pm cd doc dV kV ho hd hcd hD hmg hg args vals as hpre hlay hrd hwl hlo;obtain rfl:dV=.none:=Dflts.none hD hdf;obtain rfl:kV=.none:=Dflts.noKw hD;obtain⟨a,vs,ns,rfl,rfl,hobj,hints,hlen⟩:=RJ hn hpre hwl;refine enter_call (WM (call w s₀ s₁ mg mb fa o pm cd doc a vs ns G Y ho (fd_plain hd) hcd hmg hobj hints hlen hg) λr s' hq=>?_);obtain⟨rfl,h2,h3,h4⟩:=hq;exact⟨.inl ⟨.bool true,.bool true,[],rfl,λ_=>rfl,.bool true,RK l _,λ_=>⟨List.Pairwise.nil,λ_ hm=>(nomatch hm)⟩⟩,h2,h3,h4⟩
section
variable{prog:Xn}{w:Xj}{A:Xz}{E:X0->X1->Prop}{s:X1}{K:Frag}
noncomputable def ledger(h:Heap)(L d:Addr):List (Addr×Obj):=(XX h.objs.size).filterMap λa=>if a=L\/a=d then none else(h.get? a).map λo=>(a,o)
end
end Att
namespace L2
open PySem PySem.Spec PyProof.Rows
theorem Ho:∀{vs:List X0} {ns:List Int},IntsAre vs ns->Vals (ns.map V.int) vs
 |_,_,.nil=>.nil
 |_,_,.cons n t h=>.cons ⟨t,rfl⟩ (Ho h)
noncomputable def Only(H:Hp):Prop:=∀b,H b=none\/∃o xs,H b=some (.frz o (.lst xs))
theorem RL{P:Xn}{w:Xj}{K:X6}{mg mb:Str->Option X0}{CX:CXT}{k:Nat}{fa a:Addr}{fd:Xm}{x:Str}{sp:Sp}{s₁:X1}{vs:List X0}{ns:List Int}
  (KX:K.In s₁.heap) (hns:s₁.heap.Ns Xf mg) (hb:s₁.heap.Ns builtinsNs mb) (hbb:∀x:Str,x≠"__name__"->mb x=YE x) (hlim:s₁.heap.NoLimit) (hg:s₁.gens=#[])
  (ha:s₁.heap.get? a=some {cls:=.type "list",data:=.seq vs.toArray}) (hi:IntsAre vs ns) (hl:ns.length≤sizeLine) (hr:Room k callerA)
  (F:∀base:Heap,K.In base->base.Ns Xf mg->FnOk P w K mg base CX k fa fd [x] sp) (hbind:∀(s:X1) (u:X0),BindsTo s fd ⟨[u],[]⟩ [(x,u)])
  (hsp:∀H:Hp,Only H->SqL K H a (ns.map V.int)->sp [.ref a] H (λv _=>v=.bl true) λ_ _ _=>False)
  (hCX:∀H e s',CX [] H s₁ (λ_ _ _=>False) e s'->False):
  YW (X8 P w) callerA (.call (.ref fa) ⟨[.ref a],[]⟩) (λr s'=>r=.ok (.ret (.bool true))/\OldK s₁.heap s'.heap/\s'.os=s₁.os/\AllBare s'.gens) s₁:=by
 have rv:=Ho hi;have lenV:=hi.length;have core:∀H:Hp,Only H->SqL K H a (ns.map V.int)->HOk P w H s₁.heap->(∀b,H b≠none->b=a)->(H a≠none->K.lookup a=none)->
   YW (X8 P w) callerA (.call (.ref fa) ⟨[.ref a],[]⟩) (λr s'=>r=.ok (.ret (.bool true))/\OldK s₁.heap s'.heap/\s'.os=s₁.os/\AllBare s'.gens) s₁:=by
  intro H hO hS hok hA hK;have base_of:∀{b:Addr} {o:Obj},s₁.heap.get? b=some o->H b=none->(hidT s₁.heap H).get? b=some o:=λe n=>PX e n;have noA:∀{b:Addr} {o:Obj} {es:Array DictEntry} {ep:Nat},s₁.heap.get? b=some o->o.data=.dict es ep->H b=none:=fun{b o es ep} e d=>by
   cases q:H b with
   |none=>rfl
   |some u=>
    have e':b=a:=hA b (by rw[q];simp)
    subst e';rw[ha]at e;cases e;have d':Z8 vs.toArray _=Data.dict es ep:=d;cases d'
  have nsK:∀{b:Addr} {m:Str->Option X0},s₁.heap.Ns b m->(hidT s₁.heap H).Ns b m:=fun{b m} ⟨o,es,ep,e,d,r⟩=>⟨o,es,ep,base_of e (noA e d),d,r⟩;have hKb:K.In (hidT s₁.heap H):=λb o e=>base_of (KX b o e) (by
   cases q:H b with
   |none=>rfl
   |some u=>
    have e':b=a:=hA b (by rw[q];simp)
    subst e';rw[hK (by rw[q];simp)]at e;cases e)
  have hM:Mod K mg (hidT s₁.heap H):=⟨hKb,nsK hns,⟨mb,nsK hb,hbb⟩,let⟨mc,h1,h2⟩:=hlim;⟨mc,nsK h1,h2⟩⟩
  have e0:Env0 P w K mg (hidT s₁.heap H) callerA [] s₁ H:=⟨rfl,hM,λb o e=>PY e,A0 (PV _ _),trivial,λb hb=>absurd (show b∈([]:List Addr)from hb) (by simp),hok,.of_eq hg⟩
  refine WM ((F _ hKb (nsK hns)).run callerA [] s₁ H ⟨[.ref a],[]⟩ [.ref a] [.ref a] _ _ hr e0 (hbind s₁ (.ref a)) (.cons rfl .nil) (hsp H hO hS)) λr s' h=>?_;cases r with
  |error e=>exact(hCX H e s' h).elim
  |ok fl=>
   cases fl with
   |next=>exact YG h
   |brk=>exact YG h
   |cont=>exact YG h
   |ret u=>
    obtain⟨v,H',os,bare,un,hok',r',q⟩:=h;have q':v=.bl true:=q;subst q';obtain rfl:u=Yh true:=r';refine⟨rfl,OldK.of_keep λb o e=>?_,os,bare⟩;cases q:H b with
    |none=>exact un.keep b o e q (by intro z;exact absurd (show b∈([]:List Addr)from z) (by simp)) (by simp)
    |some u=>
     rcases hO b with z|⟨ob,xs,z⟩
     ·rw[q]at z;cases z
     ·have z2:=un.frzs b ob _ z;obtain⟨e1,_⟩:=hok b _ z;obtain⟨e2,_⟩:=hok' b _ z2;rw[e]at e1;cases e1;exact e2
 cases hk:K.lookup a with
 |some o=>
  have e:=KX a o hk;rw[ha]at e;cases e;refine core (λ_=>none) (λ_=>.inl rfl) (.inr ⟨_,vs.toArray,_,hk,rfl,rfl,rfl,by rw[XT,lenV];exact hl,by simpa using rv⟩) (λb u z=>by have z':(none:Option HO)=some u:=z;cases z') (λb z=>absurd rfl z) λz=>absurd rfl z
 |none=>
  refine core (fun b=>if b=a then some (.frz {cls:=.type "list",data:=.seq vs.toArray} (.lst (ns.map V.int)))else none) (fun b=>?_) (.inl (.inr ⟨{cls:=.type "list",data:=.seq vs.toArray},if_pos rfl⟩)) (fun b u z=>?_) (fun b z=>?_) fun _=>hk
  ·by_cases hb:b=a
   ·exact .inr ⟨_,_,if_pos hb⟩
   ·exact .inl (if_neg hb)
  ·by_cases hb:b=a
   ·have z':=(if_pos hb).symm.trans z;cases z';subst hb;exact⟨ha,by rw[X7];exact hl,vs,_,rv,ha⟩
   ·have z':=(if_neg hb).symm.trans z;cases z'
  ·by_cases hb:b=a
   ·exact hb
   ·exact absurd (if_neg hb) z
noncomputable abbrev KOf{K:X6}{h:Heap}(_:K.In h):X6:=K
theorem walk_of{l:D4}{n k:Nat}{q:Xn}{loose:List Str}{XP:(Str->Option X0)->Heap->Prop}{YP:Xj->Heap->Prop}{d:DefRec}{K:Params->X6}{CX:Xj->CXT}{sp:Xj->Sp}{x:Str}
  (hn:l.most=some n) (hn2:n≤sizeLine) (hdf:d.params.defaults=[]) (hr:Room k callerA)
  (hY:∀(w:Xj) (h:Heap),YP w h->(K w.params).In h)
  (F:∀(w:Xj) (mg:Str->Option X0) (fa:Addr) (h:Heap),(K w.params).In h->h.Ns Xf mg->mg d.name=some (.ref fa)->
   ∃fd:Xm,(∀(s:X1) (u:X0),BindsTo s fd ⟨[u],[]⟩ [(x,u)])/\
    ∀base:Heap,(K w.params).In base->base.Ns Xf mg->FnOk l.prog w (K w.params) mg base (CX w) k fa fd [x] (sp w))
  (hsp:∀(w:Xj) (H:Hp) (a:Addr) (ns:List Int),ns.length≤n->Only H->SqL (K w.params) H a (ns.map V.int)->sp w [.ref a] H (λv _=>v=.bl true) λ_ _ _=>False)
  (hCX:∀(w:Xj) (H:Hp) (s:X1) (e:X0) (s':X1),CX w [] H s (λ_ _ _=>False) e s'->False):
  PySem.W.WalkO q loose XP YP l.row.toRowW d [] (λf vs=>PySem.call f vs):=by
 refine Att.attach_call hn hdf λw s₀ s₁ mg mb fa o pm cd doc a vs ns G Y ho hd hcd hmg hobj hints hlen hg=>?_;have KX:=hY w _ Y;obtain⟨fd,hb,hF⟩:=F w mg fa _ KX G.T.g hmg;exact RL KX G.T.g G.T.b G.T.builtins G.T.nolimit hg hobj hints (Y3 hlen hn2) hr hF hb (λH hO hS=>hsp w H a ns hlen hO hS) λH e s'=>hCX w H s₁ e s'
end L2
/- THE LAST THEOREM (shape;LID,My.*are yours):
  My.Adr:a structure of the addresses that your layer names (classes,functions);My.Txt K t:a structure(Prop) of the equations over K;
  My.txt_mk:{K} {implicit addresses ..} (e1:nsIn K Xf "law"=some (some (.ref f))) (e2:K.lookup f=some ⟨oc,od,.func (fnOf "law" "law" params body scope dV kV doc pm an cdv ct),sl⟩) (e3:codeIn K cdv "law"=true) ..:∃t,My.Txt K t
set_option maxRecDepth 100000 in
set_option maxHeartbeats 0 in
theorem PySem.Challenge.cw_LID_holds : PySem.Challenge.rw_LID.Holds := by
 w_on;o_law;k_head;(case hw=>w_witness2)
 k_fill
 refine L2.walk_of (l:=PySem.Challenge.rw_LID) (n:=63) (k:=40) (x:="script") (CX:=fun w=>..) (sp:=fun _=>My.sp_law) rfl (by decide) rfl ⟨rfl,by decide,by decide⟩ (fun w h Y=>PySem.W.kIn_of Y) ?F ?S ?C
 case F=>
  intro w mg fa h KX G hmg;have T:∃t,My.Txt (L2.KOf KX) t:=by
   dsimp only[L2.KOf] -- K must stand as «<heap const> w.params» for k_is
   refine' My.txt_mk ?e1 ?e2 ?e3 ..
   (case e1=>PySem.W.k_is) -- in the order:a name->its address->its object->its parts
   (case e2=>PySem.W.k_is)
   ..
  obtain⟨t,T⟩:=T;have e0:=hmg.symm.trans (Xo KX G T.law);cases e0 -- fa is the law's own address
  exact⟨_,λs u=>.of_eq rfl,λbase kb nb=>My.law_fn T kb nb⟩ -- if «.of_eq rfl» comes too early:refine' ⟨_,?b,λbase kb nb=>My.law_fn T kb nb⟩;exact λs u=>.of_eq rfl
 case S=>exact λw H a ns hl hO hS=>..
 case C=>exact ..
(the tactic k_is has no namespace:write k_is) -/
namespace L2
open PySem PySem.Spec PyProof.Rows
noncomputable def Xb(s:Stmt):Arguments:=match s with
 |.FunctionDef _ a _ _ _ _ _ _ _ _=>a
 |_=>{posonlyargs:=[],args:=[],vararg:=none,kwonlyargs:=[],kw_defaults:=[],kwarg:=none,defaults:=[]}
noncomputable def X5(s:Stmt):List Stmt:=match s with
 |.FunctionDef _ _ b _ _ _ _ _ _ _=>b
 |_=>[]
noncomputable def X2(s:Stmt):Scope:=match s with
 |.FunctionDef _ _ _ _ _ _ sc _ _ _=>sc
 |_=>{kind:=.function,names:=[],isGenerator:=false,isCoroutine:=false}
noncomputable abbrev CX0:CXT:=λ_ _ _ _ _ _=>False
noncomputable abbrev E0:XK:=λ_ _ _=>False
theorem RN{X:Cx}:Dv CX0 X E0:=λ_ _ _ _ _ _ _ h=>h.elim
structure Fun (K:X6) (x qual:Str) (st:Stmt) (f:Addr) (fd:Xm):Prop where
 ex:∃(oc:X0) (od:Option Addr) (kV doc pm:X0) (an:Option Addr) (cdv ct:X0) (osl:Array (Option X0)),
  fd=X9 x qual (Xb st) (X5 st) (X2 st) .none kV doc pm an cdv ct/\K.lookup f=some ⟨oc,od,.func fd,osl⟩/\Xu K cdv qual=true
 kp:Xr K (.ref f)=true
section
variable{P:Xn}{w:Xj}{K:X6}{mg:Str->Option X0}{base:Heap}
theorem Fun.ok{x qual:Str}{st:Stmt}{f:Addr}{fd:Xm}{N ps:List Str}{k:Nat}{sp:Sp}(F:Fun K x qual st f fd)(S:FnScope N ps (X2 st))(len:∀vs H Q E,sp vs H Q E->vs.length=ps.length)
  (hbody:∀(cdv:X0) (A:Xz) (outer:List Env) (s:X1) (H:Hp) (vs:List V) (Q:VK) (E:XK),Room k (A.deeper (envOfC qual (X2 st) s.heap.objs.size f cdv))->sp vs H Q E->
   ∃t,PSs (cxOf CX0 P w K mg base N qual (X2 st) f cdv A outer s H E).nox (X5 st) t/\t {nx:=λ_ H'=>Q .non H',rt:=Q} (UI N vs) H):FnOk P w K mg base CX0 (k+1) f fd ps sp:=by
 obtain⟨oc,od,kV,doc,pm,an,cdv,ct,osl,rfl,lk,hcd⟩:=F.ex;refine QZ lk hcd S len λA outer s H vs Q E hr hsp=>?_;obtain⟨t,h,q⟩:=hbody cdv A outer s H vs Q E hr hsp;exact⟨t,h.nox,q⟩
theorem Fun.binds{x qual:Str}{st:Stmt}{f:Addr}{fd:Xm}{ps:List Str}(F:Fun K x qual st f fd)
  (h:∀(kV doc pm:X0) (an:Option Addr) (cdv ct:X0) (us:List X0),us.length=ps.length->bindArgs (X9 x qual (Xb st) (X5 st) (X2 st) .none kV doc pm an cdv ct) ⟨us,[]⟩=pure (ps.zip us)):Binds K fd ps []:=by
 obtain⟨oc,od,kV,doc,pm,an,cdv,ct,osl,rfl,lk,hcd⟩:=F.ex;exact .all (h kV doc pm an cdv ct)
theorem Xe{x qual:Str}{st:Stmt}{f:Addr}{oc:X0}{od an:Option Addr}{osl:Array (Option X0)}{kV doc pm cdv ct:X0}(l:K.lookup f=some ⟨oc,od,.func (X9 x qual (Xb st) (X5 st) (X2 st) .none kV doc pm an cdv ct),osl⟩)
  (c:Xu K cdv qual=true) (k:Xr K (.ref f)=true):Fun K x qual st f (X9 x qual (Xb st) (X5 st) (X2 st) .none kV doc pm an cdv ct):=⟨⟨oc,od,kV,doc,pm,an,cdv,ct,osl,rfl,l,c⟩,k⟩
end
section
variable{X:Cx}
theorem pv(i:Nat){x:Str}{pos:Pos}(hN:X.N[i]?=some x:=by rfl) (hv:Vis X.env.scope x:=by first|exact Or.inl rfl|exact Or.inr (Or.inl rfl)|exact Or.inr (Or.inr rfl)) (hd:(x==("__debug__":Str))=false:=by decide)
  (hcd:(x==("__classdict__":Str))=false:=by decide):PE X (.Name x pos) (tVar i):=GA hN hv hd hcd
end
noncomputable def Same(H H':Hp):Prop:=∀b o,H b=some o->H' b=some o
theorem Same.trans{H H1 H2:Hp}(a:Same H H1)(b:Same H1 H2):Same H H2:=λc o h=>b c o (a c o h)
theorem Same.free{H H':Hp}(e:Same H H'){l:Addr}(h:H' l=Option.none):H l=Option.none:=by
 cases q:H l with
 |none=>rfl
 |some o=>
  rw[e l o q]at h;cases h
section
variable{X:Cx}
theorem RP:CallR X (.builtin "len") (fun xs H Q=>∃a kvs,xs=[V.ref a]/\H a=some (.dK kvs)/\Q (.int kvs.length) H):=by
 intro pins s σ H xs us Q I r h;obtain⟨a,kvs,rfl,ha,q⟩:=h;obtain⟨u,rfl,ru⟩:=YR r;cases ru;exact RA I (.inl ha) λt s' I'=>⟨.int kvs.length,H,I',⟨t,rfl⟩,q⟩
end
section
variable{κ:Type} [DecidableEq κ]
theorem Hq:∀{l:List κ} {k:κ},l.Nodup->¬k∈l->(l++[k]).Nodup
 |[],k,_,_=>by simp
 |a::r,k,h,hk=>by
  obtain⟨h1,h2⟩:=YO.mp h;show(a::(r++[k])).Nodup;refine YO.mpr ⟨λm=>?_,Hq h2 λm=>hk (Xt.mpr (Or.inr m))⟩;rcases YA.mp m with q|q
  ·exact h1 q
  ·exact hk (Xt.mpr (Or.inl (Yk.mp q).symm))
end
section
variable{X:Cx}
noncomputable def Ag(i j:Int):Prop:=0<j/\j<2^256
theorem RQ{j:Int}(h:Ag i j):j.natAbs.log2<9000:=by
 have h1:(0:Int)<j:=h.1;have h2:j<2^256:=h.2;have h0:j.natAbs≠0:=by lia
 have:j.natAbs<2^256:=by lia
 have:=(Nat.log2_lt h0).mpr this;lia
theorem RT:OpR X (Uw .FloorDiv) (rI Ag λi j=>.int (i/j)):=opI λi j _ _ _ _ _ hc q=>by
 have h1:(0:Int)<j:=hc.1;exact floordiv_int (by lia) (by rw[Int.fdiv_eq_ediv_of_nonneg i (by lia)];exact q) (.inl (PyProof.noPylong_of_log2 (RQ hc)))
theorem RU:CallR X (.builtin "isinstance") (fun xs H Q=>∃x c t b,xs=[x,.ty c]/\TyOf X.K H x t/\Vt X.K t (.type c)=some b/\Q (.bl b) H):=by
 intro pins s σ H xs us Q I r h;obtain⟨x,c,t,b,rfl,ty,e,q⟩:=h;obtain⟨u,w',rfl,ru,rw'⟩:=Wk r;cases rw';exact QS I ru ty e λtk=>⟨.bl b,H,I.tok tk,rfl,q⟩
end
mutual
inductive Dp (K:X6) (H:Hp):V->Yx->Prop
 |non:Dp K H .non .none
 |bl (b:Bool):Dp K H (.bl b) (.bool b)
 |int (i:Int):Dp K H (.int i) (.int i)
 |str (x:Str):Dp K H (.str x) (.str x)
 |lst {a:Addr} {xs:List V} {ds:List Yx}:SqL K H a xs->DpAll K H xs ds->Dp K H (.ref a) (.list ds)
 |tup {a:Addr} {xs:List V} {ds:List Yx}:SqT K H a xs->DpAll K H xs ds->Dp K H (.ref a) (.tuple ds)
inductive DpAll (K:X6) (H:Hp):List V->List Yx->Prop
 |nil:DpAll K H [] []
 |cons {x:V} {xs:List V} {d:Yx} {ds:List Yx}:Dp K H x d->DpAll K H xs ds->DpAll K H (x::xs) (d::ds)
end
section
variable{X:Cx}{pins:List (Addr×Obj)}{σ:St}{H:Hp}{s:X1}
mutual
theorem Dp.reads(I:Inv X pins σ H s):∀{x:V} {d:Yx} {u:X0},Dp X.K H x d->RelV x u->∃as,Reads s.heap u d as
 |_,_,_,.non,r=>by cases r;exact⟨_,.none⟩
 |_,_,_,.bl b,r=>by cases r;exact⟨_,.bool b⟩
 |_,_,_,.int i,r=>by obtain⟨t,rfl⟩:=r;exact⟨_,.int i t⟩
 |_,_,_,.str x,r=>by obtain⟨t,rfl⟩:=r;exact⟨_,.str x t⟩
 |_,_,_,.lst hq ha,r=>by
  cases r;obtain⟨its,rv,pl,hz⟩:=I.list hq;obtain⟨as,rs⟩:=DpAll.reads I ha rv;obtain⟨o,ho,hc,n,hd⟩:=pl.isList;exact⟨_,.list ho hc hd (by simpa using rs)⟩
 |_,_,_,.tup hq ha,r=>by
  cases r;obtain⟨its,rv,pl,hz⟩:=I.tuple hq;obtain⟨as,rs⟩:=DpAll.reads I ha rv;obtain⟨o,ho,hc,n,hd⟩:=pl;exact⟨_,.tuple ho hc hd (by simpa using rs)⟩
theorem DpAll.reads(I:Inv X pins σ H s):∀{xs:List V} {ds:List Yx} {us:List X0},DpAll X.K H xs ds->Vals xs us->∃as,ReadsAll s.heap us ds as
 |_,_,_,.nil,r=>by cases r;exact⟨_,.nil⟩
 |_,_,_,.cons h t,r=>by
  cases r with
  |cons r1 r2=>
   obtain⟨as,a⟩:=Dp.reads I h r1;obtain⟨bs,b⟩:=DpAll.reads I t r2;exact⟨_,.cons a b⟩
end
end
section
variable{X:Cx}
end
end L2
namespace L2
end L2
namespace L2
open PySem PySem.Spec PyProof.Rows
noncomputable def clOf(cells:List (Str×Addr)):List (Str×Zc)->List (Str×Addr)->List (Str×Addr)
 |[],acc=>acc
 |(n,k)::r,acc=>if k=.free then(match cells.lookup n with|some a=>clOf cells r ((n,a)::acc)|none=>clOf cells r acc)else clOf cells r acc
theorem Ah(cells:List (Str×Addr)):∀(names:List (Str×Zc)) (acc:List (Str×Addr)) (x:Str) (c:Addr),(clOf cells names acc).lookup x=some c->acc.lookup x=some c\/cells.lookup x=some c
 |[],acc,x,c,h=>.inl h
 |(n,k)::r,acc,x,c,h=>by
  unfold clOf at h;by_cases hk:k=.free
  ·rw[if_pos hk]at h;cases hc:cells.lookup n with
   |none=>rw[hc]at h;exact Ah cells r acc x c h
   |some a=>
    rw[hc]at h;rcases Ah cells r _ x c h with q|q
    ·by_cases hx:x=n
     ·subst hx;simp at q;subst q;exact .inr hc
     ·have hb:(x==n)=false:=beq_eq_false_iff_ne.mpr hx;simp only[UA,hb]at q;exact .inl q
    ·exact .inr q
  ·rw[if_neg hk]at h;exact Ah cells r acc x c h
theorem BH(cells:List (Str×Addr)):∀(names:List (Str×Zc)) (acc:List (Str×Addr)) (x:Str) (c:Addr),cells.lookup x=some c->acc.lookup x=some c->(clOf cells names acc).lookup x=some c
 |[],acc,x,c,_,h=>h
 |(n,k)::r,acc,x,c,h,ha=>by
  unfold clOf;by_cases hk:k=.free
  ·rw[if_pos hk];cases hc:cells.lookup n with
   |none=>exact BH cells r acc x c h ha
   |some a=>
    refine BH cells r _ x c h ?_;by_cases hx:x=n
    ·subst hx;rw[h]at hc;cases hc;simp
    ·have hb:(x==n)=false:=beq_eq_false_iff_ne.mpr hx;simp only[UA,hb];exact ha
  ·rw[if_neg hk];exact BH cells r acc x c h ha
theorem Ai(cells:List (Str×Addr)):∀(names:List (Str×Zc)) (acc:List (Str×Addr)) (x:Str) (c:Addr),(x,Yr)∈names->cells.lookup x=some c->(clOf cells names acc).lookup x=some c
 |[],acc,x,c,h,_=>by cases h
 |(n,k)::r,acc,x,c,h,ha=>by
  unfold clOf;rcases Xt.mp h with e|h
  ·cases e;rw[if_pos rfl,ha];exact BH cells r _ _ c ha (by simp)
  ·by_cases hk:k=.free
   ·rw[if_pos hk];cases hc:cells.lookup n with
    |none=>exact Ai cells r acc x c h ha
    |some a=>exact Ai cells r _ x c h ha
   ·rw[if_neg hk];exact Ai cells r acc x c h ha
theorem DF{env:Env}(f:Str×Zc->List (Str×Addr)->Sem (ForInStep (List (Str×Addr))))
  (hf:∀n k r,f (n,k) r=if(k==Yr)=true then(cellOf env n >>= λa=>pure (Bz ((n,a)::r)))else pure (Bz r)):
  ∀(names:List (Str×Zc)) (acc:List (Str×Addr)),(∀y∈names,y.2=.free->∃c,env.cells.lookup y.1=some c)->(forIn names acc f:Sem (List (Str×Addr)))=pure (clOf env.cells names acc)
 |[],acc,_=>by rw[List.forIn_nil];rfl
 |(n,k)::r,acc,h=>by
  rw[List.forIn_cons,hf];have hr:∀y∈r,y.2=.free->∃c,env.cells.lookup y.1=some c:=λy hy=>h y (Ya _ hy);by_cases hk:k=.free
  ·subst hk;obtain⟨c,hc⟩:=h (n,.free) Yg rfl;have hc':env.cells.lookup n=some c:=hc;have e:cellOf env n=pure c:=by unfold cellOf;rw[hc']
   rw[if_pos (by decide),e,pure_bind,pure_bind]
   show forIn r ((n,c)::acc) f=_;rw[DF f hf r _ hr];simp only[clOf,if_pos,hc']
  ·have hb:(k==Yr)=false:=by simpa using hk
   rw[hb,if_neg XG,pure_bind];show forIn r acc f=_;rw[DF f hf r _ hr];simp only[clOf,if_neg hk]
theorem Hr{scope:Scope}{env:Env}(h:∀y∈scope.names,y.2=.free->∃c,env.cells.lookup y.1=some c):closureFor scope env=pure (clOf env.cells scope.names []):=by
 unfold closureFor;simp only[bind_pure];exact DF _ (λn k r=>by
  by_cases hk:(k==Yr)=true
  ·simp only[hk,if_true]
  ·simp only[hk,if_false]) scope.names [] h
noncomputable def Wl(osc scope:Scope)(N own:List Str)(fr:List Nat):Bool:=
 decide (scope.kind=.function)&&scope.names.all (λy=>decide (y.2≠.cell))&&scope.names.all (λy=>decide (y.2=.local->scope.names.lookup y.1=some .local))&&
 scope.names.all (λy=>decide (y.2=.free->osc.names.lookup y.1=some .cell\/osc.names.lookup y.1=some .free))&&
 fr.all (λi=>match N[i]? with|some x=>decide ((x,Yr)∈scope.names/\scope.names.lookup x=some .free/\(osc.names.lookup x=some .cell\/osc.names.lookup x=some .free))|none=>false)
structure CompOk (osc scope:Scope) (N:List Str) (fr:List Nat):Prop where
 kind:scope.kind=.function
 nocell:∀y∈scope.names,y.2≠.cell
 names:∀y∈scope.names,y.2=.local->scope.names.lookup y.1=some .local
 has:∀y∈scope.names,y.2=.free->osc.names.lookup y.1=some .cell\/osc.names.lookup y.1=some .free
 frees:∀i∈fr,∃x,N[i]?=some x/\(x,Yr)∈scope.names/\scope.names.lookup x=some .free/\(osc.names.lookup x=some .cell\/osc.names.lookup x=some .free)
theorem Wm{osc scope:Scope}{N own:List Str}{fr:List Nat}(h:Wl osc scope N own fr=true):CompOk osc scope N fr:=by
 unfold Wl at h;simp only[Yp,List.all_eq_true,decide_eq_true_eq]at h;obtain⟨⟨⟨⟨h1,h2⟩,h3⟩,h4⟩,h5⟩:=h;refine⟨h1,h2,h3,h4,λi hi=>?_⟩;have q:=h5 i hi;cases e:N[i]? with
 |none=>rw[e]at q;simp at q
 |some x=>rw[e]at q;simp only[decide_eq_true_eq]at q;exact⟨x,rfl,q⟩
noncomputable def sC(own:List Str)(fr:List Nat)(σ:St):St:=own.map (λ_=>none)++fr.map (λi=>σ.getD i none)
noncomputable def nC(own:List Str)(fr:List Nat)(N:List Str):List Str:=own++fr.map (λi=>N.getD i Wc)
noncomputable def cxC(X:Cx)(scope:Scope)(own:List Str)(fr:List Nat)(C:Addr)(fp:List Addr)(s₃:X1)(H₃:Hp):Cx:=
 {X with N:=nC own fr X.N,s₀:=s₃,H₀:=H₃,env:=compEnvC scope (clOf X.env.cells scope.names []) C X.env,outer:=X.stack,ex:=fp,fn:=λ_=>false,xe:=λ_ _=>False}
noncomputable def Keep(σ σ':St):Prop:=σ.length=σ'.length/\∀(i:Nat) (v:V),σ[i]?=some (some v)->σ'[i]?=some (some v)
noncomputable def tAll:TT:=λ_ H Q=>Q true H
noncomputable def PTs(X:Cx)(ifs:List Expr)(t:TT):Prop:=(ifs=[]/\t=tAll)\/∃c,ifs=[c]/\PT X c t
section
variable{prog:Xn}{w:Xj}{A:Xz}{R:Result->X1->Prop}{s:X1}
theorem RV{elt target iter:Expr}{ifs:List Expr}{scope:Scope}{pos:Pos}{it acc:X0}{env:Env}(I:Nat->X1->Prop)
  (turn:∀n s,I n s->X4 (X8 prog w) A (YV it) (λr s₁=>match r with
   |none=>R (.ok .next) s₁
   |some v=>X4 (X8 prog w) A (AX target it v) (λ_ s₁'=>X4 (X8 prog w) A (assign target env v) (λ_ s₂=>
     X4 (X8 prog w) A (forIn ifs true λc r=>if r=true then do let ok<- isTrue c env (eval c env);pure (Bz ok)else pure (Bz r)) (λok s₃=>
      if ok=true then X4 (X8 prog w) A (eval elt env) (λx s₄=>
       X4 (X8 prog w) A (call (.builtin "list.append") [acc,x]) (fun _ s₅=>∃m,m<n/\I m s₅) (fun _ _=>False) s₄) (fun _ _=>False) s₃
      else∃m,m<n/\I m s₃) (λ_ _=>False) s₂) (λ_ _=>False) s₁') (λ_ _=>False) s₁) (λ_ _=>False) s)
  (n:Nat) (h:I n s):
  YW (X8 prog w) A (.compLoop (.ListComp elt [⟨target,iter,ifs,0⟩] scope pos) 0 it acc env) R s:=by
 refine codeAny_loop rfl I (λn s hI=>?_) n h;show X4 _ A ((compTurn (.ListComp elt [⟨target,iter,ifs,0⟩] scope pos) 0 it acc env).onRaise (λx=>do noteFrame x env;theTreesLotGoes x)) _ _ s
 refine wpAny_noted ?_;rw[compTurn_list];refine X3 (wpAny_standAt (X3 (Ut (turn n s hI) (λr s₁ h₁=>?_) λ_ _ h'=>h'.elim)));cases r with
 |none=>exact Xa h₁
 |some v=>
  refine X3 (Ut h₁ (λ_ s₁' h₁'=>?_) λ_ _ h'=>h'.elim);refine X3 (Ut h₁' (λ_ s₂ h₂=>X3 (Ut h₂ (λok s₃ h₃=>?_) λ_ _ h'=>h'.elim)) λ_ _ h'=>h'.elim);cases ok with
  |false=>exact Xa ⟨rfl,h₃⟩
  |true=>
   exact X3 (X3 (Ut h₃ (λx s₄ h₄=>X3 (Ut h₄ (λ_ s₅ h₅=>Xa (Xa ⟨rfl,h₅⟩)) λ_ _ h'=>h'.elim)) λ_ _ h'=>h'.elim))
end
theorem RW{σ:St}{H:Hp}{Q:Bool->Hp->Prop}(h:Q true H):tAll σ H Q:=h
section
variable{X:Cx}{pins:List (Addr×Obj)}{σ:St}{H1:Hp}{s2:X1}{tg elt iter:Expr}{ifs:List Expr}{scope:Scope}{pos:Pos}{own:List Str}{fr:List Nat}{g:TG}{tt:TT}{te:TE}
theorem Hs{scope:Scope}{env:Env}{x:Str}:∀{names:List (Str×Zc)},names.lookup x=some .free->
  (names.map fun(n,k)=>if(k==Yr&&env.scope.kind==.function&&env.kindOf n==some .cell)then(n,Wb)else(n,k)).lookup x=some .cell\/
  (names.map fun(n,k)=>if(k==Yr&&env.scope.kind==.function&&env.kindOf n==some .cell)then(n,Wb)else(n,k)).lookup x=some .free
 |[],h=>by simp at h
 |(n,k)::r,h=>by
  have ih:=@Hs scope env x r;show List.lookup x ((if(k==Yr&&env.scope.kind==.function&&env.kindOf n==some .cell)=true then(n,Wb)else(n,k))::_)=_\/List.lookup x ((if(k==Yr&&env.scope.kind==.function&&env.kindOf n==some .cell)=true then(n,Wb)else(n,k))::_)=_;cases hx:x==n with
  |true=>
   simp only[UA,hx]at h;cases h;by_cases hc:(Yr==Yr&&env.scope.kind==.function&&env.kindOf n==some .cell)=true
   ·rw[if_pos hc];simp only[UA,hx];exact .inl trivial
   ·rw[if_neg hc];simp only[UA,hx];exact .inr trivial
  |false=>
   simp only[UA,hx]at h;by_cases hc:(k==Yr&&env.scope.kind==.function&&env.kindOf n==some .cell)=true
   ·rw[if_pos hc];simp only[UA,hx];exact ih h
   ·rw[if_neg hc];simp only[UA,hx];exact ih h
theorem Ht{scope:Scope}{env:Env}(hn:∀y∈scope.names,y.2≠.cell){x:Str}:∀{names:List (Str×Zc)},(∀y∈names,y.2≠.cell)->
  ((names.map fun(n,k)=>if(k==Yr&&env.scope.kind==.function&&env.kindOf n==some .cell)then(n,Wb)else(n,k)).lookup x=some .cell\/
  (names.map fun(n,k)=>if(k==Yr&&env.scope.kind==.function&&env.kindOf n==some .cell)then(n,Wb)else(n,k)).lookup x=some .free)->(x,Yr)∈names
 |[],_,h=>by simp at h
 |(n,k)::r,hnc,h=>by
  have ih:=@Ht scope env hn x r (λy hy=>hnc y (Ya _ hy));have hk:k≠.cell:=hnc (n,k) Yg;simp only[XC]at h;cases hx:x==n with
  |true=>
   have e:x=n:=eq_of_beq hx;subst e;by_cases hc:(k==Yr&&env.scope.kind==.function&&env.kindOf x==some .cell)=true
   ·have:k=.free:=by
     simp only[Yp,beq_iff_eq]at hc;exact hc.1.1
    subst this;exact Yg
   ·rw[if_neg hc]at h;simp at h;rcases h with h|h
    ·exact absurd h hk
    ·subst h;exact Yg
  |false=>
   by_cases hc:(k==Yr&&env.scope.kind==.function&&env.kindOf n==some .cell)=true
   ·rw[if_pos hc]at h;simp only[UA,hx]at h;exact Ya _ (ih h)
   ·rw[if_neg hc]at h;simp only[UA,hx]at h;exact Ya _ (ih h)
theorem RX{C:Addr}{fp:List Addr}{s3:X1}{H3:Hp}{h4:Heap}{tk:Nat}{m:Str->Option X0}(ok:CompOk X.env.scope scope X.N fr)(I3:Inv X pins σ H3 s3)(hC:C=s3.heap.objs.size)(hf:∀b∈fp,FpOk X pins H3 b)(hfo:∀b∈fp,∃o,s3.heap.get? b=some o)
  (ns:h4.Ns C m) (kp:∀b o,s3.heap.get? b=some o->h4.get? b=some o):
  Inv (cxC X scope own fr C fp s3 H3) pins (sC own fr σ) H3 {s3 with heap:=h4,toks:=tk}:=by
 have cellsub:∀x c,(clOf X.env.cells scope.names []).lookup x=some c->X.env.cells.lookup x=some c:=λx c h=>(Ah _ _ _ _ _ h).elim (λz=>by simp at z) id
 have cellt:∀x c,X.env.cells.lookup x=some c->c<s3.heap.objs.size:=λx c e=>let⟨v,q⟩:=I3.cell x c e;q.lt
 have fplt:∀b∈fp,b<s3.heap.objs.size:=λb hb=>let⟨o,e⟩:=hfo b hb;XA e
 have kindOf_of:∀x,(X.env.scope.names.lookup x=some .cell\/X.env.scope.names.lookup x=some .free)->∃c,X.env.cells.lookup x=some c:=λx h=>I3.ok.has x h;refine⟨⟨I3.ok.mod,ok.kind,I3.ok.glob,I3.ok.blt,A0 hC.symm,λx y c h1 h2=>I3.ok.inj x y c (cellsub x c h1) (cellsub y c h2),λx hx=>?_,λx c z=>?_,I3.ok.hd,I3.ok.frames,.inl rfl,λb hb=>⟨?_,λx c e=>?_⟩,λb o e=>I3.bs b o e,Y3 I3.ok.bsz I3.sz,λb o e hb=>?_,λb hb hz=>?_,I3.stack,λb hb=>I3.stkFree b hb⟩,
  rfl,I3.bare,Un.kept kp,⟨m,ns,λi x v e1 e2 e3=>?_⟩,λx c e=>?_,?_,λx c e=>I3.freeC x c (cellsub x c e),λp hp=>?_,I3.hok.kept kp,?_⟩
 · -- has
  have hm:(x,Yr)∈scope.names:=Ht (scope:=scope) (env:=X.env) ok.nocell ok.nocell hx;obtain⟨c,hc⟩:=kindOf_of x (ok.has _ hm rfl);exact⟨c,Ai _ _ _ _ _ hm hc⟩
 ·exact absurd z XG
 ·exact XH (by rw[hC];exact fplt b hb)
 ·exact(hf b hb).2.2.2.2.1 x c (cellsub x c e)
 ·rcases(hf b hb).2.2.2.1 with z|z
  ·exact I3.ok.noex b o e z
  ·exact absurd (YQ (XA e) (Y3 I3.ok.bsz z)) (Vv _)
 ·rcases Xt.mp (I3.stkSub b hz)with z|z
  ·exact(hf b hb).2.1 z
  ·exact(hf b hb).2.2.1 z
 · -- a free name's value
  have e2':(own.map (λ_=>(none:Option V))++fr.map (λi=>σ.getD i none))[i]?=some (some v):=e2;have e1':(own++fr.map (λi=>X.N.getD i Wc))[i]?=some x:=e1;by_cases hi:i<own.length
  ·rw[Uy (by simpa using hi),Xq]at e2'
   cases q:own[i]? with
   |none=>rw[q]at e2';cases e2'
   |some z=>rw[q]at e2';cases e2'
  ·rw[Ug (by simpa using hi)]at e2'
   rw[Ug (by simpa using hi)]at e1'
   simp only[X7]at e2';rw[Xq]at e1' e2';cases q:fr[i - own.length]? with
   |none=>rw[q]at e2';cases e2'
   |some j=>
    rw[q]at e1' e2';obtain⟨y,hy,hm,hl,ho⟩:=ok.frees j (XI q);have ex:x=y:=by
     have:X.N.getD j Wc=y:=by rw[Yc,hy];rfl
     simp only[Option.map_some,this,Bn]at e1';exact e1'.symm
    subst ex;have ev:σ[j]?=some (some v):=by
     simp only[Option.map_some,Bn]at e2';rw[Yc]at e2';cases z:σ[j]? with
     |none=>rw[z]at e2';cases e2'
     |some o=>rw[z]at e2';cases e2';rfl
    obtain⟨m0,hn0,hl0⟩:=I3.loc;obtain⟨u,ru,lk⟩:=hl0 j x v hy ev (.inr ho);refine⟨u,ru,.inr ⟨Hs (scope:=scope) hl,?_⟩⟩;rcases lk with⟨k1,_⟩|⟨_,c,hc,z⟩
    ·have k1':X.env.scope.names.lookup x=some .local:=k1;rw[k1']at ho;rcases ho with z|z<;>cases z
    ·exact⟨c,Ai _ _ _ _ _ hm hc,z.keeps kp⟩
 ·obtain⟨v,z⟩:=I3.cell x c (cellsub x c e);exact⟨v,z.keeps kp⟩
 ·show H3 C=none;exact I3.hok.fresh (A0 hC.symm)
 ·obtain⟨e,n,ne,nf,d⟩:=I3.pin p hp;refine⟨kp _ _ e,n,XH (by rw[hC];exact XA e),λz=>?_,d⟩
  rcases Xt.mp (I3.stkSub p.1 z)with z|z
  ·exact ne z
  ·exact nf z
 ·show(own.map (λ_=>(none:Option V))++fr.map (λi=>σ.getD i none)).length=(own++fr.map (λi=>X.N.getD i Wc)).length;simp
end
section
variable{X:Cx}
theorem RY(hc:X.calm=true):CallR X (.builtin "min") (fun xs H Q=>∃(p:Addr) (ns:List Int),xs=[.ref p]/\SqL X.K H p (ns.map V.int)/\0<ns.length/\∀M,M∈ns->(∀a∈ns,M≤a)->Q (.int M) H):=by
 intro pins s σ H xs us Q I r h;obtain⟨p,ns,rfl,hq,hne,q⟩:=h;obtain⟨u,rfl,ru⟩:=YR r;cases ru;obtain⟨its,rv,pl,hz⟩:=I.list hq;have hi:IntsAre its ns:=Dw rv;obtain⟨xs,e⟩:=hi.allInts.items;have hns:ns=xs.toList.map (·.1):=by rw[<- hi.numsOf,<- nums_intItems,<- e]
 have hsz:0<xs.size:=by
  have h3:=hne;rw[hns,X7,XU]at h3;exact h3
 have hl:=pl.isList;rw[e]at hl;refine min_intList (I.ok.hd hc) hl hsz λv h' tk hv hk=>?_;obtain⟨t,rfl⟩:=intItems_at hv;obtain⟨h1,h2⟩:=argBest_lt (numAt xs) (xs.size - 1);refine⟨.int _,H,I.kept hk,⟨t,rfl⟩,q _ ?_ λa ha=>?_⟩
 ·rw[hns,numAt_eq];exact getD_mem (by rw[X7,XU];lia)
 ·rw[hns]at ha;obtain⟨j,hj,rfl⟩:=mem_getD ha;rw[X7,XU]at hj;rw[<- numAt_eq];exact h2 j (by lia)
theorem RZ(hc:X.calm=true):CallR X (.builtin "max") (fun xs H Q=>∃(p:Addr) (ns:List Int),xs=[.ref p]/\SqL X.K H p (ns.map V.int)/\0<ns.length/\∀M,M∈ns->(∀a∈ns,a≤M)->Q (.int M) H):=by
 intro pins s σ H xs us Q I r h;obtain⟨p,ns,rfl,hq,hne,q⟩:=h;obtain⟨u,rfl,ru⟩:=YR r;cases ru;obtain⟨its,rv,pl,hz⟩:=I.list hq;have hi:IntsAre its ns:=Dw rv;obtain⟨xs,e⟩:=hi.allInts.items;have hns:ns=xs.toList.map (·.1):=by rw[<- hi.numsOf,<- nums_intItems,<- e]
 have hsz:0<xs.size:=by
  have h3:=hne;rw[hns,X7,XU]at h3;exact h3
 have hl:=pl.isList;rw[e]at hl;refine max_intList (I.ok.hd hc) hl hsz λv h' tk hv hk=>?_;obtain⟨t,rfl⟩:=intItems_at hv;obtain⟨h1,h2⟩:=argBest_gt (numAt xs) (xs.size - 1);refine⟨.int _,H,I.kept hk,⟨t,rfl⟩,q _ ?_ λa ha=>?_⟩
 ·rw[hns,numAt_eq];exact getD_mem (by rw[X7,XU];lia)
 ·rw[hns]at ha;obtain⟨j,hj,rfl⟩:=mem_getD ha;rw[X7,XU]at hj;rw[<- numAt_eq];exact h2 j (by lia)
end
section
variable{X:Cx}
end
section
variable{X:Cx}
end
section
variable{X:Cx}
theorem S0{z:Str}{i:Int}(hz:z.length≤16)(h0:-1000≤i)(h1:i≤1000):MulOk z i:=by
 refine⟨?_,λh2 _=>?_,λh2 _=>?_⟩
 ·rw[decide_eq_false (by lia),decide_eq_false (by lia)];rfl
 ·have hi:1≤i:=by lia
  have:(16:Int)≤(2^63 - 1)/i:=by
   rw[Int.le_ediv_iff_mul_le (by lia)]
   lia
  lia
 ·have:z.length*i.toNat≤16*1000:=Nat.mul_le_mul hz (by lia)
  have h3:z.length*i.toNat<2^20:=by lia
  generalize z.length*i.toNat=n at h3;revert n;intro n hn;have hs:sizeLine=16777216:=by decide
  show decide (n>sizeLine)=false;rw[hs];exact decide_eq_false (by lia)
theorem S1:OpR X (Uw .Mult) (λx y H Q=>∃z i,x=.str z/\y=.int i/\z.length≤16/\ -1000≤i/\i≤1000/\Q (.str (Txt.mul z i)) H):=by
 intro pins s σ H x y v u Q I rx ry h;obtain⟨z,i,rfl,rfl,hz,h0,h1,q⟩:=h;obtain⟨t,rfl⟩:=rx;obtain⟨t',rfl⟩:=ry;exact SB.mul (S0 hz h0 h1) (λt' k=>⟨.str (Txt.mul z i),H,I.tok _,⟨_,rfl⟩,q⟩)
theorem Hu(x:Array Nat):∀(k:Nat) (acc:Array Nat),((Ze k x).foldl (·++·) acc).size=acc.size+k*x.size
 |0,acc=>by simp
 |k+1,acc=>by
  rw[CP,W7,Hu x k,Array.size_append,Nat.succ_mul];lia
theorem S2(z:Str)(i:Int):(Txt.mul z i).length=i.toNat*z.length:=by
 unfold Txt.mul;by_cases h:i<1
 ·rw[if_pos h];have:i.toNat=0:=by lia
  rw[this,Nat.zero_mul]
  rfl
 rw[if_neg h];by_cases h2:(i==1||z.length==0)=true
 ·rw[if_pos h2];rcases(D7 _ _).mp h2 with e|e
  ·have:i=1:=by simpa using e
   subst this;simp
  ·have:z.length=0:=by simpa using e
   rw[this,Nat.mul_zero]
 ·rw[if_neg h2];have e:=Hu z.cps i.toNat #[];show((Ze i.toNat z.cps).foldl (·++·) #[]).size=_;rw[e];show 0+_=_;rw[Nat.zero_add]
  rfl
theorem BJ{z:Str}{i:Int}(m:Nat)(h:i≤m)(hz:z.length≤1):(Txt.mul z i).length≤m:=by
 rw[S2];have:i.toNat*z.length≤i.toNat*1:=Nat.mul_le_mul_left _ hz;lia
theorem S3(hu:X.A.units<cLine):OpR X (Y0 .Eq) (λx y H Q=>∃a b xs,x=.ref a/\y=.ref b/\SqL X.K H a xs/\SqL X.K H b []/\Q (.bl xs.isEmpty) H):=by
 intro pins s σ H x y v u Q I rx ry h;obtain⟨a,b,xs,rfl,rfl,ha,hb,q⟩:=h;cases rx;cases ry;obtain⟨its,rv,pl,hz⟩:=I.list ha;obtain⟨jts,rw',pl',_⟩:=I.list hb;have hj:jts=[]:=B6 rw'.length.symm;subst hj;cases xs with
 |nil=>
  have hi:its=[]:=B6 rv.length.symm;subst hi;exact SeqAt.eq_listAt (e:=λ_=>true) pl.isList pl'.isList rfl hu (λj h1 _=>absurd h1 (Db j)) (XQ I q rfl)
 |cons x r=>
  have hl:its.length=r.length+1:=by rw[<- rv.length];rfl
  exact SeqAt.eq_list_lengthsAt pl.isList pl'.isList (by simp;intro e;rw[e]at hl;simp at hl) hu (XQ I q rfl)
theorem S4(hu:X.A.units<cLine):OpR X (Y0 .NotEq) (λx y H Q=>∃a b xs,x=.ref a/\y=.ref b/\SqL X.K H a xs/\SqL X.K H b []/\Q (.bl (!xs.isEmpty)) H):=by
 intro pins s σ H x y v u Q I rx ry h;obtain⟨a,b,xs,rfl,rfl,ha,hb,q⟩:=h;cases rx;cases ry;obtain⟨its,rv,pl,hz⟩:=I.list ha;obtain⟨jts,rw',pl',_⟩:=I.list hb;have hj:jts=[]:=B6 rw'.length.symm;subst hj;cases xs with
 |nil=>
  have hi:its=[]:=B6 rv.length.symm;subst hi;exact SeqAt.RcNeAt.lists (e:=λ_=>true) pl.isList pl'.isList rfl hu (λj h1 _=>absurd h1 (Db j)) X.prog X.w _ _ (XQ I q rfl)
 |cons x r=>
  have hl:its.length=r.length+1:=by rw[<- rv.length];rfl
  exact SeqAt.RcNeAt.lists_lengths pl.isList pl'.isList (by simp;intro e;rw[e]at hl;simp at hl) hu X.prog X.w _ _ (XQ I q rfl)
end
open AutoSeq1 (wpAny_loadPart')
open MeetsSeq MeetsSeq2 MeetsSeq3 SeqRoads2
noncomputable def AliP(P:Xn)(w:Xj)(A:Xz)(s:X1)(y x:X0):Prop:=∀(E:X0->X1->Prop) (Q:Bool->X1->Prop),Q true s->X4 (X8 P w) A (eqBool y x) Q E s
noncomputable def RcP(P:Xn)(w:Xj)(A:Xz)(s:X1)(y x:X0):Prop:=∀(E Q:X0->X1->Prop),Q (.bool true) s->X4 (X8 P w) A (richCompare .Eq y x) Q E s
noncomputable def RnP(P:Xn)(w:Xj)(A:Xz)(s:X1)(y x:X0):Prop:=∀(E Q:X0->X1->Prop),Q (.bool false) s->X4 (X8 P w) A (richCompare .NotEq y x) Q E s
section
variable{P:Xn}{w:Xj}{A:Xz}{s:X1}{a b:Addr}{xs ys:Array X0}
theorem AliP.of_at{y x:X0}(h:SeqAt.EqAt A s y x true):AliP P w A s y x:=λE Q q=>h P w E Q q
theorem AliP.refs(h:RcP P w A s (.ref a) (.ref b)):AliP P w A s (.ref a) (.ref b):=by
 intro E Q q;by_cases e:a=b
 ·subst e;exact SeqAt.EqAt.same _ P w E Q q
 ·unfold eqBool;refine YF (wpAny_ite_split (λz=>absurd (by injection (eq_of_beq z)) e) λ_=>?_)
  exact X3 (h E _ (Ud q))
theorem S5(ha:s.heap.IsTuple a xs)(hb:s.heap.IsTuple b ys)(hz:xs.size=ys.size)(hu:A.units<cLine)(he:∀p∈xs.toList.zip ys.toList,AliP P w A.in1 s p.1 p.2):RcP P w A s (.ref a) (.ref b):=by
 intro E Q q;obtain⟨⟨c1,d1,t1,l1⟩,o1,k1,n1,e1⟩:=id ha;obtain⟨⟨c2,d2,t2,l2⟩,o2,k2,n2,e2⟩:=id hb;dsimp only at k1 e1 k2 e2;subst k1 e1 k2 e2;refine VX (op:=.Eq) ⟨_,o1,rfl⟩ ⟨_,o2,rfl⟩ F.slot_tuple_eq (Uf F.slot_tuple_eq ⟨_,o1,rfl⟩ F.entry_tuple_eq ?_ (F.args_tuple_eq_2 _ _)) hu;obtain⟨h0,g0,dd,tk,os⟩:=s;have f2:=Gn
 wp_walk using Yj o1,Yj o2,wpAny_forIn_list _ (λrest r s'=>r.1=none/\s'=⟨h0,g0,dd,tk,os⟩/\∀p∈rest,AliP P w A.in1 ⟨h0,g0,dd,tk,os⟩ p.1 p.2) _
 case turn=>
  rintro⟨y,x⟩ rest r s' ⟨z1,rfl,m⟩;refine X3 (m (y,x) Yg _ _ ?_)
  wp_walk
  exact⟨rfl,rfl,λp hp=>m p (Ya _ hp)⟩
 case fin=>
  rintro⟨r1,r2⟩ s' ⟨z1,rfl,-⟩;dsimp only at z1;subst z1
  wp_walk
  have tc:Bp .Eq xs.size ys.size=.bool true:=by simp[Bp,hz]
  rw[tc];exact⟨_,rfl,(λz=>nomatch z),q⟩
 case h=>exact⟨rfl,rfl,he⟩
theorem S6{n1 n2:Nat}{d1 d2:Option Addr}{l1 l2:Array (Option X0)}(hz:xs.size=ys.size){R:Result->X1->Prop}
  (o1:s.heap.get? a=some {cls:=.type "list",dict:=d1,data:=.seq xs n1,slots:=l1}) (o2:s.heap.get? b=some {cls:=.type "list",dict:=d2,data:=.seq ys n2,slots:=l2})
  (he:∀j (h1:j<xs.size) (h2:j<ys.size),AliP P w A.in1 s xs[j] ys[j]) (q:R (.ok (.ret (.bool true))) s):∀k i:Nat,xs.size - i=k->
  X4 (X8 P w) A.in1 (Builtin.«list.__eq__.loop» ⟨[.ref a,.ref b,Y5 i,Y5 2],[]⟩) (λfin s'=>match fin with|.done f=>R (.ok f) s'|.again c'=>c'.quiet=true/\YW (X8 P w) A c' R s') (λe s'=>R (.error e) s') s:=by
 obtain⟨h0,g0,dd,tk,os⟩:=s;intro k
 induction k with
 |zero=>
  intro i hk
  wp_walk using Yj o1,Yj o2
  rw[show xs[((i:Nat):Int).toNat]?=none by simp;lia,show ys[((i:Nat):Int).toNat]?=none by simp;lia]
  wp_walk using Yj o1,Yj o2
  show R (.ok (.ret (.bool (xs.size==ys.size)))) _
  simpa [hz]using q
 |succ k ih=>
  intro i hk;have h1:i<xs.size:=by lia
  have h2:i<ys.size:=by lia
  wp_walk using Yj o1,Yj o2
  rw[show xs[((i:Nat):Int).toNat]?=some xs[i] by simp[h1],show ys[((i:Nat):Int).toNat]?=some ys[i] by simp[h2]]
  refine X3 (he i h1 h2 _ _ ?_)
  wp_walk
  rw[show((i:Int)+1)=((i+1:Nat):Int) by push_cast;rfl]
  refine⟨YL plain_eq_loop _,YM entry_eq_loop ?_⟩;rw[Z0 plain_eq_loop _];exact ih (i+1) (by lia)
theorem S7(ha:s.heap.IsList a xs)(hb:s.heap.IsList b ys)(hz:xs.size=ys.size)(hu:A.units<cLine)(he:∀j (h1:j<xs.size) (h2:j<ys.size),AliP P w A.in1 s xs[j] ys[j]):RcP P w A s (.ref a) (.ref b):=by
 intro E Q q;obtain⟨⟨c1,d1,t1,l1⟩,o1,k1,n1,e1⟩:=id ha;obtain⟨⟨c2,d2,t2,l2⟩,o2,k2,n2,e2⟩:=id hb;dsimp only at k1 e1 k2 e2;subst k1 e1 k2 e2;have t1:s.TypeIs (.ref a) "list":=⟨_,o1,rfl⟩;refine VX (op:=.Eq) t1 ⟨_,o2,rfl⟩ Df (wpAny_call (VY Df.plain F.entry_list_eq (Df.check _ _ _ _ _ _ _ _ t1 (F.args_list_eq_2 _ _) ?_))) hu;obtain⟨h0,g0,dd,tk,os⟩:=s;have f3:=Go;have nz:¬(xs.size != ys.size)=true:=by simp[hz]
 wp_walk using Yj o1,Yj o2
 refine⟨YL plain_eq_loop _,YM entry_eq_loop ?_⟩;rw[Z0 plain_eq_loop _];exact S6 (R:=wants (λv s'=>v≠.notImplemented/\Q v s') E) hz o1 o2 he (show Yh true≠.notImplemented/\Q (.bool true) _ from⟨(λz=>nomatch z),q⟩) _ 0 rfl
theorem S8(ha:s.heap.IsTuple a xs)(hb:s.heap.IsTuple b ys)(hz:xs.size=ys.size)(hu:A.units<cLine)(he:∀p∈xs.toList.zip ys.toList,AliP P w A.in1 s p.1 p.2):RnP P w A s (.ref a) (.ref b):=by
 intro E Q q;obtain⟨⟨c1,d1,t1,l1⟩,o1,k1,n1,e1⟩:=id ha;obtain⟨⟨c2,d2,t2,l2⟩,o2,k2,n2,e2⟩:=id hb;dsimp only at k1 e1 k2 e2;subst k1 e1 k2 e2;refine VX (op:=.NotEq) ⟨_,o1,rfl⟩ ⟨_,o2,rfl⟩ F.slot_tuple_ne (Uf F.slot_tuple_ne ⟨_,o1,rfl⟩ F.entry_tuple_ne ?_ (F.args_tuple_ne_2 _ _)) hu;obtain⟨h0,g0,dd,tk,os⟩:=s;have f2:=Gn
 wp_walk using Yj o1,Yj o2,wpAny_forIn_list _ (λrest r s'=>r.1=none/\s'=⟨h0,g0,dd,tk,os⟩/\∀p∈rest,AliP P w A.in1 ⟨h0,g0,dd,tk,os⟩ p.1 p.2) _
 case turn=>
  rintro⟨y,x⟩ rest r s' ⟨z1,rfl,m⟩;refine X3 (m (y,x) Yg _ _ ?_)
  wp_walk
  exact⟨rfl,rfl,λp hp=>m p (Ya _ hp)⟩
 case fin=>
  rintro⟨r1,r2⟩ s' ⟨z1,rfl,-⟩;dsimp only at z1;subst z1
  wp_walk
  have tc:Bp .NotEq xs.size ys.size=.bool false:=by simp[Bp,hz]
  rw[tc];exact⟨_,rfl,(λz=>nomatch z),q⟩
 case h=>exact⟨rfl,rfl,he⟩
theorem S9{n1 n2:Nat}{d1 d2:Option Addr}{l1 l2:Array (Option X0)}(hz:xs.size=ys.size){R:Result->X1->Prop}
  (o1:s.heap.get? a=some {cls:=.type "list",dict:=d1,data:=.seq xs n1,slots:=l1}) (o2:s.heap.get? b=some {cls:=.type "list",dict:=d2,data:=.seq ys n2,slots:=l2})
  (he:∀j (h1:j<xs.size) (h2:j<ys.size),AliP P w A.in1 s xs[j] ys[j]) (q:R (.ok (.ret (.bool false))) s):∀k i:Nat,xs.size - i=k->
  X4 (X8 P w) A.in1 (Builtin.«list.__eq__.loop» ⟨[.ref a,.ref b,Y5 i,Y5 3],[]⟩) (λfin s'=>match fin with|.done f=>R (.ok f) s'|.again c'=>c'.quiet=true/\YW (X8 P w) A c' R s') (λe s'=>R (.error e) s') s:=by
 obtain⟨h0,g0,dd,tk,os⟩:=s;intro k
 induction k with
 |zero=>
  intro i hk
  wp_walk using Yj o1,Yj o2
  rw[show xs[((i:Nat):Int).toNat]?=none by simp;lia,show ys[((i:Nat):Int).toNat]?=none by simp;lia]
  wp_walk using Yj o1,Yj o2
  show R (.ok (.ret (.bool (xs.size != ys.size)))) _
  simpa [hz]using q
 |succ k ih=>
  intro i hk;have h1:i<xs.size:=by lia
  have h2:i<ys.size:=by lia
  wp_walk using Yj o1,Yj o2
  rw[show xs[((i:Nat):Int).toNat]?=some xs[i] by simp[h1],show ys[((i:Nat):Int).toNat]?=some ys[i] by simp[h2]]
  refine X3 (he i h1 h2 _ _ ?_)
  wp_walk
  rw[show((i:Int)+1)=((i+1:Nat):Int) by push_cast;rfl]
  refine⟨YL plain_eq_loop _,YM entry_eq_loop ?_⟩;rw[Z0 plain_eq_loop _];exact ih (i+1) (by lia)
theorem Sa(ha:s.heap.IsList a xs)(hb:s.heap.IsList b ys)(hz:xs.size=ys.size)(hu:A.units<cLine)(he:∀j (h1:j<xs.size) (h2:j<ys.size),AliP P w A.in1 s xs[j] ys[j]):RnP P w A s (.ref a) (.ref b):=by
 intro E Q q;obtain⟨⟨c1,d1,t1,l1⟩,o1,k1,n1,e1⟩:=id ha;obtain⟨⟨c2,d2,t2,l2⟩,o2,k2,n2,e2⟩:=id hb;dsimp only at k1 e1 k2 e2;subst k1 e1 k2 e2;have t1:s.TypeIs (.ref a) "list":=⟨_,o1,rfl⟩;refine VX (op:=.NotEq) t1 ⟨_,o2,rfl⟩ Dg (wpAny_call (VY Dg.plain F.entry_list_ne (Dg.check _ _ _ _ _ _ _ _ t1 (F.args_list_ne_2 _ _) ?_))) hu;obtain⟨h0,g0,dd,tk,os⟩:=s;have f3:=Go;have nz:¬(xs.size != ys.size)=true:=by simp[hz]
 wp_walk using Yj o1,Yj o2
 refine⟨YL plain_eq_loop _,YM entry_eq_loop ?_⟩;rw[Z0 plain_eq_loop _];exact S9 (R:=wants (λv s'=>v≠.notImplemented/\Q v s') E) hz o1 o2 he (show Yh false≠.notImplemented/\Q (.bool false) _ from⟨(λz=>nomatch z),q⟩) _ 0 rfl
theorem Hv{K:Type} [DecidableEq K] {knd:KeyKind P w K}{nm:String}{ka kb:List (K×X0)}{E:X0->X1->Prop}{Q:Bool->X1->Prop}(na:(a==YK)=false)(nb:(b==YK)=false)
  (da:s.heap.DictOf knd a ka) (db:s.heap.DictOf knd b kb) (hz:ka.length=kb.length) (he:∀p∈ka,∃y,Z6 kb p.1=some y/\AliP P w A s p.2 y) (q:Q true s):
  X4 (X8 P w) A (Gg nm a b) Q E s:=by
 obtain⟨oa,ea,pa,o1,_,t1,k1,v1,_⟩:=da;obtain⟨ob,eb,pb,o2,_,t2,k2,v2,_⟩:=db;have za:ka.length=ea.size:=v1.length.symm.trans XU;have zb:kb.length=eb.size:=v2.length.symm.trans XU;have fd:∀k,findBy knd.is eb k=Z6 kb k:=by
  intro k;rw[<- v2.find k];clear zb v2 k2 t2 o2;obtain⟨l⟩:=eb;simp[findBy]
 have zz:ea.size=eb.size:=by lia
 unfold Gg Builtin.Dict.showsAll;rw[na,nb];refine X3 (Xa (X3 (Xa (X3 (B0 o1 t1 ?_)))));dsimp only;refine X3 (B0 o2 t2 ?_);rw[if_neg (by simp[zz])]
 refine X3 (wpAny_dictEpoch o1 t1 (X3 ?_));rw[Std.Legacy.Range.forIn_eq_forIn_range'];simp only[Std.Legacy.Range.size,Nat.sub_zero,Nat.add_sub_cancel,Nat.div_one];refine wpAny_forIn_list _ (λrest r s'=>s'=s/\r=(none,())/\∀i∈rest,i<ea.size) _ ?_ ?_ _ _ ⟨rfl,rfl,λi hi=>by simpa using hi⟩
 ·rintro i rest r s' ⟨rfl,rfl,m⟩;have lt:i<ea.size:=m i Yg;have lt':i<ka.length:=by lia
  refine X3 (B0 o1 t1 ?_);rw[Vy lt];obtain⟨key,val⟩:=v1.get? (i:=i) (e:=ea[i]) (k:=ka[i].1) (v:=ka[i].2) (by rw[G2];exact Vy lt) (Xc lt')
  obtain⟨k',i',hh⟩:=k1 ea[i] (Array.getElem_mem lt);obtain rfl:k'=ka[i].1:=knd.inj _ _ _ i' key;obtain⟨y,fy,al⟩:=he ka[i] (XV lt');show X4 _ _ (Uu [ea[i].key,ea[i].val] _ >>= _) _ _ _;rw[hh];refine X3 (YF (X3 (wpAny_dictFind_of key o2 t2 k2 ?_)));have fy':=fy;rw[<- fd,findBy_of_findIdx?]at fy';cases hj:eb.findIdx? λe=>knd.is ka[i].1 e.key with
  |none=>rw[hj]at fy';cases fy'
  |some j=>
   rw[hj]at fy';obtain⟨jl,_,_⟩:=Array.findIdx?_eq_some_iff_getElem.mp hj;refine X3 (B0 o2 t2 ?_);rw[Vy jl];have ey:eb[j].val=y:=by simpa [Vy jl]using fy'
   rw[<- ey,<- val]at al;refine YF (al _ _ ?_);show X4 _ _ (if(!true)=true then _ else _) _ _ _;rw[if_neg (show¬(!true)=true from XG)];refine X3 (wpAny_dictEpoch o1 t1 ?_);rw[if_neg (by simp)]
   exact Xa ⟨rfl,rfl,λz hz=>m z (Ya _ hz)⟩
 ·rintro r s' ⟨rfl,rfl,-⟩;exact Xa q
theorem Sb{K:Type} [DecidableEq K] {knd:KeyKind P w K}{ka kb:List (K×X0)}(na:(a==YK)=false)(nb:(b==YK)=false)
  (da:s.heap.DictOf knd a ka) (db:s.heap.DictOf knd b kb) (hu:A.units<cLine) (hz:ka.length=kb.length) (he:∀p∈ka,∃y,Z6 kb p.1=some y/\AliP P w A.in1 s p.2 y):RcP P w A s (.ref a) (.ref b):=by
 intro E Q q;refine VX (op:=.Eq) da.typeIs db.typeIs Gc (Uf Gc da.typeIs PySem.F.entry_dict_eq ?_ (PySem.F.args_dict_eq_2 _ _)) hu;show X4 _ _ (Bv "__eq__" ⟨[.ref a,.ref b],[]⟩>>= _) _ _ s;refine X3 ?_;unfold Bv;refine X3 (B3 da.typeIs (Xa (X3 (Va (T:="dict") db.typeIs G7 ?_))));rw[if_neg (by decide)]
 refine X3 (Xa (X3 (Xa (X3 (Hv na nb da db hz he ?_)))));exact Xa ⟨_,rfl,(λz=>nomatch z),q⟩
theorem Sc{K:Type} [DecidableEq K] {knd:KeyKind P w K}{ka kb:List (K×X0)}(na:(a==YK)=false)(nb:(b==YK)=false)
  (da:s.heap.DictOf knd a ka) (db:s.heap.DictOf knd b kb) (hu:A.units<cLine) (hz:ka.length=kb.length) (he:∀p∈ka,∃y,Z6 kb p.1=some y/\AliP P w A.in1 s p.2 y):RnP P w A s (.ref a) (.ref b):=by
 intro E Q q;refine VX (op:=.NotEq) da.typeIs db.typeIs Gd (Uf Gd da.typeIs PySem.F.entry_dict_ne ?_ (PySem.F.args_dict_ne_2 _ _)) hu;show X4 _ _ (Bv "__ne__" ⟨[.ref a,.ref b],[]⟩>>= _) _ _ s;refine X3 ?_;unfold Bv;refine X3 (B3 da.typeIs (Xa (X3 (Va (T:="dict") db.typeIs G7 ?_))));rw[if_neg (by decide)]
 refine X3 (Xa (X3 (Xa (X3 (Hv na nb da db hz he ?_)))));exact Xa ⟨_,rfl,(λz=>nomatch z),q⟩
end
section
variable{X:Cx}
theorem Sd:MtR X "dict.clear" (fun x xs H Q=>∃a kvs,x=.ref a/\xs=[]/\H a=some (.dK kvs)/\Q .non (upd H a (.dK []))):=by
 intro pins s σ H x xs v us Q I rx rs h;obtain⟨a,kvs,rfl,rfl,e,q⟩:=h;obtain rfl:v=XD a:=rx;cases rs;exact Rz I e λs' I'=>⟨.non,_,I',rfl,q⟩
end
end L2
namespace L2
open PySem PySem.Spec PyProof.Rows
section
variable{X:Cx}
end
section
variable{X:Cx}{pins:List (Addr×Obj)}{σ:St}{H:Hp}{s:X1}
theorem Aj{H:Hp}{a b:Addr}{u v:HO}(e:H a=some u)(mu:Mut (some u))(q:H b=some v)(nv:¬Mut (some v)):b≠a:=by
 intro z;subst z;rw[e]at q;cases q;exact nv mu
theorem Inv.freeze(I:Inv X pins σ H s){a:Addr}{u:HO}{o:Obj}(e:H a=some u)(mu:Mut (some u))(ho:s.heap.get? a=some o):Inv X pins σ (upd H a (.frz o u)) s:=by
 have nn:∀b,H b=none->b≠a:=λb n z=>by subst z;rw[e]at n;cases n
 refine I.step (h':=s.heap) (g':=s.gens) (t':=s.toks) (d':=s.drawn) (ch:=[]) (λ_ z=>nomatch z) (λb o _ _ _ q _=>q) (λb o _ _ _ q _=>⟨o.slots,q⟩) (λb o _ _ n=>by rw[XO (nn b n)];exact n) (λb o _ q=>⟨o,q⟩)
  (λb xs q=>by rw[XO (Aj e mu q λz=>z)];exact q) (λb o u q=>by rw[XO (Aj e mu q λz=>z)];exact q) (λb ps q=>⟨#[],by rw[XO (Aj e mu q λz=>z),q];simp⟩) (λm h=>h) (λb v q=>?_) I.bare
 have st:∀{c:Addr} {y:HO},ObjOk X.prog X.w H s.heap c y->ObjOk X.prog X.w (upd H a (.frz o u)) s.heap c y:=λx=>
  x.stay (λc v _ q=>q) (λc q=>by rw[XO (Aj e mu q λz=>z)];exact q) λc xs q=>by rw[XO (Aj e mu q λz=>z)];exact q
 by_cases hb:b=a
 ·subst hb;rw[UG]at q;cases q;exact⟨ho,st (I.hok b u e)⟩
 ·rw[XO hb]at q;exact st (I.hok b v q)
noncomputable def Thw(X:Cx)(H H':Hp):Prop:=H'=H\/∃a o u,H a=some (.frz o u)/\Mut (some u)/\(∀o' u',X.H₀ a≠some (.frz o' u'))/\H'=upd H a u
theorem Inv.thaw(I:Inv X pins σ H s){H':Hp}(t:Thw X H H'):Inv X pins σ H' s:=by
 rcases t with rfl|⟨a,o,u,e,mu,nf,rfl⟩
 ·exact I
 have ne:∀{b:Addr} {y:HO},H b=some y->y≠.frz o u->b≠a:=fun{b y} q n z=>by subst z;rw[e]at q;cases q;exact n rfl
 have nn:∀b,H b=none->b≠a:=λb n z=>by subst z;rw[e]at n;cases n
 have st:∀{c:Addr} {y:HO},ObjOk X.prog X.w H s.heap c y->ObjOk X.prog X.w (upd H a u) s.heap c y:=λx=>
  x.stay (λc v _ q=>q) (λc q=>by rw[XO (ne q (λz=>by cases z))];exact q) λc xs q=>by rw[XO (ne q (λz=>by cases z))];exact q
 refine⟨I.ok,I.os,I.bare,⟨I.base.keep,I.base.slot,λb ob q n hx=>?_,I.base.there,λb xs q=>?_,λb o' u' q=>?_,λb ps q=>?_⟩,I.loc,I.cell,?_,λx c q=>?_,λp hp=>?_,λb v q=>?_,I.len⟩
 ·have:=I.base.free b ob q n hx;rw[XO (nn b this)];exact this
 ·have:=I.base.tups b xs q;rw[XO (ne this (λz=>by cases z))];exact this
 ·rw[XO (λz=>by subst z;exact nf o' u' q)]
  exact I.base.frzs b o' u' q
 ·obtain⟨m,h⟩:=I.base.tbls b ps q;exact⟨m,by rw[XO (ne h (λz=>by cases z))];exact h⟩
 ·rw[XO (nn _ I.free)];exact I.free
 ·rw[XO (nn _ (I.freeC x c q))];exact I.freeC x c q
 ·obtain⟨h1,h2,h3⟩:=I.pin p hp;exact⟨h1,by rw[XO (nn _ h2)];exact h2,h3⟩
 ·by_cases hb:b=a
  ·subst hb;rw[UG]at q;cases q;exact st (I.hok b _ e).2
  ·rw[XO hb]at q;exact st (I.hok b v q)
theorem Inv.nofrz(I:Inv X pins σ H s){a:Addr}{u:HO}(e:H a=some u)(mu:Mut (some u)):∀o' u',X.H₀ a≠some (.frz o' u'):=λo' u' z=>by
 have:=I.base.frzs a o' u' z;rw[e]at this;cases this;exact mu
noncomputable def thwD(X:Cx)(D:Ends):Ends where
 nx:=λσ H=>∃H',Thw X H H'/\D.nx σ H'
 rt:=λv H=>∃H',Thw X H H'/\D.rt v H'
 bk:=λσ H=>∃H',Thw X H H'/\D.bk σ H'
 ct:=λσ H=>∃H',Thw X H H'/\D.ct σ H'
theorem PS.thaw{st:Stmt}{t:TS}(h:PS X st t):PS X st (λD σ H=>t (thwD X D) σ H):=by
 intro pins s σ H D I q;refine thn (h pins s σ H _ I q) λf s' hf=>?_;cases f with
 |next=>obtain⟨σ',H',I',H2,t2,d⟩:=hf;exact⟨σ',H2,I'.thaw t2,d⟩
 |brk=>obtain⟨σ',H',I',H2,t2,d⟩:=hf;exact⟨σ',H2,I'.thaw t2,d⟩
 |cont=>obtain⟨σ',H',I',H2,t2,d⟩:=hf;exact⟨σ',H2,I'.thaw t2,d⟩
 |ret u=>obtain⟨v,σ',H',I',r,H2,t2,d⟩:=hf;exact⟨v,σ',H2,I'.thaw t2,r,d⟩
theorem PE.thaw{e:Expr}{t:TE}(h:PE X e t):PE X e (λσ H Q=>t σ H λv H'=>∃H2,Thw X H' H2/\Q v H2):=by
 intro pins s σ H Q I q;refine thn (h pins s σ H _ I q) λu s' ⟨v,H',I',r,H2,t2,d⟩=>⟨v,H2,I'.thaw t2,r,d⟩
noncomputable def Itd(a:Addr)(o:Obj):It where
 go:=λi H=>∃kvs,H a=some (.frz o (.dK kvs))/\i<kvs.length
 yld:=λi H x H'=>H'=H/\∀kvs,H a=some (.frz o (.dK kvs))->∃k v,kvs[i]?=some (k,v)/\x=kV k
 stop:=λi H=>∃kvs,H a=some (.frz o (.dK kvs))/\kvs.length≤i
theorem Hw{P:Xn}{w:Xj}{h:Heap}{a:Addr}{o:Obj}{kvs:List (Key×V)}{es:Array DictEntry}{ep:Nat}(ok:HOk P w H h)(e:H a=some (.frz o (.dK kvs)))(hd:o.data=.dict es ep):
  ∃vs,KV kvs vs/\h.DictAt (Yt P w) a vs ep/\vs.length=es.size:=by
 obtain⟨ho,z,_,vs,rel,o',es',ep',ho',r1,r2,r3⟩:=ok a _ e;rw[ho]at ho';cases ho';rw[hd]at r2;injection r2 with e1 e2;subst e1 e2;exact⟨vs,rel,⟨o,es,ho,r1,hd,r3⟩,by rw[<- r3.2.1.length];simp⟩
theorem Se{kvs:List (Key×V)}{vs:List (Key×X0)}(r:KV kvs vs):kvs.length=vs.length:=by
 induction r with
 |nil=>rfl
 |cons _ _ ih=>rw[YZ,YZ,ih]
theorem Sf{kvs:List (Key×V)}{vs:List (Key×X0)}(r:KV kvs vs):∀{i:Nat} {k:Key} {v:V},kvs[i]?=some (k,v)->∃u,vs[i]?=some (k,u)/\RelV v u:=by
 induction r with
 |nil=>intro i k v h;cases h
 | @cons p p' _ _ q _ ih=>
  intro i k v h;cases i with
  |zero=>
   cases h;obtain⟨k2,x2⟩:=p';have e1:k=k2:=q.1;subst e1;exact⟨x2,rfl,q.2⟩
  |succ i=>exact ih (i:=i) h
theorem Sg{P:Xn}{w:Xj}{k:Key}{u:X0}(h:(Yt P w).is k u=true):RelV (kV k) u:=by
 rcases UF h with⟨i,t,rfl,rfl⟩|⟨x,t,rfl,rfl⟩
 ·exact⟨t,rfl⟩
 ·exact⟨t,rfl⟩
theorem Sh{P:Xn}{w:Xj}{A:Xz}{E:X0->X1->Prop}{s:X1}{it d:Addr}{i n ep:Nat}{Q:X0->X1->Prop}(hit:s.heap.IsKeyIter it d i n ep)(h:Q (.ref it) s):
  X4 (X8 P w) A (pyIter (.ref it)) Q E s:=by
 refine wpAny_pyIter_slot hit.typeIs G5 (Uf G5 hit.typeIs PySem.F.entry_dict_keyiterator_iter ?_ (PySem.F.args_dict_keyiterator_iter_1 _));show X4 _ _ (ret (.ref it)) _ _ s;exact Xa ⟨_,rfl,"dict_keyiterator",_,hit.typeIs,PySem.F.slot_dict_keyiterator_next.lookup,h⟩
theorem Si{P:Xn}{w:Xj}{K:X6}{tg:Expr}(a it:Addr)(o:Obj)(es:Array DictEntry)(ep:Nat)(hd:o.data=.dict es ep):Turn P w K tg (Itd a o) [it] it (λi h=>h.IsKeyIter it a i es.size ep)where
 mem:=by simp
 obj:=λi h st b hb=>by
  have e:b=it:=by simpa using hb
  subst e;obtain⟨o,e,c,d⟩:=st;exact⟨o,e,λv z=>by rw[d]at z;cases z⟩
 keep:=λi h h' st k=>by
  obtain⟨o,e,c,d⟩:=st;exact⟨o,k it (by simp) o e,c,d⟩
 item:=by
  intro X hP hw hK hc i pins s σ H E I hf st hg;subst hP hw hK;obtain⟨kvs,hq,hx⟩:=hg;obtain⟨vs,rel,da,hl⟩:=Hw I.hok hq hd;obtain⟨⟨k,v⟩,hk⟩:∃p,kvs[i]?=some p:=⟨_,Xc hx⟩;obtain⟨u,hu,ru⟩:=Sf rel hk;obtain⟨f0,f1,f2,f3,f4,f5⟩:=hf it (by simp)
  rw[<- hl]at st;refine wpAny_pyNext_dict_item st da hu λkey h' hkey st' sb=>?_;have I1:Inv X pins σ H {s with heap:=h'}:=I.turned (t':=s.toks) (λb o hb e=>(sb.2 b hb).trans e) f0 f1 f3 f4 f5;rw[hl]at st';obtain⟨o',e,c,d⟩:=id st';exact⟨key,rfl,VE (s:={s with heap:=h'}) e c d (by decide) ⟨kV k,H,I1,Sg hkey,⟨rfl,λkvs' e'=>by rw[hq]at e';cases e';exact⟨k,v,hk,rfl⟩⟩,st',λb hb=>(hf b hb).1⟩⟩
 done:=by
  intro X hP hw hK hc i pins s σ H E I hf st hg;subst hP hw hK;obtain⟨kvs,hq,hx⟩:=hg;obtain⟨vs,rel,da,hl⟩:=Hw I.hok hq hd;obtain⟨f0,f1,f2,f3,f4,f5⟩:=hf it (by simp)
  rw[Se rel]at hx;rw[<- hl]at st;exact wpAny_pyNext_dict_end (I.ok.hd hc) st da (CM.mpr hx) λh' eb=>⟨rfl,I.turned (t':=s.toks) (λb o hb e=>eb b o hb e) f0 f1 f3 f4 f5⟩
 self:=λ_ _ _ _ _ st h=>Sh st h
theorem Sj{tg:Expr}{R:It->Hp->Prop}{E:X0->X1->Prop}{a:Addr}{kvs:List (Key×V)}(I:Inv X pins σ H s)(e:H a=some (.dK kvs))(q:∀o,(∀o' u',X.H₀ a≠some (.frz o' u'))->R (Itd a o) (upd H a (.frz o (.dK kvs)))):
  X4 (X8 X.prog X.w) X.A (pyIter (.ref a)) (PIE X pins σ tg R) E s:=by
 obtain⟨z,hm,vs,rel,o,es,ep,ho,r1,r2,r3⟩:=I.hok a _ e;have I1:=I.freeze e trivial ho;have nf:=I.nofrz e trivial;refine wpAny_pyIter_dict hm (⟨o,es,ho,r1,r2,r3⟩:s.heap.DictAt (Yt X.prog X.w) a vs ep) ?_;refine⟨s.heap.objs.size,[s.heap.objs.size],_,_,upd H a (.frz o (.dK kvs)),rfl,I1.kept (t':=s.toks) λb o e=>Xs _ e,Si a _ o es ep r2,?_,λb hb=>?_,q o nf⟩
 ·have hl:es.size=vs.length:=by rw[<- r3.2.1.length];simp
  rw[hl];exact⟨_,XS _ rfl,rfl,rfl⟩
 ·have e:b=s.heap.objs.size:=by simpa using hb
  subst e;exact I1.fpOk (Xl _) (I1.hok.fresh (Xl _))
end
section
variable{prog:Xn}{w:Xj}{A:Xz}{E:X0->X1->Prop}{s:X1}{a₀:Array Keyed}
end
section
variable{X:Cx}
end
structure Mrk (t t':Yy):Prop where
 led:t'.led=t.led
 plain:t.plain=false->t'.plain=false
theorem Mrk.refl(t:Yy):Mrk t t:=⟨rfl,id⟩
theorem Mrk.trans{a b c:Yy}(x:Mrk a b)(y:Mrk b c):Mrk a c:=⟨y.led.trans x.led,λh=>y.plain (x.plain h)⟩
theorem Mrk.standIn(t:Yy)(n:Nat):Mrk t (t.standIn n):=⟨rfl,λ_=>rfl⟩
theorem Mrk.orStandIn(t:Yy)(n:Nat):Mrk t (t.orStandIn n):=by
 unfold SetTable.orStandIn;split
 ·exact .refl t
 ·exact .standIn t n
theorem Mrk.lay(t:Yy)(es:Array (Int×X0))(k:Int)(x:X0):Mrk t (layNew t es k x).2.1:=by
 unfold layNew;split
 ·exact Mrk.trans (b:=(t.put _).1) ⟨rfl,id⟩ (.orStandIn _ _)
 ·exact .standIn t _
theorem Mrk.relaid{t t':Yy}{hs:Array Int}{n:Nat}{od:Array Nat}(h:t.relaid hs n=some (t',od)):Mrk t t':=by
 unfold SetTable.relaid SetTable.laid at h;cases hl:SetTable.layClean (SetTable.sizeAbove n - 1) hs with
 |none=>rw[hl]at h;simp at h
 |some ow=>
  rw[hl]at h;simp only[Option.bind_eq_bind,Option.bind_some,Option.pure_def,Bn,Prod.mk.injEq]at h;obtain⟨rfl,_⟩:=h;exact⟨rfl,id⟩
theorem Mrk.relay(t:Yy)(es:Array (Int×X0))(n:Nat):Mrk t (relayAll t es n).2.1:=by
 unfold relayAll;split
 ·rename_i hr
  dsimp only;split
  ·exact .relaid hr
  ·exact .standIn t _
 ·exact .standIn t _
noncomputable def txt:X0->Str
 |.str x _=>x
 |_=>⟨#[]⟩
noncomputable def met1(zs:List Str)(x:Str):List Str:=if x∈zs then zs else zs++[x]
noncomputable def met(f:Nat->Str):Nat->List Str
 |0=>[]
 |i+1=>met1 (met f i) (f i)
theorem Sk{zs:List Str}(h:zs.Nodup)(x:Str):(met1 zs x).Nodup:=by
 unfold met1;split
 ·exact h
 ·rename_i n
  rw[UU];exact⟨h,by simp,λa ha b hb=>by rw[Yk]at hb;subst hb;exact λe=>n (e▸ha)⟩
theorem Hx(f:Nat->Str):∀i,(met f i).Nodup
 |0=>.nil
 |i+1=>Sk (Hx f i) _
theorem Sl{zs:List Str}{x y:Str}:y∈met1 zs x↔y∈zs\/y=x:=by
 unfold met1;split
 ·rename_i h
  exact⟨.inl,λz=>z.elim id λe=>e▸h⟩
 ·simp
theorem Hy{f:Nat->Str}{y:Str}:∀i,y∈met f i↔∃j,j<i/\f j=y
 |0=>by simp[met]
 |i+1=>by
  unfold met;rw[Sl,Hy i];constructor
  ·rintro(⟨j,hj,e⟩|e)
   ·exact⟨j,by lia,e⟩
   ·exact⟨i,by lia,e.symm⟩
  ·rintro⟨j,hj,e⟩;by_cases z:j=i
   ·subst z;exact .inr e.symm
   ·exact .inl ⟨j,by lia,e⟩
theorem Hz(f:Nat->Str):∀i,(met f i).length≤i
 |0=>Xl _
 |i+1=>by
  have:=Hz f i;unfold met met1;split
  ·lia
  ·rw[YY];simp;lia
section
variable{prog:Xn}{w:Xj}{A:Xz}{E:X0->X1->Prop}{s:X1}
noncomputable def WSet(prog:Xn)(w:Xj)(o:Obj)(zs:List Str):Prop:=
 o.ExactSet/\∃es ep t,o.data=.set es ep t/\ElemsOf (strKind prog w) es.toList/\(es.toList.map λe=>txt e.2).Perm zs/\es.size<scanBound/\t.fits es.size=true
  /\t.led=(!w.params.followText "set-order")/\(zs≠ []->t.plain=false)
theorem WSet.fresh:WSet prog w {cls:=.type "set",dict:=none,data:=.set #[] 0 (.fresh 0 0 (!w.params.followText "set-order"))} []:=
 ⟨⟨rfl,rfl,rfl⟩,#[],0,_,rfl,λe he=>by simp at he,by simp,by decide,by rfl,rfl,λh=>absurd rfl h⟩
theorem isT{k:Str}{v:X0}:(strKind prog w).is k v=true↔∃t,v=.str k t:=by
 constructor
 ·exact λh=>Value.isStrOf_shape h
 ·rintro⟨t,rfl⟩;exact strKind_is prog w k t
theorem WSet.mem{es:Array (Int×X0)}{zs:List Str}(he:ElemsOf (strKind prog w) es.toList)(hp:(es.toList.map λe=>txt e.2).Perm zs)(k:Str):
  k∈zs↔∃e∈es.toList,(strKind prog w).is k e.2=true:=by
 rw[<- hp.mem_iff,XN];constructor
 ·rintro⟨e,hm,q⟩;refine⟨e,hm,isT.mpr ?_⟩;obtain⟨⟨k',hk,_⟩,_⟩:=he e hm;obtain⟨t,ht⟩:=isT.mp hk;rw[ht]at q ⊢;exact⟨t,by rw[<- q];rfl⟩
 ·rintro⟨e,hm,q⟩;obtain⟨t,ht⟩:=isT.mp q;exact⟨e,hm,by rw[ht];rfl⟩
theorem HA{h:Heap}{a:Addr}{o:Obj}{es:Array (Int×X0)}{ep:Nat}{t:Yy}(ho:h.get? a=some o)(hd:o.data=.set es ep t)(es':Array (Int×X0))(t':Yy):
  (h.update a (Obj.putSet es' t')).get? a=some {o with data:=.set es' (ep+1) t'}:=by
 have z:=UW (Obj.putSet es' t') ho (by rw[putSet_of es' t' hd];rfl)
 rwa [putSet_of es' t' hd]at z
theorem HB{g:Bool->Sem Unit}(hg:∀(b:Bool) (s₁:X1) (Q':Unit->X1->Prop),Q' () s₁->X4 (X8 prog w) A (g b) Q' E s₁)
  {a:Addr} {o:Obj} {es:Array (Int×X0)} {ep:Nat} {t:Yy} (ho:s.heap.get? a=some o) (hex:o.ExactSet) (hd:o.data=.set es ep t)
  {es1:Array (Int×X0)} {t2:Yy} {zs:List Str} (hel:ElemsOf (strKind prog w) es1.toList) (hp:(es1.toList.map λe=>txt e.2).Perm zs) (hb:es1.size<scanBound)
  (hf:t2.fits es1.size=true) (hled:t2.led=(!w.params.followText "set-order")) (hpl:t2.plain=false) {was:Bool} {R:Option Bool->X1->Prop}
  (h:∀h' o',Vd a s.heap h'->h'.get? a=some o'->WSet prog w o' zs->R (some true) {s with heap:=h'}):
  X4 (X8 prog w) A (do
    storeSet a es1 t2
    if(!was&&t2.tooFull)=true then do
      g (relayAll t2 es1 (VC es1.size)).2.2
      storeSet a (relayAll t2 es1 (VC es1.size)).1 (relayAll t2 es1 (VC es1.size)).2.1
      pure (some true)
     else pure (some true)) R E s:=by
 refine X3 (wpAny_storeSet_of ho hd ?_ (fits_of_scanBound hb));have ho1:=HA ho hd es1 t2;split
 ·have hp2:=relayAll_perm t2 es1 (VC es1.size);have hf2:=relayAll_fits t2 es1 (VC es1.size);have hm:=Mrk.relay t2 es1 (VC es1.size);generalize relayAll t2 es1 (VC es1.size)=Rl at hp2 hf2 hm ⊢;obtain⟨es2,t3,gv⟩:=Rl;dsimp only at hp2 hf2 hm ⊢;have hz:es2.size=es1.size:=by rw[<- XU,hp2.length_eq,XU]
  refine X3 (hg _ _ _ ?_);refine X3 (wpAny_storeSet_of ho1 rfl ?_ (fits_of_scanBound (by lia)))
  exact Xa (h _ _ ((UX _ a _).trans (UX _ a _)) (HA ho1 rfl es2 t3)
   ⟨hex,es2,_,t3,rfl,hel.perm hp2,(hp2.map _).trans hp,by lia,hf2,hm.led.trans hled,λ_=>hm.plain hpl⟩)
 ·exact Xa (h _ _ (UX _ a _) ho1 ⟨hex,es1,_,t2,rfl,hel,hp,hb,hf,hled,λ_=>hpl⟩)
theorem Sn{a:Addr}{o:Obj}{zs:List Str}{x:Str}{tk:Tok}{Q:Bool->X1->Prop}(ho:s.heap.get? a=some o)(hS:WSet prog w o zs)(hroom:zs.length+1<scanBound)
  (h:∀b h' o',Vd a s.heap h'->h'.get? a=some o'->WSet prog w o' (met1 zs x)->Q b {s with heap:=h'}):
  X4 (X8 prog w) A (setAddHashed a (.str x tk) ((strKind prog w).hash x)) Q E s:=by
 obtain⟨hex,es,ep,t,hd,hel,hp,hb,hf,hled,hpl⟩:=id hS;have hkey:(strKind prog w).is x (.str x tk)=true:=strKind_is prog w x tk;have hlen:es.size=zs.length:=by rw[<- hp.length_eq,X7,XU]
 unfold setAddHashed setAddHashedIn;refine YF (X3 (WO ho hd hf ?_));dsimp only;rw[byScan_of (x:=.str x tk) rfl hb hel];simp only[↓reduceIte];unfold setAddByScan;refine X3 (X3 (Vb (X3 (wpAny_setScan_of hkey ho hd hf hel ?_))));have hmem:=WSet.mem hel hp x;cases hr:List.findIdx? (λe=>(strKind prog w).is x e.2) es.toList with
 |some j=>
  dsimp only;obtain⟨hj,hpj,_⟩:=List.findIdx?_eq_some_iff_getElem.mp hr;have hx:x∈zs:=hmem.mpr ⟨_,XV hj,hpj⟩;refine Xa (Xa ?_);have:=h false s.heap o (Heap.SameBut.refl a s.heap) ho (by unfold met1;rw[if_pos hx];exact hS)
  cases s;exact this
 |none=>
  dsimp only;have hx:x∉zs:=λz=>by
   obtain⟨e,he,q⟩:=hmem.mp z;have:=List.findIdx?_eq_none_iff.mp hr e he;rw[q]at this;exact Bool.noConfusion this
  have hz:met1 zs x=zs++[x]:=by unfold met1;rw[if_neg hx]
  have hl:=layNew_perm t es ((strKind prog w).hash x) (.str x tk);have hlf:=layNew_fits t es ((strKind prog w).hash x) (.str x tk);have hm:=Mrk.lay t es ((strKind prog w).hash x) (.str x tk);generalize layNew t es ((strKind prog w).hash x) (.str x tk)=L at hl hlf hm ⊢;obtain⟨es1,t1,was,gave⟩:=L;dsimp only at hl hlf hm ⊢;rw[Array.toList_push]at hl;have hel1:ElemsOf (strKind prog w) es1.toList:=(hel.push hkey rfl).perm hl;have hp1:(es1.toList.map λe=>txt e.2).Perm (met1 zs x):=by
   rw[hz];refine(hl.map _).trans ?_;rw[Y6];exact hp.append (.refl _)
  have hb1:es1.size<scanBound:=by rw[<- XU,hl.length_eq,YY,XU];simp;lia
  have gw:∀(b:Bool) (s₁:X1) (Q':Unit->X1->Prop),Q' () s₁->X4 (X8 prog w) A (match b with|true=>rule "set.scan.the-table-gave-way"|false=>pure ()) Q' E s₁:=
   λb s₁ Q' hq=>by cases b<;>first|exact Xa hq|exact Vb hq
  refine X3 (gw _ _ _ ?_);have fin:∀h' o',Vd a s.heap h'->h'.get? a=some o'->WSet prog w o' (met1 zs x)->Q true {s with heap:=h'}:=λh' o' a1 a2 a3=>h true h' o' a1 a2 a3;split
  ·rw[hashByValue_scannable 8 (x:=.str x tk) rfl];refine X3 (Xa ?_);refine HB gw ho hex hd hel1 hp1 hb1 (t2:={t1 with plain:=false}) (SetTable.fits_plain_off hlf) (hm.led.trans hled) rfl ?_;intro h' o' a1 a2 a3;exact Xa (fin h' o' a1 a2 a3)
  ·rename_i np
   refine X3 (Xa ?_);simp only[↓reduceIte];refine HB gw ho hex hd hel1 hp1 hb1 hlf (hm.led.trans hled) (by simpa using np) ?_
   intro h' o' a1 a2 a3;exact Xa (fin h' o' a1 a2 a3)
theorem So{R:Result->X1->Prop}{I:Addr}{fp wr:List Addr}{G:Array US->Array US->Prop}{n:Nat}{P:Nat->X0->Prop}{St:Nat->X1->Prop}
  (W:WalksS prog w A.in1 I fp wr G n P St) (S:Addr) (hSf:S∉fp) (f:Nat->Str) (hval:∀i v,P i v->∃t,v=.str (f i) t) (hb:n+1<scanBound):
  ∀(k i:Nat) (s:X1) (o:Obj),n - i=k->i≤n->St i s->s.heap.get? S=some o->WSet prog w o (met f i)->
   (∀s' o',Moved (S::wr) G s s'->s'.heap.get? S=some o'->WSet prog w o' (met f n)->R (.ok (.ret .none)) s')->
   YW (X8 prog w) A (.builtin "set.update.loop" ⟨[.ref S,.ref I],[]⟩) R s:=by
 have hSw:S∉wr:=λh=>hSf (W.sub _ h);have hsub:∀b∈wr,b∈S::wr:=λb hb=>Ya _ hb;intro k
 induction k with
 |zero=>
  intro i s o hk hi hst ho hS hR;have hin:i=n:=by lia
  subst hin;refine YM F.entry_set_update_loop ?_;rw[Z0 F.plain_set_update_loop _];show X4 _ A.in1 (YV (.ref I)>>= _) _ _ s;refine X3 (W.done s _ _ hst λs' hm=>?_);exact Xa (hR s' o (hm.mono hsub) (hm.heap S _ hSw ho) hS)
 |succ k ih=>
  intro i s o hk hi hst ho hS hR;have hlt:i<n:=by lia
  refine YM F.entry_set_update_loop ?_;rw[Z0 F.plain_set_update_loop _];show X4 _ A.in1 (YV (.ref I)>>= _) _ _ s;refine X3 (W.item i s _ _ hlt hst λv s' hP hst' hm=>?_);obtain⟨t,rfl⟩:=hval i v hP;have ho':=hm.heap S _ hSw ho;show X4 _ A.in1 (Uu [XL (f i) t] (setAdd S (.str (f i) t))>>= _) _ _ s';refine X3 (YF ?_);unfold setAdd;refine YF (X3 ((strKind prog w).pyHash (k:=f i) (strKind_is prog w _ _) ?_));refine Sn (s:={s' with toks:=s'.toks+1}) ho' hS (by have:=Hz f i;lia) λb h' o' hsb ho2 hS2=>?_
  refine Xa ⟨YL F.plain_set_update_loop _,ih (i+1) _ o' (by lia) hlt (W.frame _ s' _ _ hst' (Ul _) λb hb o e=>?_) ho2 hS2 λs'' o'' hm'' ho'' hS''=>?_⟩
  ·rw[hsb.2 b (λz:b=S=>hSf (by rw[<- z];exact hb))];exact e
  ·refine hR s'' o'' (Moved.trans W.gtrans ((hm.mono hsub).then_heap (Ul _) λb o hb e=>?_) hm'') ho'' hS'';rw[hsb.2 b (λz:b=S=>hb (by rw[z];exact Yg))];exact e
noncomputable def UK(w:Xj):Obj:={cls:=.type "set",dict:=none,data:=.set #[] 0 (.fresh 0 0 (!w.params.followText "set-order"))}
theorem Sq(a:X0){Q₁:X0->X1->Prop}(h:Q₁ (.ref s.heap.objs.size) {s with heap:=s.heap.push (UK w)}):
  YW (X8 prog w) A (.call (.builtin "set.__new__") ⟨[.type "set",a],[]⟩) (wants Q₁ E) s:=by
 refine codeAny_of_tree ?_;show X4 _ A.in1 (do checkBuiltinCall "set.__new__" ⟨[.type "set",a],[]⟩;again (.builtin "set.__new__" ⟨[.type "set",a],[]⟩)) _ _ s
 refine X3 (wpAny_of_eq (F.newCall_set_1 a) (Xa ⟨YL F.plain_set_new _,YM F.entry_set_new ?_⟩));rw[Z0 F.plain_set_new _];unfold Builtin.«set.__new__» Builtin.Frozenset.newClass;have hsub:=sub_set_self;obtain⟨hp,g,d,tk,os⟩:=s;dsimp only
 wp_walk
 refine WP (Xa ?_);dsimp only;simp only[newObj];refine X3 (wpAny_alloc (Xa ?_));exact Xa h
theorem Sr{l:Addr}{items:Array X0}{f:Nat->Str}{Q:X0->X1->Prop}
  (hh:A.handled=none) (hl:s.heap.IsList l items) (hi:∀(i:Nat) (v:X0),items[i]?=some v->∃t,v=XL (f i) t) (hb:items.size+1<scanBound)
  (h:∀(h':Heap) (tk:Nat) (o:Obj),h'.get? s.heap.objs.size=some o->WSet prog w o (met f items.size)->
   (∀b o,b<s.heap.objs.size->s.heap.get? b=some o->h'.get? b=some o)->Q (.ref s.heap.objs.size) {s with heap:=h',toks:=tk}):
  X4 (X8 prog w) A (call (.type "set") [.ref l]) Q E s:=by
 obtain⟨c,tl,hmro⟩:=Ve.mro;have hmade:=Ve.made;have hsub:=Ve.sub;refine wpAny_call (codeAny_of_tree ?_);show X4 _ _ (callAny (.type "set") _) _ _ _;refine Xa ⟨Code.quiet_builtin _ (by decide+kernel),YM F.entry_type_call ?_⟩
 rw[Around.under_plain (weight_type_call_type "set" [.ref l] []) rfl];have h1:=Ve.notType;have h2:=Ve.canCreate;have hct:=F.typeCall_set_1 (.ref l)
 repeat (any_goals (first|assumption|wp_step))
 refine WM (Sq (.ref l) (E:=E) (Q₁:=λobj s₁=>obj=.ref s.heap.objs.size/\s₁={s with heap:=s.heap.push (UK w)}) ⟨rfl,rfl⟩) λr s₁ hr=>?_;cases r with
 |error e=>exact hr
 |ok fl=>
  cases fl with
  |ret obj=>
   obtain⟨rfl,rfl⟩:=hr;have hS:(s.heap.push (UK w)).get? s.heap.objs.size=some (UK w):=XS _ rfl;have hT:A8 {s with heap:=s.heap.push (UK w)} (.ref s.heap.objs.size) "set":=⟨_,hS,rfl⟩;have hli:=Ve.init.lookup;have hbi:=Ve.init.bind (.ref s.heap.objs.size)
   repeat (any_goals (first|assumption|wp_step))
   refine WM (VY (R:=wants (λr s₂=>r=.none/\∃h' tk o,s₂={s with heap:=h',toks:=tk}/\
     h'.get? s.heap.objs.size=some o/\WSet prog w o (met f items.size)/\
     (∀b o,b<s.heap.objs.size->s.heap.get? b=some o->h'.get? b=some o)) E) Ve.init.plain F.entry_set_init (check_set_init_1 hT ?_)) λr₂ s₂ hr₂=>?_
   ·obtain⟨ol,hol,hcl,nl,hdl⟩:=hl;obtain⟨ocls,odict,odata,oslots⟩:=ol;simp only at hcl hdl;subst hcl;subst hdl;have hol':(s.heap.push (UK w)).get? l=some {cls:=.type "list",dict:=odict,data:=.seq items nl,slots:=oslots}:=Xs _ hol;have hsls:=F.sub_list_set;have hslf:=F.sub_list_frozenset;have hne:(XJ "list"==XJ "dict")=false:=by decide
    have hl1:(s.heap.push (UK w)).IsList l items:=⟨_,hol',rfl,nl,rfl⟩;unfold Builtin.«set.__init__» noKeywords Builtin.Frozenset.updateFrom;generalize hPI:pyIter=PI
    wp_walk
    subst hPI;refine B4 hl1 ?_;refine X3 (wpAny_runValue ?_);have hlS:l<s.heap.objs.size:=XA hol;have hneI:l≠(s.heap.push (UK w)).objs.size:=by
     rw[Uk];exact XH (Vu hlS)
    have hSf:s.heap.objs.size∉ [(s.heap.push (UK w)).objs.size,l]:=by
     rw[Uk];simp only[Xt,Y1,or_false,not_or];exact⟨XH (Nat.lt_succ_self _),Vw hlS⟩
    refine So ((BA (A:=A.in1.in1.in1) (by simp[hh]) _ l hneI items).toS) s.heap.objs.size
     hSf f hi hb (items.size - 0) 0 _ (UK w) (by lia) (YD _)
     ⟨⟨_,XS _ rfl,rfl,rfl⟩,(hl1.push _)⟩ (Xs _ hS) WSet.fresh ?_
    intro s' o' hm ho' hS';obtain⟨h',g',d',tk',os'⟩:=s';have eg:g'=s.gens:=hm.gens;have ed:d'=s.drawn:=hm.drawn;have eo:os'=s.os:=hm.os;subst eg;subst ed;subst eo;refine Xa (Xa ⟨rfl,h',tk',o',rfl,ho',hS',λb o hb e=>?_⟩);refine hm.heap b o ?_ (Xs _ (Xs _ e));simp only[Xt,Y1,or_false,not_or];exact⟨XH hb,by rw[Uk];exact XH (Vu hb)⟩
   ·cases r₂ with
    |error e=>exact hr₂
    |ok fl₂=>
     cases fl₂ with
     |ret r=>
      obtain⟨rfl,h',tk,o',rfl,ho',hS',hk'⟩:=hr₂
      repeat (any_goals (first|assumption|wp_step))
      exact h _ _ _ ho' hS' hk'
     |_=>exact hr₂.elim
  |_=>exact hr.elim
end
theorem slot_setiter_next:Slot "set_iterator" "__next__" "set_iterator.__next__":=
 .of (owner:="set_iterator") (n:="__next__") (by rw[VZ,W0];kernel_rfl) (by decide+kernel) (by decide+kernel) (by decide+kernel)
  (by first|exact .inl (by decide+kernel)|exact .inr (by decide+kernel)) (by rw[isSubtype_type];kernel_rfl)
theorem HC:Slot "set_iterator" "__iter__" "set_iterator.__iter__":=
 .of (owner:="set_iterator") (n:="__iter__") (by rw[VZ,W0];kernel_rfl) (by decide+kernel) (by decide+kernel) (by decide+kernel)
  (by first|exact .inl (by decide+kernel)|exact .inr (by decide+kernel)) (by rw[isSubtype_type];kernel_rfl)
theorem HD:entryFor table "set_iterator.__next__"=some Builtin.«set_iterator.__next__»:=entryFor_of_fast (by kernel_rfl)
theorem Su:entryFor table "set_iterator.__iter__"=some Builtin.«dict_keyiterator.__iter__»:=
 entryFor_alias (id':="dict_keyiterator.__iter__") (by kernel_rfl) rfl (by decide+kernel) (by kernel_rfl)
theorem Sv:entryFor table "set.__iter__"=some Builtin.«frozenset.__iter__»:=
 entryFor_alias (id':="frozenset.__iter__") (by kernel_rfl) rfl (by decide+kernel) (by kernel_rfl)
theorem HE(a:X0):argsOk "set_iterator.__next__" ⟨[a],[]⟩:=by unfold argsOk;kernel_rfl
theorem Sw(a:X0):argsOk "set_iterator.__iter__" ⟨[a],[]⟩:=by unfold argsOk;kernel_rfl
theorem ers{α:Type}:∀(l:List α) (i:Nat) (h:i<l.length),(l[i]::l.eraseIdx i).Perm l
 |[],_,h=>absurd h (by simp)
 |x::xs,0,_=>.refl _
 |x::xs,i+1,h=>(List.Perm.swap x _ _).trans ((ers xs i (by simpa using h)).cons x)
section
variable{prog:Xn}{w:Xj}{A:Xz}{E:X0->X1->Prop}{s:X1}
theorem Sx{M:Model}{src:Source}{n:Nat}{Q:Nat->X1->Prop}(hn:n≠0)(h:∀i d,i<n->Q i {s with drawn:=d}):X4 M A (choose src n) Q E s:=λΓ p hΓ=>by
 unfold choose;rw[Sem.wp_choose];exact⟨hn,by rw[Sem.wp_pure];exact h _ _ (Nat.mod_lt _ (Nat.pos_of_ne_zero hn))⟩
theorem Sy{M:Model}{α:Type}:∀(n:Nat) (xs:List α) (s:X1) (Q:List α->X1->Prop),xs.length=n->(∀ys d,ys.Perm xs->Q ys {s with drawn:=d})->X4 M A (drawOrder n xs) Q E s:=by
 intro n
 induction n with
 |zero=>
  intro xs s Q hl h;unfold drawOrder;have:xs=[]:=B8.mp hl;subst this;exact Xa (h [] s.drawn (.refl _))
 |succ n ih=>
  intro xs s Q hl h;cases xs with
  |nil=>simp at hl
  |cons x xs=>
   unfold drawOrder;refine X3 (Sx (by simp) λi d hi=>?_)
   rw[Xc hi];dsimp only;refine X3 (ih _ _ _ (by rw[FW hi];lia) λys d' hp=>Xa ?_)
   have:(((x::xs)[i])::ys).Perm (x::xs):=((List.Perm.cons _ hp).trans (ers _ _ hi));exact h _ d' this
theorem Sz{α:Type}(next:Nat->Nat):∀(n k:Nat) (left:List α) (out:Array α),left.length=n->(pickOrder.go next n k left out).toList.Perm (out.toList++left):=by
 intro n
 induction n with
 |zero=>
  intro k left out hl;have:left=[]:=B8.mp hl;subst this;unfold pickOrder.go;simp
 |succ n ih=>
  intro k left out hl;unfold pickOrder.go;have hi:next k%left.length<left.length:=Nat.mod_lt _ (by lia)
  rw[Xc hi];dsimp only;refine(ih _ _ _ (by rw[FW hi];lia)).trans ?_
  rw[Array.toList_push,B9];exact(List.Perm.refl _).append (by simpa using ers _ _ hi)
theorem SA{α:Type}(next:Nat->Nat)(xs:Array α):(pickOrder next xs).toList.Perm xs.toList:=by
 unfold pickOrder
 simpa using Sz next xs.size 0 xs.toList #[] (by simp)
end
section
variable{prog:Xn}{w:Xj}{A:Xz}{E:X0->X1->Prop}{s:X1}
noncomputable def SIt(h:Heap)(it S:Addr)(first:X0)(i n ep:Nat):Prop:=
 ∃o,h.get? it=some o/\o.cls=.type "set_iterator"/\o.data=.fields #[first,.int i 0,.ref S,.int n 0,.int ep 0]
theorem SIt.typeIs{it S:Addr}{first:X0}{i n ep:Nat}(x:SIt s.heap it S first i n ep):s.TypeIs (.ref it) "set_iterator":=let⟨o,ho,hc,_⟩:=x;⟨o,ho,hc⟩
theorem BK{h:Heap}{it:Addr}{o:Obj}{vs:Array X0}(ho:h.get? it=some o)(hd:o.data=.fields vs)(j:Nat)(v:X0):
  ∃o',(h.update it (Dk (·.setIfInBounds j v))).get? it=some o'/\o'.cls=o.cls/\o'.data=.fields (vs.setIfInBounds j v):=
 ⟨_,UW _ ho (Di (By hd _)),Dj ..,By hd _⟩
noncomputable def Nx(w:Xj)(S:Addr)(es:Array (Int×X0))(ep:Nat)(t:Yy)(slot i:Nat):Option (X0×Nat):=
 if w.params.followText "set-order"=true then(pickOrder (w.params.setOrder S ep) es)[i]?.map fun e=>(e.2,slot)
 else match es[Bx t.place slot]?,t.place[Bx t.place slot]? with
  |some (_,x),some j=>some (x,j+1)
  |_,_=>none
theorem SC{S:Addr}{i ep slot:Nat}{o:Obj}{es:Array (Int×X0)}{t:Yy}{Q:Option (X0×Nat)->X1->Prop}
  (hoS:s.heap.get? S=some o) (hdS:o.data=.set es ep t) (hf:t.fits es.size=true) (hw:w.params.followText "set-order"=true\/(es.size≤1/\t.led=true))
  (h:Q (Nx w S es ep t slot i) s):X4 (X8 prog w) A (setNext S slot i ep) Q E s:=by
 unfold setNext;refine X3 (WO hoS hdS hf ?_);refine X3 (m:=setsByText) (X3 (WP (Xa ?_)));show X4 _ _ (if w.params.followText "set-order"=true then _ else _) _ _ _;unfold Nx at h;by_cases hb:w.params.followText "set-order"=true
 ·rw[if_pos hb];rw[if_pos hb]at h;simp only[bne_self_eq_false,Yo,if_false];refine X3 ?_;unfold setWalk;refine X3 (WO hoS hdS hf ?_);refine X3 (m:=setsByText) (X3 (WP (Xa ?_)));show X4 _ _ (if w.params.followText "set-order"=true then _ else _) _ _ _;rw[if_pos hb];refine X3 (WP (Xa (Xa ?_)));exact h
 ·rw[if_neg hb];rw[if_neg hb]at h;obtain⟨h1,h2⟩:=hw.resolve_left hb;have hdr:(!t.plain&&decide (es.size>1))=false:=by
   rw[decide_eq_false (by lia),D9]
  show X4 _ _ (if(!t.plain&&decide (es.size>1))=true then _ else _) _ _ _;rw[hdr,if_neg XG];refine X3 ?_;show X4 _ _ (if(!t.led&& !es.isEmpty)=true then _ else _) _ _ _;rw[h2];simp only[WZ,D8,Yo,if_false];exact Xa (Xa h)
theorem HF{it:Addr}{Q:Option X0->X1->Prop}{h₁:Heap}(hh:A.handled=none)(hk:Bh it s.heap h₁)
  (hQ:∀h',Bh it s.heap h'->Q none {s with heap:=h'}):
  X4 (X8 prog w) A.in1 (do let x<- newExc (.type "StopIteration") [];(raiseNew x:Sem Fin)) (fun fin s'=>∃v,fin=Fin.done (Flow.ret v)/\X4 (X8 prog w) A (pure (some v)) Q E s')
   (fun e s'=>X4 (X8 prog w) A (do let b<- isInstance e (.type "StopIteration");if b=true then pure none else throw e) Q E s') {s with heap:=h₁}:=by
 refine X3 ?_;simp only[newExc,newTuple];refine X3 (Ux ?_ (by size_fits))
 refine X3 (m:=firstArgMember _ _) (wpAny_of_eq (a:=XB) (by first|rfl|(simp only[firstArgMember];rfl)) ?_)
 refine Ux ?_ (by size_fits)
 simp only[raiseNew];refine X3 (wpAny_handled ?_);rw[show A.in1.handled=none from hh];refine X3 (Xa (wpAny_throw ?_));refine X3 (Va (T:="StopIteration") (b:=true) ⟨_,XS _ rfl,rfl⟩ isSubtype_stop ?_);exact Xa (hQ _ ((hk.push _).push _))
theorem HG{it S:Addr}{i n ep slot:Nat}{o:Obj}{es:Array (Int×X0)}{t:Yy}{Q:Option X0->X1->Prop}(hh:A.handled=none)
  (hit:SIt s.heap it S (.int slot 0) i n ep) (hoS:s.heap.get? S=some o) (hdS:o.data=.set es ep t) (hf:t.fits es.size=true) (hn:es.size=n)
  (hw:w.params.followText "set-order"=true\/(es.size≤1/\t.led=true))
  (h1:∀x nx,Nx w S es ep t slot i=some (x,nx)->∀h',SIt h' it S (.int nx 0) (i+1) n ep->Vd it s.heap h'->Q (some x) {s with heap:=h'})
  (h2:Nx w S es ep t slot i=none->∀h',Bh it s.heap h'->Q none {s with heap:=h'}):
  X4 (X8 prog w) A (YV (.ref it)) Q E s:=by
 obtain⟨oi,hoi,hci,hdi⟩:=id hit;unfold YV;refine X3 (wpAny_attempt (wpAny_callSpecial?_slot (name:=Ys "__next__") hit.typeIs slot_setiter_next
  (Uf slot_setiter_next hit.typeIs HD ?_ (HE _))))
 show X4 _ _ (fieldsOf (.ref it)>>= _) _ _ s;refine X3 (wpAny_fieldsOf hoi hdi ?_);show X4 _ _ (setEntries S >>= _) _ _ s;refine X3 (wpAny_setEntries_of hoS hdS hf ?_);simp only[hn,bne_self_eq_false,Yo,if_false];refine X3 (m:=setNext _ _ _ _) ?_;simp only[Wd];refine SC hoS hdS hf hw ?_;cases hx:Nx w S es ep t slot i with
 |none=>
  dsimp only;refine X3 (W3 hoi hdi (by simp) ?_)
  exact HF hh (UX ..).extBut (h2 hx)
 |some p=>
  obtain⟨x,nx⟩:=p;dsimp only;obtain⟨o1,ho1,hc1,hd1⟩:=BK hoi hdi 0 (Y5 nx);refine X3 (W3 hoi hdi (by simp) ?_)
  refine X3 (W3 ho1 hd1 (by simp) ?_)
  obtain⟨o2,ho2,hc2,hd2⟩:=BK ho1 hd1 1 (Y5 ((i:Int)+1));refine Xa ⟨x,rfl,Xa (h1 x nx hx _ ⟨o2,ho2,hc2.trans (hc1.trans hci),?_⟩ ((UX ..).trans (UX ..)))⟩;rw[hd2];simp[Y5]
theorem HH{it S P:Addr}{i n ep:Nat}{o op:Obj}{es:Array (Int×X0)}{t:Yy}{ps:Array X0}{np:Nat}{Q:Option X0->X1->Prop}(hh:A.handled=none)
  (hit:SIt s.heap it S (.ref P) i n ep) (hoS:s.heap.get? S=some o) (hdS:o.data=.set es ep t) (hf:t.fits es.size=true) (hn:es.size=n)
  (hoP:s.heap.get? P=some op) (hdP:op.data=.seq ps np)
  (h1:∀v,ps[i]?=some v->∃(p:Nat) (e:Int×X0),v=.int p 0/\es[p]?=some e/\∀h',SIt h' it S (.ref P) (i+1) n ep->Vd it s.heap h'->Q (some e.2) {s with heap:=h'})
  (h2:ps[i]?=none->∀h',Bh it s.heap h'->Q none {s with heap:=h'}):
  X4 (X8 prog w) A (YV (.ref it)) Q E s:=by
 obtain⟨oi,hoi,hci,hdi⟩:=id hit;unfold YV;refine X3 (wpAny_attempt (wpAny_callSpecial?_slot (name:=Ys "__next__") hit.typeIs slot_setiter_next
  (Uf slot_setiter_next hit.typeIs HD ?_ (HE _))))
 show X4 _ _ (fieldsOf (.ref it)>>= _) _ _ s;refine X3 (wpAny_fieldsOf hoi hdi ?_);show X4 _ _ (setEntries S >>= _) _ _ s;refine X3 (wpAny_setEntries_of hoS hdS hf ?_);simp only[hn,bne_self_eq_false,Yo,if_false];refine X3 (m:=seqItems? _) (WQ hoP hdP ?_);simp only[Wd];cases hx:ps[i]? with
 |none=>
  dsimp only;obtain⟨o1,ho1,hc1,hd1⟩:=BK hoi hdi 0 (Y5 0);refine X3 (W3 hoi hdi (by simp) ?_)
  refine X3 (W3 ho1 hd1 (by simp) ?_)
  refine HF (s:=s) (it:=it) hh ?_ (h2 hx);exact Heap.SameBut.extBut (Heap.SameBut.trans (UX _ _ _) (UX _ _ _))
 |some v=>
  obtain⟨p,e,rfl,he,hq⟩:=h1 v hx;dsimp only;refine X3 ?_;unfold setNextDrawn;refine X3 (WO hoS hdS hf ?_);simp only[Wd,bne_self_eq_false,Yo,if_false,he];obtain⟨k,x⟩:=e;refine Xa ?_;obtain⟨o1,ho1,hc1,hd1⟩:=BK hoi hdi 1 (Y5 ((i:Int)+1));refine X3 (W3 hoi hdi (by simp) ?_)
  refine Xa ⟨x,rfl,Xa (hq _ ⟨o1,ho1,hc1.trans hci,?_⟩ (UX ..))⟩;rw[hd1];simp[Y5]
end
section
variable{prog:Xn}{w:Xj}{A:Xz}{E:X0->X1->Prop}{s:X1}
theorem HI{it S:Addr}{first:X0}{i n ep:Nat}{Q:X0->X1->Prop}(hit:SIt s.heap it S first i n ep)(h:Q (.ref it) s):
  X4 (X8 prog w) A (pyIter (.ref it)) Q E s:=by
 refine wpAny_pyIter_slot hit.typeIs HC (Uf HC hit.typeIs Su ?_ (Sw _));show X4 _ _ (ret (.ref it)) _ _ s;exact Xa ⟨_,rfl,"set_iterator",_,hit.typeIs,slot_setiter_next.lookup,h⟩
theorem SIt.at{h h':Heap}{it S:Addr}{first:X0}{i n ep:Nat}(x:SIt h it S first i n ep)(e:∀o,h.get? it=some o->h'.get? it=some o):SIt h' it S first i n ep:=
 let⟨o,ho,r⟩:=x;⟨o,e _ ho,r⟩
theorem SD(hh:A.handled=none){I S:Addr}{n ep:Nat}{o:Obj}{es:Array (Int×X0)}{t:Yy}{vs:List X0}{Good:Nat->Nat->Prop}(hne:S≠I)
  (hdS:o.data=.set es ep t) (hf:t.fits es.size=true) (hn:es.size=n) (hw:w.params.followText "set-order"=true\/(es.size≤1/\t.led=true))
  (hg:∀i sl,Good i sl->(i<n->∃x nx,Nx w S es ep t sl i=some (x,nx)/\vs[i]?=some x/\Good (i+1) nx)/\(i=n->Nx w S es ep t sl i=none)):
  Walks prog w A I [I,S] [I] n (λi v=>vs[i]?=some v) (λi h=>∃sl,Good i sl/\SIt h I S (.int (sl:Nat) 0) i n ep/\h.get? S=some o)where
 sub:=λb hb=>by simp at hb;simp[hb]
 frame:=λ_ _ _ st hk=>let⟨sl,g,st1,st2⟩:=st;⟨sl,g,st1.at λo e=>hk I (by simp) o e,hk S (by simp) _ st2⟩
 item:=λi s Q E hi st hQ=>by
  obtain⟨sl,g,st1,st2⟩:=st;obtain⟨x,nx,e1,e2,g2⟩:=(hg i sl g).1 hi;refine HG hh st1 st2 hdS hf hn hw (λx' nx' q h' a1 a2=>?_) (λq=>by rw[e1]at q;simp at q)
  rw[e1]at q;simp only[Bn,Prod.mk.injEq]at q;obtain⟨rfl,rfl⟩:=q;exact hQ _ h' s.toks e2 ⟨_,g2,a1,(a2.2 S hne).trans st2⟩ λb o hb e=>(a2.2 b (λz=>hb (by simp[z]))).trans e
 done:=λs Q E st hQ=>by
  obtain⟨sl,g,st1,st2⟩:=st;have e1:=(hg n sl g).2 rfl;refine HG hh st1 st2 hdS hf hn hw (λx' nx' q h' a1 a2=>by rw[e1]at q;simp at q) (λ_ h' a=>hQ h' s.toks λb o hb e=>a b o (λz=>hb (by simp[z])) e)
 self:=λ_ _ _ _ st hQ=>let⟨_,_,st1,_⟩:=st;HI st1 hQ
theorem SE(hh:A.handled=none){I S P:Addr}{n ep np:Nat}{o op:Obj}{es:Array (Int×X0)}{t:Yy}{js:List Nat}{vs:List X0}(hne:S≠I)(hnp:P≠I)
  (hdS:o.data=.set es ep t) (hf:t.fits es.size=true) (hn:es.size=n) (hdP:op.data=.seq (js.map λi:Nat=>Y5 i).toArray np)
  (hl:js.length=n) (hj:∀(i:Nat) (j:Nat),js[i]?=some j->∃e,es[j]?=some e/\vs[i]?=some e.2):
  Walks prog w A I [I,S,P] [I] n (λi v=>vs[i]?=some v) (λi h=>SIt h I S (.ref P) i n ep/\h.get? S=some o/\h.get? P=some op)where
 sub:=λb hb=>by simp at hb;simp[hb]
 frame:=λ_ _ _ st hk=>⟨st.1.at λo e=>hk I (by simp) o e,hk S (by simp) _ st.2.1,hk P (by simp) _ st.2.2⟩
 item:=λi s Q E hi st hQ=>by
  refine HH hh st.1 st.2.1 hdS hf hn st.2.2 hdP (λv hv=>?_) (λq=>?_)
  ·simp only[List.getElem?_toArray,Xq,Dm]at hv;obtain⟨j,hj1,rfl⟩:=hv;obtain⟨e,he,hv⟩:=hj i j hj1;exact⟨j,e,rfl,he,λh' a1 a2=>hQ _ h' s.toks hv ⟨a1,(a2.2 S hne).trans st.2.1,(a2.2 P hnp).trans st.2.2⟩ λb o hb e=>(a2.2 b (λz=>hb (by simp[z]))).trans e⟩
  ·simp at q;lia
 done:=λs Q E st hQ=>by
  refine HH hh st.1 st.2.1 hdS hf hn st.2.2 hdP (λv hv=>?_) (λ_ h' a=>hQ h' s.toks λb o hb e=>a b o (λz=>hb (by simp[z])) e)
  simp only[List.getElem?_toArray,Xq,Dm]at hv;obtain⟨j,hj1,rfl⟩:=hv;rw[Vp (by lia)]at hj1
  simp at hj1
 self:=λ_ _ _ _ st hQ=>HI st.1 hQ
theorem SF{α:Type}(es:Array α){js:List Nat}(hp:js.Perm (XX es.size)):
  ∃ys:List α,ys.Perm es.toList/\ys.length=js.length/\∀(i:Nat) (j:Nat),js[i]?=some j->∃e,es[j]?=some e/\ys[i]?=some e:=by
 have hin:∀j∈js,j<es.size:=λj hj=>UC.mp (hp.mem_iff.mp hj);refine⟨js.filterMap λj=>es[j]?,(hp.filterMap _).trans (by rw[filterMap_getElem?_range]),?_⟩
 clear hp
 induction js with
 |nil=>exact⟨rfl,λi j h=>by simp at h⟩
 |cons j js ih=>
  have hj:=hin j Yg;obtain⟨h1,h2⟩:=ih λk hk=>hin k (Ya _ hk);rw[List.filterMap_cons_some (b:=es[j]) (by simp[hj])]
  refine⟨by simp[h1],λi k h=>?_⟩
  cases i with
  |zero=>
   simp at h;subst h;exact⟨es[j],by simp[hj],rfl⟩
  |succ i=>
   simp at h;obtain⟨e,he,hy⟩:=h2 i k h;exact⟨e,he,by simpa using hy⟩
noncomputable def SG(prog:Xn)(w:Xj)(zs:List Str)(s₀:Heap)(S I:Addr)(h':Heap):Prop:=
 ∃(fp:List Addr) (n:Nat) (vs:List X0) (St:Nat->Heap->Prop),
  (∀A':Xz,A'.handled=none->Walks prog w A' I fp [I] n (λi v=>vs[i]?=some v) St)/\St 0 h'/\vs.length=n/\(vs.map txt).Perm zs/\(∀v∈vs,∃t,v=XL (txt v) t)/\
  (∀b∈fp,b=S\/s₀.objs.size≤b)/\s₀.objs.size≤I
theorem HJ{p:Array Nat}(h:p.size=1)(j:Nat):Bx p j=if p[0]'(by lia)<j then 1 else 0:=by
 obtain⟨l⟩:=p
 match l,h with
 |[a],_=>
  show(if 0<1 then(if(#[a]:Array Nat).getD ((0+1)/2) j<j then Gu #[a] j 0 ((0+1)/2+1) 1 else Gu #[a] j 0 0 ((0+1)/2))else 0)=if a<j then 1 else 0;rw[if_pos (by lia)]
  rfl
theorem SH{S:Addr}{o:Obj}{zs:List Str}{Q:X0->X1->Prop}(ho:s.heap.get? S=some o)(hS:WSet prog w o zs)
  (hQ:∀(I:Addr) (h':Heap) d,SG prog w zs s.heap S I h'->(∀b o,s.heap.get? b=some o->h'.get? b=some o)->Q (.ref I) {s with heap:=h',drawn:=d}):
  X4 (X8 prog w) A (pyIter (.ref S)) Q E s:=by
 obtain⟨hex,es,ep,t,hd,hel,hp,hb,hf,hled,hpl⟩:=id hS;have hT:s.TypeIs (.ref S) "set":=⟨o,ho,hex.1⟩;have hSl:S<s.heap.objs.size:=XA ho;have hsz:es.size=zs.length:=by rw[<- hp.length_eq,X7,XU]
 have hst:∀e∈es.toList,∃t,e.2=XL (txt e.2) t:=λe he=>by
  obtain⟨⟨k,hk,_⟩,_⟩:=hel e he;obtain⟨t,ht⟩:=isT.mp hk;exact⟨t,by rw[ht];rfl⟩
 have hsl:sizeLine=16777216:=by decide
 have hsb:scanBound=4096:=rfl;refine wpAny_pyIter_slot hT F.slot_set_iter (Uf F.slot_set_iter hT Sv ?_ (F.args_set_iter_1 _));show X4 _ _ (Gp S >>= _) _ _ s;refine X3 (m:=Gp S) (X3 (wpAny_setEntries_of ho hd hf (Xa ?_)));refine X3 (m:=setDrawn S) ?_;unfold setDrawn;refine X3 (WO ho hd hf ?_);refine X3 (m:=setsByText) (X3 (WP (Xa (Xa ?_))));show X4 _ _ (if(!w.params.followText "set-order"&&(!t.plain&&decide (es.size>1)))=true then _ else _) _ _ _;have rest:∀(first:X0) (s₁:X1) (R:Fin->X1->Prop),s₁.heap.get? S=some o->
   R (.done (.ret (.ref s₁.heap.objs.size))) {s₁ with heap:=s₁.heap.push {cls:=.type "set_iterator",data:=.fields #[first,.int 0 0,.ref S,.int (es.size:Nat) 0,.int ep 0]} }->
   X4 (X8 prog w) A.in1 (do let e<- setEpoch S;let v<- newFields "set_iterator" [first,Y5 0,.ref S,Y5 (es.size:Nat),Y5 e];ret v) R E s₁:=by
  intro first s₁ R ho₁ h
  refine X3 (wpAny_setEpoch_of ho₁ hd hf ?_);exact X3 (Ux (Xa h))
 have small:∀(Good:Nat->Nat->Prop) (vs:List X0),Good 0 0->vs.length=es.size->(vs.map txt).Perm zs->(∀v∈vs,∃t,v=XL (txt v) t)->
   (w.params.followText "set-order"=true\/(es.size≤1/\t.led=true))->
   (∀i sl,Good i sl->(i<es.size->∃x nx,Nx w S es ep t sl i=some (x,nx)/\vs[i]?=some x/\Good (i+1) nx)/\(i=es.size->Nx w S es ep t sl i=none))->
   ∀(s₁:X1),s₁=s->X4 (X8 prog w) A.in1 (do let e<- setEpoch S;let v<- newFields "set_iterator" [Y5 0,Y5 0,.ref S,Y5 (es.size:Nat),Y5 e];ret v)
    (fun fin s'=>∃v,fin=Fin.done (Flow.ret v)/\∃T' r,s'.TypeIs v T'/\VW (.type T') "__next__"=pure (some r)/\Q v s') E s₁:=by
  intro Good vs g0 hlv hpv hsv hw hg s₁ e₁;subst e₁;refine rest _ _ _ ho ⟨_,rfl,"set_iterator",_,⟨_,XS _ rfl,rfl⟩,slot_setiter_next.lookup,?_⟩;refine hQ _ _ s₁.drawn ⟨[s₁.heap.objs.size,S],es.size,vs,_,λA' hh=>SD hh (XH hSl) hd hf rfl hw hg,⟨0,g0,⟨_,XS _ rfl,rfl,rfl⟩,Xs _ ho⟩,hlv,hpv,hsv,λb hb=>?_,Xl _⟩ λb o e=>Xs _ e;simp only[Xt,Y1,or_false]at hb;rcases hb with rfl|rfl
  ·exact .inr (Xl _)
  ·exact .inl rfl
 by_cases hbt:w.params.followText "set-order"=true
 ·rw[hbt];simp only[WZ,D8,Yo,if_false];refine X3 (Xa ?_);have hpk:=SA (w.params.setOrder S ep) es;refine small (λ_ _=>True) ((pickOrder (w.params.setOrder S ep) es).toList.map (·.2)) trivial ?_ ?_ ?_ (.inl hbt) ?_ s rfl
  ·rw[X7,hpk.length_eq,XU]
  ·rw[XW];exact(hpk.map _).trans hp
  ·intro v hv;obtain⟨e,he,rfl⟩:=XN.mp hv;exact hst e (hpk.mem_iff.mp he)
  ·intro i sl _;have hps:(pickOrder (w.params.setOrder S ep) es).size=es.size:=by rw[<- XU,hpk.length_eq,XU]
   unfold Nx;rw[if_pos hbt];refine⟨λhi=>?_,λhi=>?_⟩
   ·rw[Vy (by lia)]
    exact⟨_,_,rfl,by simp[hps,hi],trivial⟩
   ·rw[Dc (by lia)]
    rfl
 ·have hbf:w.params.followText "set-order"=false:=by simpa using hbt
  have hlt:t.led=true:=by rw[hled,hbf];rfl
  rw[hbf];simp only[Bj,Bool.true_and];by_cases h1:es.size>1
  ·have hz:zs≠ []:=λz=>by rw[z,List.length_nil]at hsz;lia
   rw[hpl hz,decide_eq_true h1];simp only[Bj,Bool.and_self,if_true];refine X3 (Sy _ _ _ _ (by simp) λjs d hj=>?_)
   obtain⟨ys,hy1,hy2,hy3⟩:=SF es hj;have hjl:js.length=es.size:=by rw[hj.length_eq,Ba]
   refine X3 (wpAny_newTuple ?_ (by rw[X7];lia))
   refine rest _ _ _ (Xs _ ho) ⟨_,rfl,"set_iterator",_,⟨_,XS _ rfl,rfl⟩,slot_setiter_next.lookup,?_⟩;have hPne:s.heap.objs.size≠(s.heap.push {cls:=.type "tuple",data:=.seq (js.map fun i:Nat=>Y5 i).toArray}).objs.size:=by rw[Uk];lia
   have hSne:S≠(s.heap.push {cls:=.type "tuple",data:=.seq (js.map fun i:Nat=>Y5 i).toArray}).objs.size:=by rw[Uk];exact XH (Vu hSl)
   have hIle:s.heap.objs.size≤(s.heap.push {cls:=.type "tuple",data:=.seq (js.map fun i:Nat=>Y5 i).toArray}).objs.size:=by rw[Uk];lia
   refine hQ _ _ d ⟨[_,S,s.heap.objs.size],es.size,ys.map (·.2),_,λA' hh=>SE hh (S:=S) (P:=s.heap.objs.size) (o:=o) (js:=js)
    (op:={cls:=.type "tuple",data:=.seq (js.map fun i:Nat=>Y5 i).toArray}) hSne hPne hd hf rfl rfl hjl ?_,
    ⟨⟨_,XS _ rfl,rfl,rfl⟩,Xs _ (Xs _ ho),Xs _ (XS _ rfl)⟩,?_,?_,?_,λb hb=>?_,?_⟩
    λb o e=>Xs _ (Xs _ e)
   ·intro i j hij;obtain⟨e,he,hy⟩:=hy3 i j hij;exact⟨e,he,by rw[Xq,hy];rfl⟩
   ·rw[X7,hy2,hjl]
   ·rw[XW];exact(hy1.map _).trans hp
   ·intro v hv;obtain⟨e,he,rfl⟩:=XN.mp hv;exact hst e (hy1.mem_iff.mp he)
   ·simp only[Xt,Y1,or_false]at hb;rcases hb with rfl|rfl|rfl
    ·exact .inr hIle
    ·exact .inl rfl
    ·exact .inr (Xl _)
   ·exact hIle
  ·rw[decide_eq_false h1];simp only[D9,Yo,if_false];refine X3 (Xa ?_);have hfp:t.place.size=es.size:=by
    simp only[SetTable.fits,Yp,beq_iff_eq,decide_eq_true_eq]at hf;exact hf.1
   refine small (λi sl=>(i=0->sl=0)/\(i=1->∃h:0<t.place.size,sl=t.place[0]+1)) (es.toList.map (·.2)) ⟨λ_=>rfl,λz=>absurd z (by lia)⟩ (by simp) ?_ ?_ (.inr ⟨by lia,hlt⟩) ?_ s rfl
   ·rw[XW];exact hp
   ·intro v hv;obtain⟨e,he,rfl⟩:=XN.mp hv;exact hst e he
   ·intro i sl ⟨g0,g1⟩;unfold Nx;rw[if_neg hbt];refine⟨λhi=>?_,λhi=>?_⟩
    ·have hs1:es.size=1:=by lia
     have hi0:i=0:=by lia
     subst hi0;have hpz:t.place.size=1:=by lia
     rw[g0 rfl,HJ hpz,if_neg (by lia),Vy (by lia),Vy (by lia)]
     refine⟨_,_,rfl,?_,λz=>absurd z (by lia),λ_=>⟨by lia,rfl⟩⟩
     simp[hs1]
    ·have hnone:es[Bx t.place sl]?=none:=by
      by_cases h0:es.size=0
      ·exact Dc (by lia)
      ·have hs1:es.size=1:=by lia
       obtain⟨hq,e⟩:=g1 (by lia)
       rw[e,HJ (by lia),if_pos (by lia)]
       exact Dc (by lia)
     rw[hnone]
end
section
variable{prog:Xn}{w:Xj}{A:Xz}{E:X0->X1->Prop}{s:X1}
theorem SI{S:Addr}{o:Obj}{zs:List Str}{Q:List X0->X1->Prop}(hh:A.handled=none)(ho:s.heap.get? S=some o)(hS:WSet prog w o zs)
  (hQ:∀(vs:List X0) (h':Heap) (d:Drawn) (g:Array US) tk,(vs.map txt).Perm zs->(∀v∈vs,∃t,v=XL (txt v) t)->(∀b o,s.heap.get? b=some o->h'.get? b=some o)->g=s.gens->s.heap.objs.size≤h'.objs.size->
   Q vs {s with heap:=h',drawn:=d,gens:=g,toks:=tk}):X4 (X8 prog w) A (collect (.ref S)) Q E s:=by
 obtain⟨hex,es,ep,t,hd,hel,hp,hb,hf,hled,hpl⟩:=id hS;have hSl:S<s.heap.objs.size:=XA ho;have hsl:sizeLine=16777216:=by decide
 have hsb:scanBound=4096:=rfl;have hsz:es.size=zs.length:=by rw[<- hp.length_eq,X7,XU]
 unfold collect;refine X3 (wpAny_runValue (YM F.entry_proto_collect ?_));rw[Z0 F.plain_proto_collect _];show X4 _ A.in1 (newList [] >>= fun l=>again (.builtin "list.__iadd__" ⟨[l,.ref S],[]⟩)) _ _ s;refine X3 (Ux ?_);refine Xa ⟨YL F.plain_list_iadd _,YM F.entry_list_iadd ?_⟩;rw[Z0 F.plain_list_iadd _];show X4 _ A.in1 (Gj (.ref s.heap.objs.size) (.ref S) (.ref s.heap.objs.size)) _ _ _;have hne:s.heap.objs.size≠S:=(XH hSl).symm;generalize hL:s.heap.objs.size=L at*;have hgL:(s.heap.push {cls:=.type "list",data:=.seq ([]:List X0).toArray}).get? L=some {cls:=.type "list",data:=.seq ([]:List X0).toArray}:=by
  rw[<- hL];exact XS _ rfl
 have hgS:(s.heap.push {cls:=.type "list",data:=.seq ([]:List X0).toArray}).get? S=some o:=Xs _ ho;have hbig:(s.heap.push {cls:=.type "list",data:=.seq ([]:List X0).toArray}).objs.size=L+1:=by rw[Uk,hL]
 have hold:∀b u,s.heap.get? b=some u->b≠L/\(s.heap.push {cls:=.type "list",data:=.seq ([]:List X0).toArray}).get? b=some u:=fun b u e=>
  ⟨by rw[<- hL];exact XH (XA e),Xs _ e⟩
 generalize s.heap.push {cls:=.type "list",data:=.seq ([]:List X0).toArray}=h₁ at*;have hT:A8 {s with heap:=h₁} (.ref S) "set":=⟨o,hgS,hex.1⟩;unfold Gj;refine X3 (V9 hT ?_);have e1:Gk (.ref L) (.ref S)=false:=by simp[Gk,hne]
 have e2:(XJ "set"==XJ "list")=false:=by decide
 have e3:(XJ "set"==XJ "tuple")=false:=by decide
 simp only[e1,e2,e3,Bool.or_false,Yo,if_false];refine X3 (SH (s:={s with heap:=h₁}) hgS hS λI h₂ d hW hk=>?_);obtain⟨fp,n,vs,St,hWk,hst,hvn,hvp,hvs,hfp,hI⟩:=hW;have hk':∀b u,h₁.get? b=some u->h₂.get? b=some u:=hk;have hT2:A8 {s with heap:=h₂,drawn:=d} (.ref S) "set":=⟨o,hk' _ _ hgS,hex.1⟩;refine X3 (YF ?_);unfold Builtin.List.listLengthHint;refine X3 (wpAny_specialOf hT2 F.slot_set_len.lookup ?_);have hsp:splitId "set.__len__"=some ("set","__len__"):=by decide+kernel
 extract_lets j1 j2
 dsimp -zeta only;rw[hsp];dsimp -zeta only;refine X3 (Va hT2 sub_set_self ?_);simp only[WZ,Yo,if_false];show X4 _ _ (ite (_=true) _ _) _ _ _;split
 case isFalse hs=>exact absurd (by rfl) hs
 refine X3 (V9 hT2 ?_);refine Xa ?_;split
 case isFalse hs=>exact absurd (by rfl) hs
 refine X3 (Vb ?_);refine X3 ?_;have hS₁:h₂.get? L=some {cls:=.type "list",data:=.seq ([]:List X0).toArray}:=hk' _ _ hgL;show X4 _ A.in1 (updateSeq L (·.push .none)>>= λ_=>updateSeq L (·.pop)) _ _ _;refine X3 (WR hS₁ rfl ?_);have hS₂:=UW (V0 (·.push XB)) hS₁ rfl;refine WR hS₂ rfl ?_;have hS₃:=UW (V0 (·.pop)) hS₂ rfl;have oth:∀b o,b≠L->h₂.get? b=some o->((h₂.update L (V0 (·.push XB))).update L (V0 (·.pop))).get? b=some o:=
  λb o hb e=>(Uj _ _ (YI hb)).trans ((Uj _ _ (YI hb)).trans e)
 have hLf:L∉fp:=λz=>by
  rcases hfp L z with e|e
  ·exact hne e
  ·have:L+1≤L:=hbig▸e;lia
 have hin:A.in1.handled=none:=by simp[hh]
 have W:=(hWk A.in1 hin).toS;have hn:n≤sizeLine:=by
  have:n=zs.length:=by rw[<- hvn,<- hvp.length_eq,X7]
  lia
 refine Xa ⟨YL F.plain_extend_loop _,codeAny_extend_loopS W hn L hLf _ n 0 _ _ _ rfl (YD _)
  (W.frame 0 ({s with heap:=h₂,drawn:=d}:X1) _ s.toks hst (Xl _) λb hb o e=>oth b o (λz=>hLf (z▸hb)) e) hS₃ (ItemsOf.nil _) λs' acc' c' hm hS' hacc=>?_⟩
 show X4 _ A (load L >>= _) _ _ s';refine X3 (VU hS' ?_);have hav:acc'.toList=vs:=by
  refine CS λi=>?_;by_cases hi:i<acc'.size
  ·have e:=hacc.2 i acc'[i] (by simp[hi])
   rw[e];simp[hi]
  ·rw[Vp (by simp;lia),Vp (by have:=hacc.1;lia)]
 obtain⟨h',g',d',tk',os'⟩:=s';have eg:g'=s.gens:=hm.gens;have ed:d'=d:=hm.drawn;have eo:os'=s.os:=hm.os;subst ed;subst eo;refine Xa ?_;show Q acc'.toList _;rw[hav];refine hQ vs h' _ g' tk' hvp hvs (λb u e=>?_) eg (Bm (XA hS'));have hbL:=hold b u e;refine hm.heap b u ?_ (oth b u hbL.1 (hk' b u hbL.2));simp only[Xt,Y1,or_false,not_or];refine⟨hbL.1,λz=>?_⟩;have h1:L+1≤I:=Y3 (A0 hbig.symm) hI;have h2:b<L:=by rw[<- hL];exact XA e
 rw[z]at h2;exact absurd h1 (Nat.not_le_of_lt (Vu h2))
theorem SJ{S:Addr}{o:Obj}{zs:List Str}{Q:X0->X1->Prop}(hh:A.handled=none)(ho:s.heap.get? S=some o)(hS:WSet prog w o zs)(h64:zs.length<64)
  (h:∀(p:Addr) (h':Heap) (d:Drawn) tk (out:List X0) (ss:List Str) (e:Nat),s.heap.objs.size≤p->(∀b o,s.heap.get? b=some o->h'.get? b=some o)->h'.get? p=some (seqObj "list" out.toArray e)->
   StrsAre out ss->ss.Perm zs->sortedS ss=true->Q (.ref p) {s with heap:=h',drawn:=d,toks:=tk}):
  X4 (X8 prog w) A (call (.builtin "sorted") [.ref S]) Q E s:=by
 refine Calls.call_function_entry kind_sorted plain_sorted entry_sorted (args_sorted1 _) ?_;unfold Builtin.«sorted»;refine X3 (m:=checkCount "sorted" 1 1 _) (Xa ?_);have hsl:sizeLine=16777216:=by decide
 refine X3 (SI (by simp[hh]) ho hS λvs h₁ d g tk hp hv hk hg hle=>?_)
 subst hg;have hl:vs.length=zs.length:=by rw[<- hp.length_eq,X7]
 refine X3 (wpAny_newList ?_ (by lia))
 have hoL:(h₁.push (seqObj "list" vs.toArray 0)).get? h₁.objs.size=some (seqObj "list" vs.toArray 0):=XS _ rfl;have hS':StrsAre vs (vs.map strOf):=strsAre_map vs λv hm=>by obtain⟨t,e⟩:=hv v hm;exact⟨_,t,e⟩
 have hto:vs.map strOf=vs.map txt:=List.map_congr_left λv hm=>by obtain⟨t,e⟩:=hv v hm;rw[e];rfl
 show X4 _ _ _ _ _ {s with heap:=h₁.push (seqObj "list" vs.toArray 0),drawn:=d,toks:=tk};refine X3 (YF (Uf slot_list_sort ⟨_,hoL,rfl⟩ entry_list_sort (list_sort_treeK strKind_oneLt hoL hS'.keysOf (λv₁ v₂ rest e=>keyKind_strs (by rw[<- e];exact hS')) (by lia) λst' a1 a2=>⟨_,rfl,?_⟩) (args_list_sort _)))
 obtain⟨ss',z1,z2,z3⟩:=sorted_out_str hS' a1 a2;refine Xa ⟨_,rfl,?_⟩;obtain⟨e,he⟩:=sortedHeap_at (out:=(arrOf st').map (·.2)) hoL;refine h h₁.objs.size _ d tk ((arrOf st').map (·.2)).toList ss' e hle (λb o hb=>?_) (by rw[Array.toArray_toList];exact he) z1 (by rw[hto]at z2;exact z2.trans hp) z3
 have hb1:=hk b o hb;have hlt:b<h₁.objs.size:=XA hb1;rw[sortedHeap_old (XH hlt) (by rw[size_push'];exact Vu hlt)]
 exact Xs _ hb1
end
theorem Inv.drew{X:Cx}{pins:List (Addr×Obj)}{σ:St}{H:Hp}{s:X1}(I:Inv X pins σ H s)(d:Drawn):Inv X pins σ H {s with drawn:=d}:=
 ⟨I.ok,I.os,I.bare,I.base,I.loc,I.cell,I.free,I.freeC,I.pin,I.hok,I.len⟩
theorem few{zs:List Str}(nd:zs.Nodup):∀(N:List Str),(∀z∈zs,z∈N)->zs.length≤N.length:=by
 induction zs with
 |nil=>intro N _;exact YD _
 |cons z zs ih=>
  intro N h;rw[YO]at nd;have hz:=h z Yg;have hp:=List.perm_cons_erase hz;have:=ih nd.2 (N.erase z) λy hy=>by
   have:=hp.mem_iff.mp (h y (Ya _ hy));rcases Xt.mp this with e|e
   ·exact absurd (e▸hy) nd.1
   ·exact e
  have hl:=hp.length_eq;simp only[YZ]at hl ⊢;lia
theorem HK:∀{vs:List X0} {ss:List Str},StrsAre vs ss->Vals (ss.map V.str) vs
 |_,_,.nil=>.nil
 |_,_,.cons x t h=>.cons ⟨t,rfl⟩ (HK h)
noncomputable def Ak(X:Cx)(f g:X0)(r:V->Hp->VK->Prop):Prop:=
 ∀(pins:List (Addr×Obj)) (s:X1) (σ:St) (H:Hp) (x:V) (u:X0) (Q:VK),Inv X pins σ H s->RelV x u->r x H Q->
  X4 (X8 X.prog X.w) X.A (call g [u]) (λv s1=>X4 (X8 X.prog X.w) X.A (call f [v]) (EP X pins σ Q) X.xe s1) X.xe s
section
variable{X:Cx}
theorem HL{x y:Str}{id T:String}{r:V->Hp->VK->Prop}{e:Expr}{t:TE}{p p' pos pos':Pos}(hc:Ak X (.builtin id) (.type T) r)
  (hg:Gl X x) (hm:X.mg x=none) (hv:YE x=some (.builtin id)) (hg':Gl X y) (hm':X.mg y=none) (hv':YE y=some (.type T)) (ha:PE X e t)
  (hn:x≠"__name__") (hdb:(x==("__debug__":Str))=false) (hn':y≠"__name__") (hdb':(y==("__debug__":Str))=false)
  (he:XM [e] X.env=(false,eval e X.env)::XM [] X.env):
  PE X (.Call (.Name x p) [.Call (.Name y p') [e] [] pos'] [] pos) (λσ H Q=>t σ H λv H1=>r v H1 Q):=by
 intro pins s σ H Q I h;refine V8 (Um I hg hm hv ?_ hn hdb);refine G3 ?_ rfl rfl;show X4 _ _ (spliced ((false,eval (.Call (.Name y p') [e] [] pos') X.env)::Yn pos (XM [] X.env))) _ _ s;refine A6 ?_;refine V8 (Um I hg' hm' hv' ?_ hn' hdb');refine VA ?_ he rfl;rw[he];show X4 _ _ (spliced ((false,eval e X.env)::Yn pos' (XM [] X.env))) _ _ s;refine A6 (thn (ha pins s σ H _ I h) λu s1 ⟨v,H1,I1,r1,q1⟩=>?_);refine A7 ?_;exact thn (hc pins s1 σ H1 v u Q I1 r1 q1) λu2 s2 q2=>A7 q2
theorem SK(hcalm:X.calm=true):Ak X (.builtin "sorted") (.type "set") (fun x H Q=>∃(a:Addr) (xs N:List Str),x=.ref a/\SqL X.K H a (xs.map V.str)/\xs.length+1<scanBound/\(∀z∈xs,z∈N)/\N.length<64/\
  ∀p (ys:List Str),H p=none->ys.Nodup->(∀y,y∈ys↔y∈xs)->sortedS ys=true->Q (.ref p) (upd H p (.lst (ys.map V.str)))):=by
 intro pins s σ H x u Q I rx h;obtain⟨a,xs,N,rfl,ha,hlen,hN,hN64,q⟩:=h;cases rx;obtain⟨its,rv,p,hz⟩:=I.list ha;have hh:=I.ok.hd hcalm;have hil:its.length=xs.length:=by rw[<- rv.length,X7]
 have hsz:its.toArray.size=xs.length:=by simp[hil]
 have hi:∀(i:Nat) (v:X0),its.toArray[i]?=some v->∃t,v=XL (xs.getD i ⟨#[]⟩) t:=λi v hv=>by
  have hv':its[i]?=some v:=by simpa using hv
  have hlt:i<xs.length:=by rw[<- hil];exact(XE.mp hv').1
  obtain⟨u,hu,ru⟩:=rv.get (i:=i) (x:=V.str xs[i]) (by simp[hlt])
  rw[hv']at hu;cases hu;obtain⟨t,rfl⟩:=ru;exact⟨t,by simp[WY,hlt]⟩
 have hmem:∀y,y∈met (λi=>xs.getD i ⟨#[]⟩) xs.length↔y∈xs:=λy=>by
  rw[Hy,List.mem_iff_getElem];constructor
  ·rintro⟨j,hj,rfl⟩;exact⟨j,hj,by simp[WY,hj]⟩
  ·rintro⟨j,hj,rfl⟩;exact⟨j,hj,by simp[WY,hj]⟩
 refine Sr (f:=λi=>xs.getD i ⟨#[]⟩) hh p.isList hi (by rw[hsz];exact hlen) λh1 tk1 o ho hS hk=>?_
 rw[hsz]at hS;have I1:Inv X pins σ H {s with heap:=h1,toks:=tk1}:=I.kept λb u e=>hk b u (XA e) e;have nd:=Hx (λi=>xs.getD i ⟨#[]⟩) xs.length;refine SJ (s:={s with heap:=h1,toks:=tk1}) hh ho hS (Nat.lt_of_le_of_lt (few nd N λz hz=>hN z ((hmem z).mp hz)) hN64) λp2 h2 d tk2 out ss e hp hk2 hp2 ho2 hperm hsort=>?_;have hlen2:ss.length≤sizeLine:=by
  have hsl:sizeLine=16777216:=by decide
  have:=few nd N λz hz=>hN z ((hmem z).mp hz);rw[hperm.length_eq];lia
 have I2:=(I1.laid (a:=p2) (t':=tk2) (h':=h2) (o:=.lst (ss.map V.str)) (λb u e=>hk2 b u e) hp
  ⟨by rw[X7];exact hlen2,out,e,HK ho2,hp2⟩).drew d
 exact⟨.ref p2,_,I2,rfl,q p2 ss (I1.hok.fresh hp) (hperm.nodup_iff.mpr nd) (λy=>(hperm.mem_iff).trans (hmem y)) hsort⟩
end
theorem SL:VW (.type "list") "keys"=pure none:=by rw[VZ,W0];kernel_rfl
theorem SM:VW (.type "list") "__getattr__"=pure none:=by rw[VZ,W0];kernel_rfl
theorem Wn:isSubtype (.type "AttributeError") (.type "AttributeError")=pure true:=by rw[isSubtype_type];kernel_rfl
section
variable{prog:Xn}{w:Xj}{A:Xz}{E:X0->X1->Prop}{h:Heap}{g:Array US}{d:Drawn}{t:Nat}{os:OsState}{a:Addr}{its:Array X0}{n:Nat}
theorem SN{tk:Tok}{Q:Fin->X1->Prop}(hx:h.get? a=some (seqObj "list" its n))(hh:A.handled=none)
  (hE:∀e h' t',(∀b o,h.get? b=some o->h'.get? b=some o)->(∃o,h'.get? e=some o/\o.cls=.type "AttributeError")->E (.ref e) ⟨h',g,d,t',os⟩):
  X4 (X8 prog w) A (Builtin.«object.__getattribute__» ⟨[.ref a,.str "keys" tk],[]⟩) Q E ⟨h,g,d,t,os⟩:=by
 have hT:(⟨h,g,d,t,os⟩:X1).TypeIs (.ref a) "list":=⟨_,hx,rfl⟩;have f4:=SL;unfold Builtin.«object.__getattribute__»
 repeat (any_goals (first|assumption|wp_step))
 have hmsg:¬(Ys (toString "'"++toString ((Wg "list").elim "list" fun x=>x.tpName)++toString "' object has no attribute '")++Ys "keys"++Ys "'").length>sizeLine:=by decide+kernel
 generalize(Ys (toString "'"++toString ((Wg "list").elim "list" fun x=>x.tpName)++toString "' object has no attribute '")++Ys "keys"++Ys "'")=msg at hmsg ⊢;unfold raiseAttrError;refine X3 ?_;unfold mkStr;rw[if_neg hmsg]
 repeat (any_goals (first|assumption|wp_step))
 show X4 _ _ (isSubtype (.type "AttributeError") (.type "AttributeError")) _ _ _;rw[Wn];generalize(if((Wg "AttributeError").elim false fun t=>t.mro.contains "StopIteration"||t.mro.contains "SystemExit")=true then [XL msg t].headD XB else XB)=fm;refine Xa ?_;simp only[WZ,Yo,if_false];have hoE:((h.push {cls:=XJ "tuple",data:=Z8 #[XL msg t]}).push {cls:=XJ "AttributeError",data:=UE (#[XD h.objs.size,XB,XB,XB,Yh false,fm]++YX (XJ "AttributeError") [XL msg t])}).get? (h.push {cls:=XJ "tuple",data:=Z8 #[XL msg t]}).objs.size=some {cls:=XJ "AttributeError",data:=UE (#[XD h.objs.size,XB,XB,XB,Yh false,fm]++YX (XJ "AttributeError") [XL msg t])}:=XS _ rfl;have e6:(#[XD h.objs.size,XB,XB,XB,Yh false,fm]++YX (XJ "AttributeError") [XL msg t])[6]?=some (.int 0 0):=rfl;have e7:(#[XD h.objs.size,XB,XB,XB,Yh false,fm]++YX (XJ "AttributeError") [XL msg t])[7]?=some (.int 0 0):=rfl;have old:∀b o,h.get? b=some o->((h.push {cls:=XJ "tuple",data:=Z8 #[XL msg t]}).push {cls:=XJ "AttributeError",data:=UE (#[XD h.objs.size,XB,XB,XB,Yh false,fm]++YX (XJ "AttributeError") [XL msg t])}).get? b=some o/\b<(h.push {cls:=XJ "tuple",data:=Z8 #[XL msg t]}).objs.size:=fun b o e=>
  ⟨Xs _ (Xs _ e),by rw[Uk];exact Vu (XA e)⟩
 generalize(h.push {cls:=XJ "tuple",data:=Z8 #[XL msg t]}).objs.size=ea at*;generalize((h.push {cls:=XJ "tuple",data:=Z8 #[XL msg t]}).push {cls:=XJ "AttributeError",data:=UE (#[XD h.objs.size,XB,XB,XB,Yh false,fm]++YX (XJ "AttributeError") [XL msg t])})=h2 at*;generalize hvs:#[XD h.objs.size,XB,XB,XB,Yh false,fm]++YX (XJ "AttributeError") [XL msg t]=vs at*;refine X3 (VU hoE ?_);dsimp only;rw[e6,e7];simp only[Wa,Yo,if_false];rw[if_neg (by decide)]
 refine Xa ?_;simp only[if_true];have hT2:(⟨h2,g,d,t+1+1,os⟩:X1).TypeIs (.ref ea) "AttributeError":=⟨_,hoE,rfl⟩;refine X3 (Vb ?_);refine X3 (V9 hT2 ?_);dsimp only;unfold layMembers;refine X3 (VU hoE ?_);dsimp only;refine wpAny_update hoE ?_;unfold raiseNew;refine X3 (wpAny_handled ?_);rw[hh];show X4 _ _ (throw (XD ea)) _ _ _;have hup:=UW (Dk fun vs=>vs.extract 0 6++#[XL (Ys "keys") (t+1),XD a]) hoE (Di (By rfl _));refine wpAny_throw (hE ea _ _ (λb o e=>?_) ⟨_,hup,Dj ..⟩);have:=old b o e;exact(Uj _ _ (Vw this.2)).trans this.1
theorem SO{tk:Tok}{Q:X0->X1->Prop}(hx:h.get? a=some (seqObj "list" its n))(hh:A.handled=none)
  (hE:∀e h' t',(∀b o,h.get? b=some o->h'.get? b=some o)->(∃o,h'.get? e=some o/\o.cls=.type "AttributeError")->E (.ref e) ⟨h',g,d,t',os⟩):
  X4 (X8 prog w) A (getAttrBy (.ref a) (.str "keys" tk) false) Q E ⟨h,g,d,t,os⟩:=by
 have hT:(⟨h,g,d,t,os⟩:X1).TypeIs (.ref a) "list":=⟨_,hx,rfl⟩;have f2:=Bt.lookup;have f3:=Bt.bind (.ref a)
 repeat (any_goals (first|assumption|wp_step))
 refine VY Bt.plain F.entry_list_ga (Bt.check _ _ _ _ _ _ _ _ hT (F.args_list_getattribute_2 _ _) (SN hx (by simp[hh]) λe h' t' k ho=>?_))
 have hTe:(⟨h',g,d,t',os⟩:X1).TypeIs (.ref e) "AttributeError":=ho;show X4 _ _ (B5 _ _ _ _ _ _ _) _ _ _;unfold B5;refine X3 (Va hTe Wn ?_);simp only[if_true];unfold hookBehind onTheHeap;simp only[Yo,if_false];rw[SM];refine X3 (Xa ?_);unfold hookOrError attributeErrorLeaves;simp only[Bj,if_true];exact X3 (wpAny_throw (hE e h' t' k ho))
theorem SQ{Q:Option X0->X1->Prop}{s:X1}(hx:s.heap.get? a=some (seqObj "list" its n))(hh:A.handled=none)
  (hQ:∀h' t',(∀b o,s.heap.get? b=some o->h'.get? b=some o)->Q none {s with heap:=h',toks:=t'}):X4 (X8 prog w) A (getAttr? (.ref a) "keys") Q E s:=by
 obtain⟨h,g,d,t,os⟩:=s;unfold getAttr? getAttrBy? mkText;refine X3 (X3 (wpAny_fresh (Xa ?_)));refine X3 (wpAny_attempt (SO hx hh λe h' t' k ho=>?_));have hTe:(⟨h',g,d,t',os⟩:X1).TypeIs (.ref e) "AttributeError":=ho;refine X3 (Va hTe Wn ?_);simp only[if_true];exact Xa (hQ h' t' k)
end
theorem HM:entryFor table "dict.update.loop"=some Builtin.«dict.update.loop»:=entryFor_of_tree (by kernel_rfl)
theorem Al:plainId "dict.update.loop"=true:=by decide+kernel
section
variable{prog:Xn}{w:Xj}{A:Xz}{E:X0->X1->Prop}{s:X1}{K:Type} [DecidableEq K] {knd:KeyKind prog w K}
noncomputable def stTo(ks:Nat->K)(vs:Nat->X0):Nat->List (K×X0)
 |0=>[]
 |i+1=>stored (stTo ks vs i) (ks i) (vs i)
theorem SR(kvs:List (K×X0))(k:K)(v:X0):(stored kvs k v).length≤kvs.length+1:=by
 unfold stored;split<;>simp
theorem BL(ks:Nat->K)(vs:Nat->X0):∀i,(stTo ks vs i).length≤i
 |0=>Xl _
 |i+1=>Y3 (SR _ _ _) (Da (BL ks vs i))
theorem HN{R:Result->X1->Prop}{I:Addr}{fp wr:List Addr}{G:Array US->Array US->Prop}{n:Nat}{P:Nat->X0->Prop}{St:Nat->X1->Prop}
  (W:WalksS prog w A.in1 I fp wr G n P St) (D:Addr) (hDf:D∉fp) (ks:Nat->K) (vs:Nat->X0) (hb:n≤sizeLine):
  ∀(k i:Nat) (s:X1),n - i=k->i≤n->St i s->s.heap.DictOf knd D (stTo ks vs i)->
   (∀j v,P j v->∃q uk np oq,v=.ref q/\q≠D/\q∉wr/\s.heap.get? q=some oq/\oq.cls=.type "tuple"/\oq.data=.seq #[uk,vs j] np/\knd.is (ks j) uk=true)->
   (∀s',Moved (D::wr) G s s'->s'.heap.DictOf knd D (stTo ks vs n)->R (.ok (.ret .none)) s')->
   YW (X8 prog w) A (.builtin "dict.update.loop" ⟨[.ref D,.ref I,Y5 (i:Nat),.none],[]⟩) R s:=by
 have hDw:D∉wr:=λh=>hDf (W.sub _ h);have hsub:∀b∈wr,b∈D::wr:=λb hb=>Ya _ hb;intro k
 induction k with
 |zero=>
  intro i s hk hi hst hd ht hR;have hin:i=n:=by lia
  subst hin;refine YM HM ?_;rw[Z0 Al _];show X4 _ A.in1 (YV (.ref I)>>= _) _ _ s;refine X3 (W.done s _ _ hst λs' hm=>?_);refine X3 (m:=Builtin.Dict.addKeywords D []) (Xa ?_);refine Xa (hR s' (hm.mono hsub) ?_);obtain⟨o,es,ep,ho,r⟩:=hd;exact⟨o,es,ep,hm.heap D _ hDw ho,r⟩
 |succ k ih=>
  intro i s hk hi hst hd ht hR;have hlt:i<n:=by lia
  refine YM HM ?_;rw[Z0 Al _];show X4 _ A.in1 (YV (.ref I)>>= _) _ _ s;refine X3 (W.item i s _ _ hlt hst λv s' hP hst' hm=>?_);obtain⟨q,uk,np,oq,rfl,hqD,hqw,hq,hqc,hqd,hkey⟩:=ht i v hP;have hq':=hm.heap q _ hqw hq;have hd':s'.heap.DictOf knd D (stTo ks vs i):=by
   obtain⟨o,es,ep,ho,r⟩:=hd;exact⟨o,es,ep,hm.heap D _ hDw ho,r⟩
  have hT:s'.TypeIs (.ref q) "tuple":=⟨_,hq',hqc⟩;show X4 _ A.in1 (Uu [XD q] _ >>= _) _ _ s';refine X3 (YF ?_);refine X3 (W4 ?_);unfold Builtin.Dict.pairItems;refine X3 (V9 hT ?_);have e2:(XJ "tuple"==XJ "tuple")=true:=rfl;rw[e2,Bl,if_pos rfl];refine X3 (WQ hq' hqd (Xa ?_));show X4 _ A.in1 (Uu [uk,vs i] (dictSet D uk (vs i))) _ _ s';refine YF ?_;have hl:=BL ks vs i;refine wpAny_dictSet_pairs (knd:=knd) hkey hd' (λh' hd2 hsb=>?_) (by lia)
  refine Xa ⟨YL Al _,?_⟩;have:=ih (i+1) {s' with heap:=h',toks:=s'.toks+1} (by lia) hlt (W.frame _ s' _ _ hst' (Ul _) λb hb o e=>?_) hd2 (λj v hPj=>?_) λs'' hm'' hd''=>?_
  ·exact this
  ·rw[hsb.2 b (λz:b=D=>hDf (by rw[<- z];exact hb))];exact e
  ·obtain⟨q,uk,np,oq,rfl,a1,a2,a3,a4⟩:=ht j v hPj;exact⟨q,uk,np,oq,rfl,a1,a2,(hsb.2 q a1).trans (hm.heap q _ a2 a3),a4⟩
  ·refine hR s'' (Moved.trans W.gtrans ((hm.mono hsub).then_heap (Ul _) λb o hb e=>?_) hm'') hd'';rw[hsb.2 b (λz:b=D=>hb (by rw[z];exact Yg))];exact e
theorem SS{l:Addr}{items:Array X0}{nl:Nat}{ks:Nat->K}{vs:Nat->X0}{Q:X0->X1->Prop}(hh:A.handled=none)(hl:s.heap.get? l=some (seqObj "list" items nl))(hn:items.size≤sizeLine)
  (ht:∀(j:Nat) v,items[j]?=some v->∃q uk np oq,v=.ref q/\s.heap.get? q=some oq/\oq.cls=.type "tuple"/\oq.data=.seq #[uk,vs j] np/\knd.is (ks j) uk=true)
  (h:∀h' tk,h'.DictOf knd s.heap.objs.size (stTo ks vs items.size)->(∀b o,b<s.heap.objs.size->s.heap.get? b=some o->h'.get? b=some o)->Q (.ref s.heap.objs.size) {s with heap:=h',toks:=tk}):
  X4 (X8 prog w) A (call (.type "dict") [.ref l]) Q E s:=by
 refine callType_codes (Q₁:=fun obj s₁=>obj=.ref s.heap.objs.size/\s₁={s with heap:=s.heap.push {cls:=.type "dict",data:=.dict #[]} }) F.kt_called_dict (F.kt_typeCall_dict_1 _) F.entry_dict_init (kt_code_dict_new _ ⟨rfl,rfl⟩) ?_;rintro obj s₁ ⟨rfl,rfl⟩;have hnew:(s.heap.push {cls:=.type "dict",data:=.dict #[]}).DictOf knd s.heap.objs.size []:=Dr s.heap;have hl':(s.heap.push {cls:=.type "dict",data:=.dict #[]}).get? l=some (seqObj "list" items nl):=Xs _ hl;have hT:A8 {s with heap:=s.heap.push {cls:=.type "dict",data:=.dict #[]} } (.ref l) "list":=⟨_,hl',rfl⟩;refine⟨hnew.typeIs,F.args_dict_init_2 _ _,?_⟩;unfold Builtin.«dict.__init__»;refine X3 ?_;unfold Gf;refine X3 (B3 hnew.typeIs ?_);show X4 _ _ (pure (s.heap.objs.size,[XD l])) _ _ _;refine Xa ?_;show X4 _ _ (Bw "dict.__init__" s.heap.objs.size (.ref l) [] .none) _ _ _;unfold Bw;refine X3 (V9 hT ?_);rw[if_pos (by decide)]
 refine X3 (SQ (s:={s with heap:=s.heap.push {cls:=.type "dict",data:=.dict #[]} }) hl' (by simp[hh]) fun h1 t1 hk1=>?_)
 simp only[Option.isNone_none,if_true];refine X3 (Vb ?_);have hl1:h1.get? l=some (seqObj "list" items nl):=hk1 _ _ hl';have hL1:h1.IsList l items:=⟨_,hl1,rfl,nl,rfl⟩;have hlS:l<s.heap.objs.size:=XA hl;have hbig:s.heap.objs.size<h1.objs.size:=by
  obtain⟨o,es,ep,ho,_⟩:=hnew;exact XA (hk1 _ _ ho)
 refine X3 (B4 (s:={s with heap:=h1,toks:=t1}) hL1 ?_);have hneI:l≠h1.objs.size:=XH (Vx hlS hbig);refine Xa ⟨YL Al _,?_⟩;refine HN (knd:=knd) (n:=items.size) ((BA (A:=A.in1.in1) (by simp[hh]) h1.objs.size l hneI items).toS) s.heap.objs.size ?_ ks vs hn items.size 0 _ rfl (YD _)
  ⟨⟨_,XS _ rfl,rfl,rfl⟩,hL1.push _⟩ ?_ ?_ ?_
 ·simp only[Xt,Y1,or_false,not_or];exact⟨XH hbig,Vw hlS⟩
 ·obtain⟨o,es,ep,ho,r⟩:=hnew;exact⟨o,es,ep,Xs _ (hk1 _ _ ho),r⟩
 ·intro j v hv;obtain⟨q,uk,np,oq,rfl,a1,a2⟩:=ht j v hv;have hqS:q<s.heap.objs.size:=XA a1;refine⟨q,uk,np,oq,rfl,XH hqS,?_,Xs _ (hk1 _ _ (Xs _ a1)),a2⟩;simp only[Yk];exact XH (Vx hqS hbig)
 ·intro s' hm hd;obtain⟨h',g',d',tk',os'⟩:=s';have eg:g'=s.gens:=hm.gens;have ed:d'=s.drawn:=hm.drawn;have eo:os'=s.os:=hm.os;subst eg;subst ed;subst eo;refine⟨rfl,h h' tk' hd λb o hb e=>?_⟩;refine hm.heap b o ?_ (Xs _ (hk1 _ _ (Xs _ e)));simp only[Xt,Y1,or_false,not_or];exact⟨XH hb,XH (Vx hb hbig)⟩
end
noncomputable def DG(H:Hp):List (Key×V)->List V->Prop:=Paired fun(p:Key×V) (v:V)=>∃q,v=.ref q/\H q=some (.tup [kV p.1,p.2])
noncomputable def UL(ps:List (Key×V)):List (Key×V):=ps.foldl (λc z=>putK c z.1 z.2) []
theorem Paired.at{α β:Type}{R:α->β->Prop}:∀{xs:List α} {ys:List β},Paired R xs ys->∀(i:Nat) (y:β),ys[i]?=some y->∃x,xs[i]?=some x/\R x y
 |_,_,.nil,i,y,h=>by simp at h
 |_,_,.cons r _,0,y,h=>by simp at h;subst h;exact⟨_,rfl,r⟩
 |_,_,.cons _ t,i+1,y,h=>by simp at h;obtain⟨x,hx,r⟩:=Paired.at t i y h;exact⟨x,by simpa using hx,r⟩
section
variable{X:Cx}
theorem ST(hcalm:X.calm=true):CallR X (.type "dict") (fun xs H Q=>∃(a:Addr) (ps:List (Key×V)) (qs:List V),xs=[.ref a]/\H a=some (.lst qs)/\DG H ps qs/\∀p,H p=none->Q (.ref p) (upd H p (.dK (UL ps)))):=by
 intro pins s σ H xs us Q I r h;obtain⟨a,ps,qs,rfl,ha,hp,q⟩:=h;obtain⟨u,rfl,ru⟩:=YR r;cases ru;obtain⟨hz,its,nl,rv,hl⟩:=(show ObjOk X.prog X.w H s.heap a (.lst qs)from I.hok a _ ha);have hh:=I.ok.hd hcalm;have hlen:its.length=ps.length:=by rw[<- rv.length,hp.length]
 have hpair:∀(j:Nat) v,its.toArray[j]?=some v->∃q uk uv np oq,v=.ref q/\s.heap.get? q=some oq/\oq.cls=.type "tuple"/\oq.data=.seq #[uk,uv] np/\∃p,ps[j]?=some p/\RelV (kV p.1) uk/\RelV p.2 uv:=fun j v hv=>by
  have hv':its[j]?=some v:=by simpa using hv
  obtain⟨y,hy,ry⟩:=Paired.at rv j v hv';obtain⟨p,hpj,q,rfl,hq⟩:=Paired.at hp j y hy;cases ry;obtain⟨_,ts,rt,ht⟩:=(show ObjOk X.prog X.w H s.heap q (.tup [kV p.1,p.2])from I.hok q _ hq);obtain⟨uk,uv,rfl,r1,r2⟩:=Wk rt;obtain⟨oq,ho,hc,n,hd⟩:=ht.1;exact⟨q,uk,uv,n,oq,rfl,ho,hc,hd,p,hpj,r1,r2⟩
 obtain⟨vs,hvs⟩:∃vs:Nat->X0,∀(j:Nat) v,its.toArray[j]?=some v->∃q uk np oq,v=.ref q/\s.heap.get? q=some oq/\oq.cls=.type "tuple"/\oq.data=.seq #[uk,vs j] np/\∃p,ps[j]?=some p/\RelV (kV p.1) uk/\RelV p.2 (vs j):=by
  refine⟨λj=>if h:j<its.length then(hpair j its[j] (by simp[h])).choose_spec.choose_spec.choose else .none,λj v hv=>?_⟩
  have hv':its[j]?=some v:=by simpa using hv
  obtain⟨hj,rfl⟩:=XE.mp hv';dsimp only;rw[dif_pos hj];have z:=(hpair j its[j] (by simp[hj]))
  exact⟨z.choose,z.choose_spec.choose,z.choose_spec.choose_spec.choose_spec⟩
 refine SS (knd:=Yt X.prog X.w) (ks:=λj=>(ps.getD j (.inl 0,.non)).1) (vs:=vs) hh hl (by simpa [<- rv.length]using hz) (λj v hv=>?_) λh' tk hd hk=>?_
 ·obtain⟨q,uk,np,oq,e1,e2,e3,e4,p,hpj,r1,r2⟩:=hvs j v hv;refine⟨q,uk,np,oq,e1,e2,e3,e4,VF ?_⟩;rw[Yc,hpj];exact r1
 have kv:∀i,i≤ps.length->KV ((ps.take i).foldl (λc z=>putK c z.1 z.2) []) (stTo (λj=>(ps.getD j (.inl 0,.non)).1) vs i):=by
  intro i
  induction i with
  |zero=>intro _;exact .nil
  |succ i ih=>
   intro hi;have hlt:i<its.length:=by lia
   obtain⟨q,uk,np,oq,e1,e2,e3,e4,p,hpj,r1,r2⟩:=hvs i its[i] (by simp[hlt])
   rw[YN,hpj,Do,W5];show KV (putK _ p.1 p.2) (stored _ (ps.getD i (.inl 0,.non)).1 _);have ek:(ps.getD i (.inl 0,.non)).1=p.1:=by rw[Yc,hpj];rfl
   rw[ek];exact(ih (by lia)).put p.1 r2
 have kvn:=kv ps.length (Xl _);rw[UV]at kvn;have hsz:its.toArray.size=ps.length:=by simp[hlen]
 rw[hsz]at hd;have hpl:ps.length≤sizeLine:=by rw[hp.length];exact hz
 have zl:(UL ps).length≤sizeLine:=by
  have:=kvn.length;have l2:=BL (λj=>(ps.getD j (.inl 0,.non)).1) vs ps.length;unfold UL;lia
 exact⟨.ref s.heap.objs.size,_,I.laid (a:=s.heap.objs.size) (o:=.dK (UL ps)) (t':=tk) (λb u e=>hk b u (XA e) e) (Xl _) (Af zl (beq_eq_false_iff_ne.mpr (YI (XH I.big))) kvn hd),rfl,q _ (I.hok.fresh (Xl _))⟩
end
section
variable{X:Cx}
theorem SU:∀(bs:List Bool),((XX bs.length).all λi=>bs.getD i true)=bs.all id:=by
 intro bs;have e:(XX bs.length).map (λi=>bs.getD i true)=bs:=by
  refine List.ext_getElem (by simp) λi h1 h2=>?_
  simp[WY,h2]
 conv=>rhs;rw[<- e]
 rw[List.all_map]
 rfl
theorem SV(hcalm:X.calm=true):CallR X (.builtin "all") (fun xs H Q=>∃(a:Addr) (bs:List Bool),xs=[.ref a]/\SqL X.K H a (bs.map V.bl)/\Q (.bl (bs.all id)) H):=by
 intro pins s σ H xs us Q I r h;obtain⟨a,bs,rfl,ha,q⟩:=h;obtain⟨u,rfl,ru⟩:=YR r;cases ru;obtain⟨its,rv,p,hz⟩:=I.list ha;have hh:=I.ok.hd hcalm;have hil:its.length=bs.length:=by rw[<- rv.length,X7]
 have hit:∀(i:Nat) (v:X0),its.toArray[i]?=some v->v=.bool (bs.getD i true):=λi v hv=>by
  have hv':its[i]?=some v:=by simpa using hv
  have hlt:i<bs.length:=by rw[<- hil];exact(XE.mp hv').1
  obtain⟨u,hu,ru⟩:=rv.get (i:=i) (x:=V.bl bs[i]) (by simp[hlt])
  rw[hv']at hu;cases hu;rw[show v=.bool bs[i]from ru];simp[WY,hlt]
 have hlS:a<s.heap.objs.size:=by obtain⟨o,n,e,_⟩:=p;exact XA e
 refine PySem.call_all_walk (B4 p.isList ⟨_,_,_,_,_,_,λi=>bs.getD i true,rfl,BA (by simp[hh]) _ a (XH hlS) its.toArray,⟨⟨_,XS _ rfl,rfl,rfl⟩,p.isList.push _⟩,?_,λh' tk hk=>?_⟩)
 ·intro i v s Q E hP hQ;rw[hit i v hP];exact Ud hQ
 ·have hsz:its.toArray.size=bs.length:=by simp[hil]
  rw[hsz,SU];refine⟨.bl _,H,I.kept (t':=tk) λb o e=>?_,rfl,q⟩;exact hk b o (by simp only[Yk];exact XH (XA e)) (Xs _ e)
end
noncomputable def Its(x:Str):It:=⟨λi _=>i<x.cps.size,λi H v H'=>H'=H/\∃c,x.cps[i]?=some c/\v=.str ⟨#[c]⟩,λi _=>x.cps.size≤i⟩
theorem SW{P:Xn}{w:Xj}{K:X6}{tg:Expr}(it:Addr)(x:Str)(t:Tok):Turn P w K tg (Its x) [it] it (fun i h=>h.IsStrIter it "str_ascii_iterator" x t i)where
 mem:=by simp
 obj:=λi h st b hb=>by
  have e:b=it:=by simpa using hb
  subst e;obtain⟨o,e,c,d⟩:=st;exact⟨o,e,λv z=>by rw[d]at z;cases z⟩
 keep:=λi h h' st k=>by
  obtain⟨o,e,c,d⟩:=st;exact⟨o,k it (by simp) o e,c,d⟩
 item:=by
  intro X hP hw hK hc i pins s σ H E I hf st hg;subst hP hw hK;have hg:i<x.cps.size:=hg;obtain⟨f0,f1,f2,f3,f4,f5⟩:=hf it (by simp)
  refine wpAny_pyNext_ascii_item st (c:=x.cps[i]) (by simp[hg]) λh' st' sb=>?_
  have I1:Inv X pins σ H {s with heap:=h',toks:=s.toks+1}:=I.turned (λb o hb e=>(sb.2 b hb).trans e) f0 f1 f3 f4 f5;obtain⟨o,e,c,d⟩:=id st';exact⟨_,rfl,VE (s:={s with heap:=h',toks:=s.toks+1}) e c d (by decide) ⟨.str ⟨#[x.cps[i]]⟩,H,I1,⟨_,rfl⟩,⟨rfl,_,by simp[hg],rfl⟩,st',λb hb=>(hf b hb).1⟩⟩
 done:=by
  intro X hP hw hK hc i pins s σ H E I hf st hg;subst hP hw hK;have hg:x.cps.size≤i:=hg;obtain⟨f0,f1,f2,f3,f4,f5⟩:=hf it (by simp)
  exact wpAny_pyNext_ascii_end (I.ok.hd hc) st (by simp[hg]) λh' eb=>⟨rfl,I.turned (t':=s.toks) (λb o hb e=>eb b o hb e) f0 f1 f3 f4 f5⟩
 self:=λ_ _ _ _ _ st h=>wpAny_pyIter_striter_ascii st h
theorem SX{P:Xn}{w:Xj}{K:X6}{tg:Expr}(it:Addr)(x:Str)(t:Tok):Turn P w K tg (Its x) [it] it (fun i h=>h.IsStrIter it "str_iterator" x t i)where
 mem:=by simp
 obj:=λi h st b hb=>by
  have e:b=it:=by simpa using hb
  subst e;obtain⟨o,e,c,d⟩:=st;exact⟨o,e,λv z=>by rw[d]at z;cases z⟩
 keep:=λi h h' st k=>by
  obtain⟨o,e,c,d⟩:=st;exact⟨o,k it (by simp) o e,c,d⟩
 item:=by
  intro X hP hw hK hc i pins s σ H E I hf st hg;subst hP hw hK;have hg:i<x.cps.size:=hg;obtain⟨f0,f1,f2,f3,f4,f5⟩:=hf it (by simp)
  refine wpAny_pyNext_wide_item st (c:=x.cps[i]) (by simp[hg]) λh' st' sb=>?_
  have I1:Inv X pins σ H {s with heap:=h',toks:=s.toks+1}:=I.turned (λb o hb e=>(sb.2 b hb).trans e) f0 f1 f3 f4 f5;obtain⟨o,e,c,d⟩:=id st';exact⟨_,rfl,VE (s:={s with heap:=h',toks:=s.toks+1}) e c d (by decide) ⟨.str ⟨#[x.cps[i]]⟩,H,I1,⟨_,rfl⟩,⟨rfl,_,by simp[hg],rfl⟩,st',λb hb=>(hf b hb).1⟩⟩
 done:=by
  intro X hP hw hK hc i pins s σ H E I hf st hg;subst hP hw hK;have hg:x.cps.size≤i:=hg;obtain⟨f0,f1,f2,f3,f4,f5⟩:=hf it (by simp)
  exact wpAny_pyNext_wide_end (I.ok.hd hc) st (by simp[hg]) λh' eb=>⟨rfl,I.turned (t':=s.toks) (λb o hb e=>eb b o hb e) f0 f1 f3 f4 f5⟩
 self:=λ_ _ _ _ _ st h=>wpAny_pyIter_striter_wide st h
section
variable{X:Cx}{pins:List (Addr×Obj)}{σ:St}{H:Hp}{s:X1}
theorem SY{tg:Expr}{R:It->Hp->Prop}{E:X0->X1->Prop}{x:Str}{t:Tok}(I:Inv X pins σ H s)(q:R (Its x) H):X4 (X8 X.prog X.w) X.A (pyIter (.str x t)) (PIE X pins σ tg R) E s:=by
 have fp:∀b∈ [s.heap.objs.size],FpOk X pins H b:=λb hb=>by
  have e:b=s.heap.objs.size:=by simpa using hb
  subst e;exact I.fpOk (Xl _) (I.hok.fresh (Xl _))
 cases ha:x.cps.all (·<128)
 ·exact wpAny_pyIter_wide ha ⟨s.heap.objs.size,[s.heap.objs.size],_,_,H,rfl,I.kept (t':=s.toks) λb o e=>Xs _ e,SX _ x t,⟨_,XS _ rfl,rfl,rfl⟩,fp,q⟩
 ·exact wpAny_pyIter_ascii ha ⟨s.heap.objs.size,[s.heap.objs.size],_,_,H,rfl,I.kept (t':=s.toks) λb o e=>Xs _ e,SW _ x t,⟨_,XS _ rfl,rfl,rfl⟩,fp,q⟩
noncomputable def SZ(X:Cx)(tl:TE):TI:=λσ H R=>tl σ H λx H1=>(∃a,x=.ref a/\((∃xs,SqL X.K H1 a xs/\R (Itl X.K a) H1)\/(∃xs,SqT X.K H1 a xs/\R (Itt X.K a) H1)\/∃kvs,H1 a=some (.dK kvs)/\∀o,(∀o' u',X.H₀ a≠some (.frz o' u'))->R (Itd a o) (upd H1 a (.frz o (.dK kvs)))))\/
 ∃z,x=.str z/\R (Its z) H1
theorem T0{tg l:Expr}{tl:TE}(hl:PE X l tl):PI X tg l (SZ X tl):=by
 intro pins s σ H R I h;refine thn (hl pins s σ H _ I h) λv s1 ⟨x,H1,I1,r1,q1⟩=>?_;rcases q1 with⟨a,e,q⟩|⟨z,e,q⟩
 ·subst e;cases r1;rcases q with⟨xs,hq,q⟩|⟨xs,hq,q⟩|⟨kvs,hq,q⟩
  ·obtain⟨its,rv,p,hz⟩:=I1.list hq;refine B4 p.isList ?_;refine⟨s1.heap.objs.size,[s1.heap.objs.size],_,_,H1,rfl,I1.kept (t':=s1.toks) λb o e=>Xs _ e,Ql a _,⟨_,XS _ rfl,rfl,rfl⟩,λb hb=>?_,q⟩;have e:b=s1.heap.objs.size:=by simpa using hb
   subst e;exact I1.fpOk (Xl _) (I1.hok.fresh (Xl _))
  ·obtain⟨its,rv,p,hz⟩:=I1.tuple hq;refine wpAny_pyIter_tuple (show s1.heap.IsTuple a its.toArray from p) ?_;refine⟨s1.heap.objs.size,[s1.heap.objs.size],_,_,H1,rfl,I1.kept (t':=s1.toks) λb o e=>Xs _ e,Qm a _,⟨_,XS _ rfl,rfl,rfl⟩,λb hb=>?_,q⟩;have e:b=s1.heap.objs.size:=by simpa using hb
   subst e;exact I1.fpOk (Xl _) (I1.hok.fresh (Xl _))
  ·exact Sj I1 hq q
 ·subst e;obtain⟨t,rfl⟩:=r1;exact SY I1 q
theorem T1{M:Model}{A:Xz}{E:X0->X1->Prop}{s:X1}{Q:X0->X1->Prop}{v:X0}{b:Bool}(hv:∀i,v≠.builtin i)(h:Q (.bool (v==.bool b)) s):X4 M A (Y0 .Is v (.bool b)) Q E s:=by
 cases v<;>first|exact Xa h|exact absurd rfl (hv _)
theorem T2{M:Model}{A:Xz}{E:X0->X1->Prop}{s:X1}{Q:X0->X1->Prop}{v:X0}{b:Bool}(hv:∀i,v≠.builtin i)(h:Q (.bool (!(v==.bool b))) s):X4 M A (Y0 .IsNot v (.bool b)) Q E s:=by
 cases v<;>first|exact Xa h|exact absurd rfl (hv _)
theorem HP{x:V}{v:X0}(r:RelV x v):∀i,v≠.builtin i:=λi e=>by
 subst e;cases x<;>first|(cases r;done)|(obtain⟨t,e⟩:=r;cases e)
theorem HQ{x:V}{v:X0}{b:Bool}(r:RelV x v):decide (x=.bl b)=(v==Yh b):=by
 cases x<;>first
  |(cases r;rename_i c;cases b<;>cases c<;>rfl)
  |(cases r;rfl)
  |(obtain⟨t,rfl⟩:=r;rfl)
theorem T3:OpR X (Y0 .Is) (λx y H Q=>∃b,y=.bl b/\Q (.bl (decide (x=.bl b))) H):=by
 intro pins s σ H x y v u Q I rx ry h;obtain⟨b,rfl,q⟩:=h;cases ry;exact T1 (HP rx) (XQ I q (HQ rx))
theorem T4:OpR X (Y0 .IsNot) (λx y H Q=>∃b,y=.bl b/\Q (.bl (!decide (x=.bl b))) H):=by
 intro pins s σ H x y v u Q I rx ry h;obtain⟨b,rfl,q⟩:=h;cases ry;exact T2 (HP rx) (XQ I q (by rw[HQ rx]))
theorem T5{A:Xz}{E:X0->X1->Prop}{Q:X0->X1->Prop}{x:V}{u t c d:X0}{b b':Bool}{tp:Addr}{dd:Option Addr}{n:Nat}{sl:Array (Option X0)}(I:Inv X pins σ H s)(rx:RelV x u)(ty:TyOf X.K H x t)(e:Vt X.K t c=some b)(e':Vt X.K t d=some b')
  (htp:s.heap.get? tp=some ⟨.type "tuple",dd,.seq [c,d].toArray n,sl⟩) (h:∀tk,Q (.bool (b||b')) {s with toks:=tk}):X4 (X8 X.prog X.w) A (call (.builtin "isinstance") [u,.ref tp]) Q E s:=by
 have ea:Bg X.K t [c,d]=some (b||b'):=by
  unfold Bg;rw[e];cases b with
  |true=>rfl
  |false=>
   show Bg X.K t [d]=some b';unfold Bg;rw[e'];cases b'<;>rfl
 cases ty with
 |non=>cases(show u=XB from rx);exact Ui PySem.W.kitx_none I.kIn YH htp ea (λz=>nomatch z) h
 |bl y=>cases(show u=Yh y from rx);exact Ui PySem.W.kitx_bool I.kIn YH htp ea (λz=>nomatch z) h
 |int i=>obtain⟨t,q⟩:=(show∃t,u=A3 i t from rx);cases q;exact Ui PySem.W.kitx_int I.kIn YH htp ea (λz=>nomatch z) h
 |str y=>obtain⟨t,q⟩:=(show∃t,u=XL y t from rx);cases q;exact Ui PySem.W.kitx_str I.kIn YH htp ea (λz=>nomatch z) h
 |flt y=>obtain⟨t,q⟩:=(show∃t,u=Value.float y t from rx);cases q;exact Ui PySem.W.kitx_float I.kIn YH htp ea (λz=>nomatch z) h
 | @lst a xs ea'=>
  cases(show u=XD a from rx);obtain⟨_,_,n,_,h1⟩:=(show ObjOk X.prog X.w H s.heap a (.lst xs)from I.hok a _ ea');exact Ui Be I.kIn ⟨_,h1,rfl⟩ htp ea (λz=>nomatch z) h
 | @frz a ob xs ea'=>
  cases(show u=XD a from rx);obtain⟨_,_,_,n,_,h1⟩:=(show ObjOk X.prog X.w H s.heap a (.frz ob (.lst xs))from I.hok a _ ea');exact Ui Be I.kIn ⟨_,h1,rfl⟩ htp ea (λz=>nomatch z) h
 | @tup a xs ea'=>
  cases(show u=XD a from rx);obtain⟨_,_,_,p⟩:=(show ObjOk X.prog X.w H s.heap a (.tup xs)from I.hok a _ ea');obtain⟨o,h1,h2,_⟩:=p.1;exact Ui PySem.W.kitx_tuple I.kIn ⟨o,h1,h2⟩ htp ea (λz=>nomatch z) h
 | @dK a kvs ea'=>
  cases(show u=XD a from rx);obtain⟨_,_,vs,_,p⟩:=(show ObjOk X.prog X.w H s.heap a (.dK kvs)from I.hok a _ ea');obtain⟨o,es,ep,h1,h2,_⟩:=p;exact Ui Bf I.kIn ⟨o,h1,h2.1⟩ htp ea (λz=>nomatch z) h
 | @dT a kvs ea'=>
  cases(show u=XD a from rx);obtain⟨_,_,xs,_,o,es,ep,h1,h2,_⟩:=(show ObjOk X.prog X.w H s.heap a (.dT kvs)from I.hok a _ ea');exact Ui Bf I.kIn ⟨o,h1,h2.1⟩ htp ea (λz=>nomatch z) h
 | @ins a C dx fs ea' cl ha hn htk hm=>
  cases(show u=XD a from rx);obtain⟨mA,O,_⟩:=GR I.hok ea';obtain⟨od,J,_⟩:=O.look;exact Ui (PySem.W.kitx_own (cl.get _) cl.hd ha hn htk hm) I.kIn J htp ea (λz=>nomatch z) h
theorem T6:CallR X (.builtin "isinstance") (fun xs H Q=>∃x a c d t b b',xs=[x,.ref a]/\H a=some (.tup [.ty c,.ty d])/\TyOf X.K H x t/\Vt X.K t (.type c)=some b/\Vt X.K t (.type d)=some b'/\Q (.bl (b||b')) H):=by
 intro pins s σ H xs us Q I r h;obtain⟨x,a,c,d,t,b,b',rfl,ha,ty,e,e',q⟩:=h;obtain⟨u,w',rfl,ru,rw'⟩:=Wk r;cases rw';obtain⟨its,rv,p,_⟩:=I.tuple (SqT.of (K:=X.K) ha);obtain⟨⟨cls,dd,data,sl⟩,ho,hc,n,hd⟩:=id p;simp only at hc hd;subst hc hd;cases rv with
 |cons r1 r2=>
  cases r2 with
  |cons r3 r4=>
   cases r4;cases r1;cases r3;exact T5 I ru ty e e' ho λtk=>⟨.bl (b||b'),H,I.tok tk,rfl,q⟩
end
noncomputable def Am(z:Str):X0->Bool
 |.str y _=>y==z
 |_=>false
noncomputable def T7:V->List V->Hp->VK->Prop:=λx vs H Q=>∃(l:Addr) (zs:List Str) (z:Str),x=.ref l/\vs=[.str z]/\H l=some (.lst (zs.map V.str))/\z∈zs/\Q .non (upd H l (.lst ((zs.erase z).map V.str)))
theorem BM:∀{zs:List Str} {its:List X0},Vals (zs.map V.str) its->∀(i:Nat) (h:i<its.length),∃(z:Str) (t:Tok),zs[i]?=some z/\its[i]=.str z t
 |[],_,r,i,h=>by rw[Y2]at r;cases r;simp at h
 |z::zs,_,r,i,h=>by
  rw[XC]at r;cases r with
  |cons r1 r2=>
   obtain⟨t,rfl⟩:=r1;cases i with
   |zero=>exact⟨z,t,rfl,rfl⟩
   |succ i=>
    obtain⟨y,u,h1,h2⟩:=BM r2 i (by simpa using h)
    exact⟨y,u,by simpa using h1,by simpa using h2⟩
theorem T8{zs:List Str}{z:Str}(h:z∈zs):∃j,zs[j]?=some z/\(∀m,m<j->zs[m]?≠some z)/\zs.erase z=zs.eraseIdx j:=by
 induction zs with
 |nil=>cases h
 |cons a r ih=>
  by_cases e:a=z
  ·subst e;exact⟨0,rfl,λm hm=>absurd hm (Db _),by simp⟩
  ·have hr:z∈r:=by
    rcases Xt.mp h with q|q
    ·exact absurd q.symm e
    ·exact q
   obtain⟨j,h1,h2,h3⟩:=ih hr;refine⟨j+1,by simpa using h1,λm hm=>?_,?_⟩
   ·cases m with
    |zero=>simpa using e
    |succ m=>simpa using h2 m (by lia)
   ·rw[List.erase_cons,if_neg (by simpa using e),h3]
    rfl
section
variable{X:Cx}
theorem T9:MtM X "list.remove" T7:=by
 intro pins s σ H x vs v us Q I rx rv h;obtain⟨l,zs,z,rfl,rfl,hH,hz,q⟩:=h;cases rx;obtain⟨u,rfl,ru⟩:=rv.one;obtain⟨t,rfl⟩:=ru;obtain⟨sz,its,n,r,hl,e⟩:=I.lstM hH;obtain⟨j,j1,j2,j3⟩:=T8 hz;have hlen:its.length=zs.length:=by rw[<- r.length,X7]
 have hj:j<its.length:=by rw[hlen];exact(XE.mp j1).1
 have hsz:its.toArray.size≤sizeLine:=by rw[XT];lia
 refine call_meets F.slot_list_remove ⟨_,e,rfl⟩ F.entry_list_remove (F.args_list_remove_2 _ _)
  (MeetsSeq.list_remove l its.toArray n (.str z t) (Am z) (λy hy=>?_) j (by rw[XT];exact hj) ?_ (λm hm hlt=>?_) hsz) ⟨e,?_⟩
 ·have hy:y∈its:=by simpa using hy
  obtain⟨i,hi,rfl⟩:=Yd hy;obtain⟨y,u,_,h2⟩:=BM r i hi;rw[h2];exact λ_ _ _ _ _ _ h=>PyProof.Rows.eqBool_str h
 ·obtain⟨y,u,h1,h2⟩:=BM r j hj;rw[j1]at h1;cases h1;show Am z (its.toArray[j]'(by rw[XT];exact hj))=true
  rw[List.getElem_toArray,h2];simp[Am]
 ·have hm':m<its.length:=by simpa using hm
  obtain⟨y,u,h1,h2⟩:=BM r m hm';show Am z (its.toArray[m]'hm)=false;rw[List.getElem_toArray,h2];have:=j2 m hlt;rw[h1]at this
  simpa [Am]using this
 ·rw[j3]at q;have em:(zs.eraseIdx j).map V.str=(zs.map V.str).eraseIdx j:=by rw[FV,FV,Y6,List.map_take,List.map_drop]
  rw[em]at q;refine⟨.non,_,I.lset (its':=its.eraseIdx j) hH e ?_ (r.eraseIdx j) ?_,rfl,q⟩
  ·show its.toArray.eraseIdxIfInBounds j=(its.eraseIdx j).toArray;rw[List.eraseIdxIfInBounds_toArray]
  ·have:=Hh (zs.map V.str) j;lia
end
theorem Ta:VW (.type "tuple") "keys"=pure none:=by rw[VZ,W0];kernel_rfl
theorem Tb:VW (.type "tuple") "__getattr__"=pure none:=by rw[VZ,W0];kernel_rfl
section
variable{prog:Xn}{w:Xj}{A:Xz}{E:X0->X1->Prop}{h:Heap}{g:Array US}{d:Drawn}{t:Nat}{os:OsState}{a:Addr}{its:Array X0}{n:Nat}{sl:Array (Option X0)}
theorem Tc{tk:Tok}{Q:Fin->X1->Prop}(hx:h.get? a=some (⟨.type "tuple",none,.seq its n,sl⟩))(hh:A.handled=none)
  (hE:∀e h' t',(∀b o,h.get? b=some o->h'.get? b=some o)->(∃o,h'.get? e=some o/\o.cls=.type "AttributeError")->E (.ref e) ⟨h',g,d,t',os⟩):
  X4 (X8 prog w) A (Builtin.«object.__getattribute__» ⟨[.ref a,.str "keys" tk],[]⟩) Q E ⟨h,g,d,t,os⟩:=by
 have hT:(⟨h,g,d,t,os⟩:X1).TypeIs (.ref a) "tuple":=⟨_,hx,rfl⟩;have f4:=Ta;unfold Builtin.«object.__getattribute__»
 repeat (any_goals (first|assumption|wp_step))
 have hmsg:¬(Ys (toString "'"++toString ((Wg "tuple").elim "tuple" fun x=>x.tpName)++toString "' object has no attribute '")++Ys "keys"++Ys "'").length>sizeLine:=by decide+kernel
 generalize(Ys (toString "'"++toString ((Wg "tuple").elim "tuple" fun x=>x.tpName)++toString "' object has no attribute '")++Ys "keys"++Ys "'")=msg at hmsg ⊢;unfold raiseAttrError;refine X3 ?_;unfold mkStr;rw[if_neg hmsg]
 repeat (any_goals (first|assumption|wp_step))
 show X4 _ _ (isSubtype (.type "AttributeError") (.type "AttributeError")) _ _ _;rw[Wn];generalize(if((Wg "AttributeError").elim false fun t=>t.mro.contains "StopIteration"||t.mro.contains "SystemExit")=true then [XL msg t].headD XB else XB)=fm;refine Xa ?_;simp only[WZ,Yo,if_false];have hoE:((h.push {cls:=XJ "tuple",data:=Z8 #[XL msg t]}).push {cls:=XJ "AttributeError",data:=UE (#[XD h.objs.size,XB,XB,XB,Yh false,fm]++YX (XJ "AttributeError") [XL msg t])}).get? (h.push {cls:=XJ "tuple",data:=Z8 #[XL msg t]}).objs.size=some {cls:=XJ "AttributeError",data:=UE (#[XD h.objs.size,XB,XB,XB,Yh false,fm]++YX (XJ "AttributeError") [XL msg t])}:=XS _ rfl;have e6:(#[XD h.objs.size,XB,XB,XB,Yh false,fm]++YX (XJ "AttributeError") [XL msg t])[6]?=some (.int 0 0):=rfl;have e7:(#[XD h.objs.size,XB,XB,XB,Yh false,fm]++YX (XJ "AttributeError") [XL msg t])[7]?=some (.int 0 0):=rfl;have old:∀b o,h.get? b=some o->((h.push {cls:=XJ "tuple",data:=Z8 #[XL msg t]}).push {cls:=XJ "AttributeError",data:=UE (#[XD h.objs.size,XB,XB,XB,Yh false,fm]++YX (XJ "AttributeError") [XL msg t])}).get? b=some o/\b<(h.push {cls:=XJ "tuple",data:=Z8 #[XL msg t]}).objs.size:=fun b o e=>
  ⟨Xs _ (Xs _ e),by rw[Uk];exact Vu (XA e)⟩
 generalize(h.push {cls:=XJ "tuple",data:=Z8 #[XL msg t]}).objs.size=ea at*;generalize((h.push {cls:=XJ "tuple",data:=Z8 #[XL msg t]}).push {cls:=XJ "AttributeError",data:=UE (#[XD h.objs.size,XB,XB,XB,Yh false,fm]++YX (XJ "AttributeError") [XL msg t])})=h2 at*;generalize hvs:#[XD h.objs.size,XB,XB,XB,Yh false,fm]++YX (XJ "AttributeError") [XL msg t]=vs at*;refine X3 (VU hoE ?_);dsimp only;rw[e6,e7];simp only[Wa,Yo,if_false];rw[if_neg (by decide)]
 refine Xa ?_;simp only[if_true];have hT2:(⟨h2,g,d,t+1+1,os⟩:X1).TypeIs (.ref ea) "AttributeError":=⟨_,hoE,rfl⟩;refine X3 (Vb ?_);refine X3 (V9 hT2 ?_);dsimp only;unfold layMembers;refine X3 (VU hoE ?_);dsimp only;refine wpAny_update hoE ?_;unfold raiseNew;refine X3 (wpAny_handled ?_);rw[hh];show X4 _ _ (throw (XD ea)) _ _ _;have hup:=UW (Dk fun vs=>vs.extract 0 6++#[XL (Ys "keys") (t+1),XD a]) hoE (Di (By rfl _));refine wpAny_throw (hE ea _ _ (λb o e=>?_) ⟨_,hup,Dj ..⟩);have:=old b o e;exact(Uj _ _ (Vw this.2)).trans this.1
theorem Td{tk:Tok}{Q:X0->X1->Prop}(hx:h.get? a=some (⟨.type "tuple",none,.seq its n,sl⟩))(hh:A.handled=none)
  (hE:∀e h' t',(∀b o,h.get? b=some o->h'.get? b=some o)->(∃o,h'.get? e=some o/\o.cls=.type "AttributeError")->E (.ref e) ⟨h',g,d,t',os⟩):
  X4 (X8 prog w) A (getAttrBy (.ref a) (.str "keys" tk) false) Q E ⟨h,g,d,t,os⟩:=by
 have hT:(⟨h,g,d,t,os⟩:X1).TypeIs (.ref a) "tuple":=⟨_,hx,rfl⟩;have f2:=Bs.lookup;have f3:=Bs.bind (.ref a)
 repeat (any_goals (first|assumption|wp_step))
 refine VY Bs.plain F.entry_tuple_ga (Bs.check _ _ _ _ _ _ _ _ hT (F.args_tuple_getattribute_2 _ _) (Tc hx (by simp[hh]) λe h' t' k ho=>?_))
 have hTe:(⟨h',g,d,t',os⟩:X1).TypeIs (.ref e) "AttributeError":=ho;show X4 _ _ (B5 _ _ _ _ _ _ _) _ _ _;unfold B5;refine X3 (Va hTe Wn ?_);simp only[if_true];unfold hookBehind onTheHeap;simp only[Yo,if_false];rw[Tb];refine X3 (Xa ?_);unfold hookOrError attributeErrorLeaves;simp only[Bj,if_true];exact X3 (wpAny_throw (hE e h' t' k ho))
theorem Te{Q:Option X0->X1->Prop}{s:X1}(hx:s.heap.get? a=some (⟨.type "tuple",none,.seq its n,sl⟩))(hh:A.handled=none)
  (hQ:∀h' t',(∀b o,s.heap.get? b=some o->h'.get? b=some o)->Q none {s with heap:=h',toks:=t'}):X4 (X8 prog w) A (getAttr? (.ref a) "keys") Q E s:=by
 obtain⟨h,g,d,t,os⟩:=s;unfold getAttr? getAttrBy? mkText;refine X3 (X3 (wpAny_fresh (Xa ?_)));refine X3 (wpAny_attempt (Td hx hh λe h' t' k ho=>?_));have hTe:(⟨h',g,d,t',os⟩:X1).TypeIs (.ref e) "AttributeError":=ho;refine X3 (Va hTe Wn ?_);simp only[if_true];exact Xa (hQ h' t' k)
end
section
variable{prog:Xn}{w:Xj}{A:Xz}{E:X0->X1->Prop}{s:X1}{K:Type} [DecidableEq K] {knd:KeyKind prog w K}
theorem Tf{l:Addr}{items:Array X0}{nl:Nat}{sl:Array (Option X0)}{ks:Nat->K}{vs:Nat->X0}{Q:X0->X1->Prop}(hh:A.handled=none)(hl:s.heap.get? l=some (⟨.type "tuple",none,.seq items nl,sl⟩))(hn:items.size≤sizeLine)
  (ht:∀(j:Nat) v,items[j]?=some v->∃q uk np oq,v=.ref q/\s.heap.get? q=some oq/\oq.cls=.type "tuple"/\oq.data=.seq #[uk,vs j] np/\knd.is (ks j) uk=true)
  (h:∀h' tk,h'.DictOf knd s.heap.objs.size (stTo ks vs items.size)->(∀b o,b<s.heap.objs.size->s.heap.get? b=some o->h'.get? b=some o)->Q (.ref s.heap.objs.size) {s with heap:=h',toks:=tk}):
  X4 (X8 prog w) A (call (.type "dict") [.ref l]) Q E s:=by
 refine callType_codes (Q₁:=fun obj s₁=>obj=.ref s.heap.objs.size/\s₁={s with heap:=s.heap.push {cls:=.type "dict",data:=.dict #[]} }) F.kt_called_dict (F.kt_typeCall_dict_1 _) F.entry_dict_init (kt_code_dict_new _ ⟨rfl,rfl⟩) ?_;rintro obj s₁ ⟨rfl,rfl⟩;have hnew:(s.heap.push {cls:=.type "dict",data:=.dict #[]}).DictOf knd s.heap.objs.size []:=Dr s.heap;have hl':(s.heap.push {cls:=.type "dict",data:=.dict #[]}).get? l=some (⟨.type "tuple",none,.seq items nl,sl⟩):=Xs _ hl;have hT:A8 {s with heap:=s.heap.push {cls:=.type "dict",data:=.dict #[]} } (.ref l) "tuple":=⟨_,hl',rfl⟩;refine⟨hnew.typeIs,F.args_dict_init_2 _ _,?_⟩;unfold Builtin.«dict.__init__»;refine X3 ?_;unfold Gf;refine X3 (B3 hnew.typeIs ?_);show X4 _ _ (pure (s.heap.objs.size,[XD l])) _ _ _;refine Xa ?_;show X4 _ _ (Bw "dict.__init__" s.heap.objs.size (.ref l) [] .none) _ _ _;unfold Bw;refine X3 (V9 hT ?_);rw[if_pos (by decide)]
 refine X3 (Te (s:={s with heap:=s.heap.push {cls:=.type "dict",data:=.dict #[]} }) hl' (by simp[hh]) fun h1 t1 hk1=>?_)
 simp only[Option.isNone_none,if_true];refine X3 (Vb ?_);have hl1:h1.get? l=some (⟨.type "tuple",none,.seq items nl,sl⟩):=hk1 _ _ hl';have hL1:h1.IsTuple l items:=⟨_,hl1,rfl,nl,rfl⟩;have hlS:l<s.heap.objs.size:=XA hl;have hbig:s.heap.objs.size<h1.objs.size:=by
  obtain⟨o,es,ep,ho,_⟩:=hnew;exact XA (hk1 _ _ ho)
 refine X3 (wpAny_pyIter_tuple (s:={s with heap:=h1,toks:=t1}) hL1 ?_);have hneI:l≠h1.objs.size:=XH (Vx hlS hbig);refine Xa ⟨YL Al _,?_⟩;refine HN (knd:=knd) (n:=items.size) ((Walks.tuple (A:=A.in1.in1) (by simp[hh]) h1.objs.size l hneI items).toS) s.heap.objs.size ?_ ks vs hn items.size 0 _ rfl (YD _)
  ⟨⟨_,XS _ rfl,rfl,rfl⟩,hL1.push _⟩ ?_ ?_ ?_
 ·simp only[Xt,Y1,or_false,not_or];exact⟨XH hbig,Vw hlS⟩
 ·obtain⟨o,es,ep,ho,r⟩:=hnew;exact⟨o,es,ep,Xs _ (hk1 _ _ ho),r⟩
 ·intro j v hv;obtain⟨q,uk,np,oq,rfl,a1,a2⟩:=ht j v hv;have hqS:q<s.heap.objs.size:=XA a1;refine⟨q,uk,np,oq,rfl,XH hqS,?_,Xs _ (hk1 _ _ (Xs _ a1)),a2⟩;simp only[Yk];exact XH (Vx hqS hbig)
 ·intro s' hm hd;obtain⟨h',g',d',tk',os'⟩:=s';have eg:g'=s.gens:=hm.gens;have ed:d'=s.drawn:=hm.drawn;have eo:os'=s.os:=hm.os;subst eg;subst ed;subst eo;refine⟨rfl,h h' tk' hd λb o hb e=>?_⟩;refine hm.heap b o ?_ (Xs _ (hk1 _ _ (Xs _ e)));simp only[Xt,Y1,or_false,not_or];exact⟨XH hb,XH (Vx hb hbig)⟩
end
section
variable{X:Cx}
theorem Tg(hcalm:X.calm=true):CallR X (.type "dict") (fun xs H Q=>∃(a:Addr) (ps:List (Key×V)) (qs:List V),xs=[.ref a]/\H a=some (.tup qs)/\DG H ps qs/\∀p,H p=none->Q (.ref p) (upd H p (.dK (UL ps)))):=by
 intro pins s σ H xs us Q I r h;obtain⟨a,ps,qs,rfl,ha,hp,q⟩:=h;obtain⟨u,rfl,ru⟩:=YR r;cases ru;obtain⟨hz,its,rv,⟨ol,hl,hlc,nl,hld⟩,ol2,hl2,hdn⟩:=(show ObjOk X.prog X.w H s.heap a (.tup qs)from I.hok a _ ha);have hh:=I.ok.hd hcalm;rw[hl]at hl2;cases hl2;obtain⟨lc,ldc,ld,lsl⟩:=ol;cases hlc;cases hld;cases hdn;have hlen:its.length=ps.length:=by rw[<- rv.length,hp.length]
 have hpair:∀(j:Nat) v,its.toArray[j]?=some v->∃q uk uv np oq,v=.ref q/\s.heap.get? q=some oq/\oq.cls=.type "tuple"/\oq.data=.seq #[uk,uv] np/\∃p,ps[j]?=some p/\RelV (kV p.1) uk/\RelV p.2 uv:=fun j v hv=>by
  have hv':its[j]?=some v:=by simpa using hv
  obtain⟨y,hy,ry⟩:=Paired.at rv j v hv';obtain⟨p,hpj,q,rfl,hq⟩:=Paired.at hp j y hy;cases ry;obtain⟨_,ts,rt,ht⟩:=(show ObjOk X.prog X.w H s.heap q (.tup [kV p.1,p.2])from I.hok q _ hq);obtain⟨uk,uv,rfl,r1,r2⟩:=Wk rt;obtain⟨oq,ho,hc,n,hd⟩:=ht.1;exact⟨q,uk,uv,n,oq,rfl,ho,hc,hd,p,hpj,r1,r2⟩
 obtain⟨vs,hvs⟩:∃vs:Nat->X0,∀(j:Nat) v,its.toArray[j]?=some v->∃q uk np oq,v=.ref q/\s.heap.get? q=some oq/\oq.cls=.type "tuple"/\oq.data=.seq #[uk,vs j] np/\∃p,ps[j]?=some p/\RelV (kV p.1) uk/\RelV p.2 (vs j):=by
  refine⟨λj=>if h:j<its.length then(hpair j its[j] (by simp[h])).choose_spec.choose_spec.choose else .none,λj v hv=>?_⟩
  have hv':its[j]?=some v:=by simpa using hv
  obtain⟨hj,rfl⟩:=XE.mp hv';dsimp only;rw[dif_pos hj];have z:=(hpair j its[j] (by simp[hj]))
  exact⟨z.choose,z.choose_spec.choose,z.choose_spec.choose_spec.choose_spec⟩
 refine Tf (knd:=Yt X.prog X.w) (ks:=λj=>(ps.getD j (.inl 0,.non)).1) (vs:=vs) hh hl (by simpa [<- rv.length]using hz) (λj v hv=>?_) λh' tk hd hk=>?_
 ·obtain⟨q,uk,np,oq,e1,e2,e3,e4,p,hpj,r1,r2⟩:=hvs j v hv;refine⟨q,uk,np,oq,e1,e2,e3,e4,VF ?_⟩;rw[Yc,hpj];exact r1
 have kv:∀i,i≤ps.length->KV ((ps.take i).foldl (λc z=>putK c z.1 z.2) []) (stTo (λj=>(ps.getD j (.inl 0,.non)).1) vs i):=by
  intro i
  induction i with
  |zero=>intro _;exact .nil
  |succ i ih=>
   intro hi;have hlt:i<its.length:=by lia
   obtain⟨q,uk,np,oq,e1,e2,e3,e4,p,hpj,r1,r2⟩:=hvs i its[i] (by simp[hlt])
   rw[YN,hpj,Do,W5];show KV (putK _ p.1 p.2) (stored _ (ps.getD i (.inl 0,.non)).1 _);have ek:(ps.getD i (.inl 0,.non)).1=p.1:=by rw[Yc,hpj];rfl
   rw[ek];exact(ih (by lia)).put p.1 r2
 have kvn:=kv ps.length (Xl _);rw[UV]at kvn;have hsz:its.toArray.size=ps.length:=by simp[hlen]
 rw[hsz]at hd;have hpl:ps.length≤sizeLine:=by rw[hp.length];exact hz
 have zl:(UL ps).length≤sizeLine:=by
  have:=kvn.length;have l2:=BL (λj=>(ps.getD j (.inl 0,.non)).1) vs ps.length;unfold UL;lia
 exact⟨.ref s.heap.objs.size,_,I.laid (a:=s.heap.objs.size) (o:=.dK (UL ps)) (t':=tk) (λb u e=>hk b u (XA e) e) (Xl _) (Af zl (beq_eq_false_iff_ne.mpr (YI (XH I.big))) kvn hd),rfl,q _ (I.hok.fresh (Xl _))⟩
end
noncomputable def cutS(x:Str)(lo hi:Option Int):Str:=⟨((x.cps.toList.drop (HT.sIx x.cps.toList.length 0 lo)).take (HT.sIx x.cps.toList.length x.cps.toList.length hi - HT.sIx x.cps.toList.length 0 lo)).toArray⟩
theorem Th(x:Str)(lo hi:Option Int):(cutS x lo hi).length≤x.length:=by
 unfold cutS Bo;simp only[XT,Yz,WW,XU];lia
theorem Ti(x:Str)(lo hi:Option Int):((Br lo hi 1 x.length).filterMap (x.cps[·]?)).toArray=(cutS x lo hi).cps:=by
 obtain⟨h1,h2,h3⟩:=Dy lo hi x.length;have e:Br lo hi 1 x.length=sliceRange (Z5 lo hi none x.length).1 (Z5 lo hi none x.length).2.1 (Z5 lo hi none x.length).2.2:=rfl;have el:x.cps.toList.length=x.length:=by simp[Bo]
 rw[e,h1,h2,h3,sliceRange_one,pick_run];unfold cutS;rw[el]
theorem Tj{x:Str}{lo hi:Option Int}(h:(Br lo hi 1 x.length).length=x.length):cutS x lo hi=x:=by
 obtain⟨h1,h2,h3⟩:=Dy lo hi x.length;have e:Br lo hi 1 x.length=sliceRange (Z5 lo hi none x.length).1 (Z5 lo hi none x.length).2.1 (Z5 lo hi none x.length).2.2:=rfl;have el:x.cps.toList.length=x.length:=by simp[Bo]
 rw[e,h1,h2,h3,sliceRange_one,X7,Ba]at h;unfold cutS;rw[el];have hb:HT.sIx x.length x.length hi≤x.length:=by
  unfold HT.sIx;cases hi with
  |none=>exact Xl _
  |some i=>dsimp only;split<;>lia
 obtain⟨cps⟩:=x;congr 1;have e0:∀(n a b:Nat),b≤n->b - a=n->n=0\/a=0:=by lia
 rcases e0 _ _ _ hb h with z|z
 ·have:cps.toList=[]:=by
   rw[<- B8];rw[XU];exact z
  simp[this];have:cps=#[]:=by apply Array.toList_inj.mp;simpa using this
  rw[this]
 ·rw[h,z,List.drop_zero,WU (by rw[XU];exact Xl _)]
section
variable{X:Cx}
noncomputable def rSlS:V->Option Int->Option Int->Hp->VK->Prop:=λx lo hi H Q=>∃z:Str,x=.str z/\z.length≤sizeLine/\Q (.str (cutS z lo hi)) H
theorem HR{v:X0}{o:Option Int}(h:IsPart v o):∃l:Option (Int×Tok),v=partValue l/\l.map (·.1)=o:=by
 cases h with
 |none=>exact⟨none,rfl,rfl⟩
 |int i t=>exact⟨some (i,t),rfl,rfl⟩
theorem Tk:SlR X rSlS:=by
 intro pins s σ H x v vl vu lo hi sl Q I rx hs pl pu h;obtain⟨z,rfl,hz,q⟩:=h;obtain⟨t,rfl⟩:=rx;obtain⟨l,rfl,rfl⟩:=HR pl;obtain⟨u,rfl,rfl⟩:=HR pu;refine⟨"str",_,slot_str_getitem.lookup,typeIs_str s z t,?_⟩;refine wpAny_getItem_str_slice (l:=l) (u:=u) (st:=none) hs rfl ?_;unfold sliceMade;by_cases hc:(((none:Option (Int×Tok)).map (·.1)).getD 1==1&&(slicePicked z l u none).length==z.length)=true
 ·rw[if_pos hc];have e:cutS z (l.map (·.1)) (u.map (·.1))=z:=by
   refine Tj ?_;rw[Yp]at hc;exact eq_of_beq hc.2
  rw[e]at q;exact⟨.str z,H,I,⟨_,rfl⟩,q⟩
 ·rw[if_neg hc];have e:(⟨((slicePicked z l u none).filterMap (z.cps[·]?)).toArray⟩:Str)=cutS z (l.map (·.1)) (u.map (·.1)):=by
   have:=Ti z (l.map (·.1)) (u.map (·.1));unfold slicePicked;rw[show((none:Option (Int×Tok)).map (·.1)).getD 1=(1:Int)from rfl,this]
  rw[e];exact⟨Y3 (Th _ _ _) hz,.str _,H,I.tok _,⟨_,rfl⟩,q⟩
end
theorem HS:∀{xs:List V} {vs:List X0},xs.length=vs.length->(∀(j:Nat) x v,xs[j]?=some x->vs[j]?=some v->RelV x v)->Vals xs vs
 |[],[],_,_=>.nil
 |[],_::_,h,_=>by cases h
 |_::_,[],h,_=>by cases h
 |x::xs,v::vs,h,r=>.cons (r 0 x v rfl rfl) (HS (by simpa using h) λj a b ha hb=>r (j+1) a b (by simpa using ha) (by simpa using hb))
theorem Tl{acc:Array X0}{n:Nat}(h:ItemsOf (λi v=>∃t,v=.int (0+i*1) t) acc n):Vals ((XX n).map λi=>V.int (i:Nat)) acc.toList:=by
 refine HS (by rw[X7,Ba,XU];exact h.1.symm) λj x v hx hv=>?_
 obtain⟨t,rfl⟩:=h.2 j v (by simpa using hv)
 rw[Xq]at hx;cases e:(XX n)[j]? with
 |none=>rw[e]at hx;cases hx
 |some k=>
  rw[e]at hx;have hk:k=j:=by
   have:=XE.mp e;obtain⟨_,z⟩:=this
   simpa using z.symm
  subst hk;cases hx;exact⟨t,by rw[Int.zero_add,Int.mul_one]⟩
section
variable{X:Cx}{tg:Expr}
theorem Tn(hcalm:X.calm=true):Ak X (.type "list") (.type "range") (fun x H Q=>∃n:Nat,x=.int n/\n≤1000000/\∀p,H p=none->Q (.ref p) (upd H p (.lst ((XX n).map fun i=>V.int (i:Nat))))):=by
 intro pins s σ H x u Q I rx h;obtain⟨n,rfl,hn,q⟩:=h;obtain⟨t,rfl⟩:=rx;refine call_range_1 ?_;have hl:((XX n).map λi=>V.int (i:Nat)).length≤sizeLine:=by rw[X7,Ba];exact Y3 hn (by decide)
 have hh:=I.ok.hd hcalm;refine call_list_range (n:=n) hh (Ds ..) ?_ ?_ (by lia) λh' tk acc' c' kp e it=>?_
 ·exact small_one (by decide) (by decide) (by lia) (by lia)
 ·rw[rangeSize_one];split<;>lia
 have I1:=I.kept (h':=s.heap.push {cls:=.type "range",data:=.fields #[.int 0 s.toks,.int (n:Int) t,.int 1 (s.toks+1)]}) (t':=s.toks+1+1) fun b o e=>Xs _ e;exact⟨.ref _,_,I1.laid (t':=tk) kp (Xl _) (show ObjOk X.prog X.w _ h' _ (.lst ((XX n).map λi=>V.int (i:Nat)))from⟨hl,acc'.toList,c',Tl it,by simpa using e⟩),rfl,q _ (I1.hok.fresh (Xl _))⟩
theorem To{x y:Str}{id T:String}{r:V->Hp->VK->Prop}{e:Expr}{t:TE}{p p' pos pos':Pos}(hc:Ak X (.type id) (.type T) r)
  (hg:Gl X x) (hm:X.mg x=none) (hv:YE x=some (.type id)) (hg':Gl X y) (hm':X.mg y=none) (hv':YE y=some (.type T)) (ha:PE X e t)
  (hn:x≠"__name__") (hdb:(x==("__debug__":Str))=false) (hn':y≠"__name__") (hdb':(y==("__debug__":Str))=false)
  (he:XM [e] X.env=(false,eval e X.env)::XM [] X.env):
  PE X (.Call (.Name x p) [.Call (.Name y p') [e] [] pos'] [] pos) (λσ H Q=>t σ H λv H1=>r v H1 Q):=by
 intro pins s σ H Q I h;refine V8 (Um I hg hm hv ?_ hn hdb);refine VA ?_ rfl rfl;show X4 _ _ (spliced ((false,eval (.Call (.Name y p') [e] [] pos') X.env)::Yn pos (XM [] X.env))) _ _ s;refine A6 ?_;refine V8 (Um I hg' hm' hv' ?_ hn' hdb');refine VA ?_ he rfl;rw[he];show X4 _ _ (spliced ((false,eval e X.env)::Yn pos' (XM [] X.env))) _ _ s;refine A6 (thn (ha pins s σ H _ I h) λu s1 ⟨v,H1,I1,r1,q1⟩=>?_);refine A7 ?_;exact thn (hc pins s1 σ H1 v u Q I1 r1 q1) λu2 s2 q2=>A7 q2
noncomputable def Itrs(lo st:Int)(n:Nat):It:=⟨λi _=>i<n,λi H x H'=>H'=H/\x=.int (lo+i*st),λi _=>n≤i⟩
theorem Tp{P:Xn}{w:Xj}{K:X6}{tg:Expr}(it:Addr)(lo sp:Int)(n:Nat):Turn P w K tg (Itrs lo sp n) [it] it (λi h=>IsRangeIter h it (lo+(i:Nat)*sp) ((n:Int) - (i:Nat)) sp)where
 mem:=by simp
 obj:=λi h st b hb=>by
  have e:b=it:=by simpa using hb
  subst e;exact⟨_,st,λv z=>by
   have z':UE _=Data.cell v:=z;cases z'⟩
 keep:=λi h h' st k=>k it (by simp) _ st
 item:=by
  intro X hP hw hK hc i pins s σ H E I hf st hg;subst hP hw hK;obtain⟨f0,f1,f2,f3,f4,f5⟩:=hf it (by simp)
  have W:=Walks.range (prog:=X.prog) (w:=X.w) (I.ok.hd hc) it lo sp n;refine W.item i s _ _ hg st λv h' tk hv st' kk=>?_;obtain⟨t,rfl⟩:=hv;have I1:Inv X pins σ H {s with heap:=h',toks:=tk}:=I.turned (λb o hb e=>kk b o (by simpa using hb) e) f0 f1 f3 f4 f5
  exact⟨_,rfl,VE (s:={s with heap:=h',toks:=tk}) (n:="range_iterator") st' rfl rfl (by decide) ⟨.int (lo+i*sp),H,I1,⟨t,rfl⟩,⟨rfl,rfl⟩,st',fun b hb=>(hf b hb).1⟩⟩
 done:=by
  intro X hP hw hK hc i pins s σ H E I hf st hg;subst hP hw hK;obtain⟨f0,f1,f2,f3,f4,f5⟩:=hf it (by simp)
  exact wpAny_pyNext_range_end (I.ok.hd hc) st (by have:n≤i:=hg;lia) λh' eb=>⟨rfl,I.turned (t':=s.toks) (λb o hb e=>eb b o hb e) f0 f1 f3 f4 f5⟩
 self:=λ_ _ _ _ _ st h=>wpAny_pyIter_rangeiter st h
noncomputable def len2(lo hi:Int):Nat:=(We lo hi 2).toNat
theorem Tq(lo hi:Int):((len2 lo hi:Nat):Int)=We lo hi 2:=by
 unfold len2 We;simp only[show(2:Int)>0 by decide,if_true]
 split<;>lia
theorem Tr{a b:Int}(ha:0≤a)(ha':a<2^60)(hb:0≤b)(hb':b<2^60):G4 a b 2=true:=by
 unfold G4 We;simp only[Builtin.Range.rangeFitsLong,Yp,D7,decide_eq_true_eq,beq_iff_eq,show(2:Int)>0 by decide,if_true]
 split<;>lia
theorem Ts{pins:List (Addr×Obj)}{σ:St}{H:Hp}{s:X1}{R:It->Hp->Prop}{E:X0->X1->Prop}{lo hi:Int}{t u v:Tok}{tk:Nat}(I:Inv X pins σ H s)(h1:0≤lo)(h2:lo<2^60)(h3:0≤hi)(h4:hi<2^60)
  (q:R (Itrs lo 2 (len2 lo hi)) H):X4 (X8 X.prog X.w) X.A (pyIter (.ref s.heap.objs.size)) (PIE X pins σ tg R) E {s with heap:=s.heap.push {cls:=.type "range",data:=.fields #[.int lo t,.int hi u,.int 2 v]},toks:=tk}:=by
 refine wpAny_pyIter_range (Ds ..) (Tr h1 h2 h3 h4) ?_;have I1:Inv X pins σ H {s with heap:=s.heap.push {cls:=.type "range",data:=.fields #[.int lo t,.int hi u,.int 2 v]},toks:=tk}:=I.kept fun b o e=>Xs _ e;refine⟨(s.heap.push {cls:=.type "range",data:=.fields #[.int lo t,.int hi u,.int 2 v]}).objs.size,[(s.heap.push {cls:=.type "range",data:=.fields #[.int lo t,.int hi u,.int 2 v]}).objs.size],_,_,H,rfl,
  I1.kept (t':=tk) λb o e=>Xs _ e,Tp _ lo 2 (len2 lo hi),?_,λb hb=>?_,q⟩
 ·have e1:lo+((0:Nat):Int)*2=lo:=by simp
  have e2:((len2 lo hi:Nat):Int) - ((0:Nat):Int)=We lo hi 2:=by rw[Tq];simp
  show IsRangeIter _ _ (lo+((0:Nat):Int)*2) (((len2 lo hi:Nat):Int) - ((0:Nat):Int)) 2;rw[e1,e2];exact XS _ rfl
 ·have e:b=(s.heap.push {cls:=.type "range",data:=.fields #[.int lo t,.int hi u,.int 2 v]}).objs.size:=by simpa using hb
  subst e;exact I1.fpOk (Xl _) (I1.hok.fresh (Xl _))
noncomputable def Tt(ta:TA):TI:=λσ H R=>ta σ H λvs H1=>∃i j:Int,vs=[.int i,.int j,.int 2]/\(0≤i/\i<2^60/\0≤j/\j<2^60)/\R (Itrs i 2 (len2 i j)) H1
theorem Tu{a b c:Expr}{ta:TA}{p pos:Pos}(hg:Gl X "range")(hm:X.mg "range"=none)(ha:PA X [a,b,c] ta)(hs:XM [a,b,c] X.env=[(false,eval a X.env),(false,eval b X.env),(false,eval c X.env)]:=by rfl)(hs2:XM [b,c] X.env=[(false,eval b X.env),(false,eval c X.env)]:=by rfl):
  PI X tg (.Call (.Name "range" p) [a,b,c] [] pos) (Tt ta):=by
 intro pins s σ H R I h;refine Call_ (Um I hg hm boot_range (VA (thn (ha pos pins s σ H _ I h) λus s1 ⟨vs,H1,I1,r1,q1⟩=>?_) (by rw[hs,hs2]) (by rw[hs2];rfl)))
 obtain⟨i,j,e,⟨q1,q2,q3,q4⟩,q⟩:=q1;subst e;cases r1 with
 |cons r rr=>
  cases rr with
  |cons r' rr=>
   cases rr with
   |cons r'' rr=>
    cases rr;obtain⟨t,rfl⟩:=r;obtain⟨t',rfl⟩:=r';obtain⟨t'',rfl⟩:=r'';exact call_range_3 (by decide) (Ts (tk:=s1.toks) I1 q1 q2 q3 q4 q) (.inl (PyProof.noPylong_small (by decide)))
end
section
variable{prog:Xn}{w:Xj}{A:Xz}{R:Result->X1->Prop}{I:Addr}{fp wr:List Addr}{n:Nat}{P:Nat->X0->Prop}{St:Nat->Heap->Prop}
theorem BN:(toString "max"++toString ".loop":String)="max.loop":=by decide
theorem Tv(W:Walks prog w A.in1 I fp wr n P St){bt:Nat->Nat->Bool}(cm:CmpOf prog w A.in1 .Gt P bt){S:Addr}(fS:S∉fp)(kw:List (Str×X0)):
  ∀(m j:Nat) (s:X1) (b:X0) (c:Nat),n=j+1+m->St (j+1) s.heap->P (argBest bt j) b->s.heap.get? S=some {cls:=.type "list",dict:=none,data:=.seq #[b,b] c,slots:=#[]}->
  (∀v g tk,P (argBest bt (n - 1)) v->(∀a o,a∉wr->a≠S->s.heap.get? a=some o->g.get? a=some o)->R (.ok (.ret v)) {s with heap:=g,toks:=tk})->
  YW (X8 prog w) A (.builtin "max.loop" ⟨[.ref I,.none,.ref S],kw⟩) R s:=by
 have wS:S∉wr:=λh=>fS (W.sub _ h);intro m
 induction m with
 |zero=>
  intro j s b c e st pb gS q;refine YM De ?_;rw[Z0 VB _];show X4 _ _ (seqItems? (.ref S)>>= _) _ _ s;refine X3 (WQ gS rfl ?_);show X4 _ _ (tryCatch (YV (.ref I)) _ >>= _) _ _ s;refine X3 (W4 (W.done s _ _ (by rw[e];exact st) λg tk kp=>?_))
  show X4 _ _ (updateSeq S (λ_=>#[])>>= _) _ _ _;refine X3 ?_;refine WR (kp S _ wS gS) rfl (X3 (wpAny_letGo (Xa ?_)));exact q b _ tk (by rw[e];exact pb) λa o ha ne ho=>(Uj _ _ (YI ne)).trans (kp a o ha ho)
 |succ m ih=>
  intro j s b c e st pb gS q;refine YM De ?_;rw[Z0 VB _];show X4 _ _ (seqItems? (.ref S)>>= _) _ _ s;refine X3 (WQ gS rfl ?_);show X4 _ _ (tryCatch (YV (.ref I)) _ >>= _) _ _ s;refine X3 (W4 (W.item (j+1) s _ _ (by lia) st λv g tk pv st1 kp=>?_))
  have gS1:=kp S _ wS gS;show X4 _ _ (tryCatch (Uu [v,v] (richCompare .Gt v b >>= _)) _ >>= _) _ _ _;refine X3 (W4 (YF (X3 (cm (j+1) (argBest bt j) v b _ _ _ pv pb ?_))));refine X3 (YF (Ud ?_));refine X3 (wpAny_letGo (Xa ?_));cases hb:bt (j+1) (argBest bt j)with
  |true=>
   rw[if_pos rfl];refine X3 ?_;refine WR gS1 rfl (X3 (wpAny_letGo ?_));rw[BN];refine Xa ⟨YL VB _,ih (j+1) _ v _ (by lia) (W.frame _ _ _ st1 λa ha o ho=>?_) (by rw[argBest,if_pos hb];exact pv) (UW _ gS1 rfl) λv' g' tk' pv' kp'=>?_⟩
   ·exact(Uj _ _ (λz:S=a=>fS (by rw[z];exact ha))).trans ho
   ·exact q v' g' tk' pv' λa o ha ne ho=>kp' a o ha ne ((Uj _ _ (YI ne)).trans (kp a o ha ho))
  |false=>
   rw[if_neg (by simp)]
   refine X3 (wpAny_letGo ?_);rw[BN];refine Xa ⟨YL VB _,ih (j+1) _ b c (by lia) st1 (by rw[argBest,hb,if_neg (by simp)];exact pb) gS1 λv' g' tk' pv' kp'=>?_⟩
   exact q v' g' tk' pv' λa o ha ne ho=>kp' a o ha ne (kp a o ha ho)
theorem Tw(W:Walks prog w A.in1 I fp wr n P St){bt:Nat->Nat->Bool}(cm:CmpOf prog w A.in1 .Gt P bt){S:Addr}(fS:S∉fp)(d:X0){s:X1}{c:Nat}(st:St 0 s.heap)
  (gS:s.heap.get? S=some {cls:=.type "list",dict:=none,data:=.seq #[] c,slots:=#[]})
  (q:∀v g tk,(n=0/\v=d\/0<n/\P (argBest bt (n - 1)) v)->(∀a o,a∉wr->a≠S->s.heap.get? a=some o->g.get? a=some o)->R (.ok (.ret v)) {s with heap:=g,toks:=tk}):
  YW (X8 prog w) A (.builtin "max.loop" ⟨[.ref I,.none,.ref S],[("default",d)]⟩) R s:=by
 have wS:S∉wr:=λh=>fS (W.sub _ h);refine YM De ?_;rw[Z0 VB _];show X4 _ _ (seqItems? (.ref S)>>= _) _ _ s;refine X3 (WQ gS rfl ?_);show X4 _ _ (tryCatch (YV (.ref I)) _ >>= _) _ _ s;by_cases hn:n=0
 ·subst hn;refine X3 (W4 (W.done s _ _ st λg tk kp=>?_));show X4 _ _ (rule _ >>= _) _ _ _;refine X3 (Vb (Xa ?_));exact q d g tk (.inl ⟨rfl,rfl⟩) λa o ha ne ho=>kp a o ha ho
 ·refine X3 (W4 (W.item 0 s _ _ (by lia) st λv g tk pv st1 kp=>?_))
  have gS1:=kp S _ wS gS;show X4 _ _ (updateSeq S (λ_=>#[v,v])>>= _) _ _ _;refine X3 ?_;refine WR gS1 rfl ?_;rw[BN];refine Xa ⟨YL VB _,Tv W cm fS _ (n - 1) 0 _ v _ (by lia) (W.frame _ _ _ st1 λa ha o ho=>?_) pv (UW _ gS1 rfl) λv' g' tk' pv' kp'=>?_⟩
  ·exact(Uj _ _ (λz:S=a=>fS (by rw[z];exact ha))).trans ho
  ·exact q v' g' tk' (.inr ⟨by lia,pv'⟩) λa o ha ne ho=>kp' a o ha ne ((Uj _ _ (YI ne)).trans (kp a o ha ho))
end
theorem Tx(a d:X0):argsOk "max" ⟨[a],[("default",d)]⟩:=by unfold argsOk;kernel_rfl
section
variable{prog:Xn}{w:Xj}{A:Xz}{E:X0->X1->Prop}{s:X1}
theorem Ty{l:Addr}{xs:Array (Int×Tok)}{d:X0}{Q:X0->X1->Prop}(hh:A.handled=none)(hl:s.heap.IsList l (intItems xs))
  (q:∀v h' tk,(xs.size=0/\v=d\/0<xs.size/\(intItems xs)[argBest (λi j=>decide (numAt xs i>numAt xs j)) (xs.size - 1)]?=some v)->(∀b o,s.heap.get? b=some o->h'.get? b=some o)->Q v {s with heap:=h',toks:=tk}):
  X4 (X8 prog w) A (call (.builtin "max") [.ref l] [("default",d)]) Q E s:=by
 have hz:(intItems xs).size=xs.size:=by simp[intItems]
 refine wpAny_call (VY F.plain_max F.entry_max ?_);simp only[checkBuiltinCall,F.kind_max];have ok:=Tx (.ref l) d;cases hsig:Manifest.signature? "max"
 case' some sig=>have ha':Bind.checkArgs "max" sig ⟨[.ref l],[("default",d)]⟩=pure ():=by simpa only[argsOk,hsig]using ok
 case' some=>simp only[ha']
 all_goals
  refine Xa ?_;show X4 _ A.in1 (Gm "max" ["key","default"] 0 ⟨[],[("default",d)]⟩>>= _) _ _ s;refine X3 (wpAny_of_eq (show Gm "max" ["key","default"] 0 ⟨[],[("default",d)]⟩=pure [none,some d]from rfl) ?_);refine X3 (Xa ?_);refine X3 (iter_intList hl λs₂ e st hfp hlI=>?_);subst e;refine X3 (Ux ?_);rw[BN];have W:=BA (prog:=prog) (w:=w) (A:=A.in1) hh _ l hlI (intItems xs);refine Xa ⟨YL VB _,Tw W (CmpOf.ints_gt (numAt xs) (λ_ _=>intItems_at)) (λhm=>Vv _ (hfp _ hm)) d (W.frame _ _ _ st λb _ o e=>Xs _ e) (XS _ rfl) λv h' tk hv hk=>?_⟩;refine q v h' tk (by rw[hz]at hv;exact hv) (old_kept (l:=l) λb o hb e=>?_)
  exact hk b o hb (XH (XA e)) (Xs _ e)
end
section
variable{X:Cx}{x k:Str}{p pos kp:Pos}{e e0:Expr}{te:TE}
noncomputable def rMxd(K:X6)(vs:List V)(H:Hp)(Q:VK):Prop:=∃(a:Addr) (ns:List Int),vs=[.ref a]/\SqL K H a (ns.map V.int)/\∀m,(ns=[]/\m=0\/m∈ns/\∀i∈ns,i≤m)->Q (.int m) H
noncomputable def tMxd(K:X6)(te:TE):TE:=λσ H Q=>te σ H λv H1=>rMxd K [v] H1 Q
theorem Tz(hc:X.calm=true)(hg:Gl X "max")(hm:X.mg "max"=none)(ha:PE X e te)(hz:PE X e0 (tC (.int 0)))(he:XM [e] X.env=(false,eval e X.env)::XM [] X.env):
  PE X (.Call (.Name "max" p) [e] [⟨some "default",e0,kp⟩] pos) (tMxd X.K te):=by
 intro pins s σ H Q I h;refine V8 (Um (u:=.builtin "max") I hg hm (by decide+kernel) ?_ (by decide) (by decide))
 refine callWith_kw ?_ (by rw[he];rfl) (by rw[he];rfl)
 refine thn (UH ha pa_nil he pos pins s σ H (λvs H1=>rMxd X.K vs H1 Q) I h) λus s1 ⟨vs,H1,I1,r,q⟩=>?_;obtain⟨a,ns,rfl,hq,q⟩:=q;obtain⟨u,rfl,ru⟩:=YR r;cases ru;refine kws_cons (thn (hz pins s1 σ H1 (λv H2=>v=.int 0/\H2=H1) I1 ⟨rfl,rfl⟩) λu s2 ⟨v,H2,I2,r2,ev,eh⟩=>kws_nil ?_);subst ev eh;obtain⟨t0,rfl⟩:=r2;obtain⟨its,rv,pl,hzl⟩:=I2.list hq;have hi:IntsAre its ns:=Dw rv;obtain⟨xs,e⟩:=hi.allInts.items;have hns:ns=xs.toList.map (·.1):=by rw[<- hi.numsOf,<- nums_intItems,<- e]
 have hl:=pl.isList;rw[e]at hl;refine Ty (I2.ok.hd hc) hl λv h' tk hv hk=>?_;rcases hv with⟨z,rfl⟩|⟨z,hv⟩
 ·refine⟨.int 0,_,I2.kept hk,⟨t0,rfl⟩,q _ (.inl ⟨?_,rfl⟩)⟩;rw[hns,List.map_eq_nil_iff,<- B8,XU];exact z
 ·obtain⟨t,rfl⟩:=intItems_at hv;obtain⟨h1,h2⟩:=argBest_gt (numAt xs) (xs.size - 1);refine⟨.int _,_,I2.kept hk,⟨t,rfl⟩,q _ (.inr ⟨?_,λa ha=>?_⟩)⟩
  ·rw[hns,numAt_eq];exact getD_mem (by rw[X7,XU];lia)
  ·rw[hns]at ha;obtain⟨j,hj,rfl⟩:=mem_getD ha;rw[X7,XU]at hj;rw[<- numAt_eq];exact h2 j (by lia)
end
inductive Ty7 where|int|bool|str|list|tuple|dict|none
  deriving DecidableEq
noncomputable def Ty7.name:Ty7->String
 |.int=>"int"|.bool=>"bool"|.str=>"str"|.list=>"list"|.tuple=>"tuple"|.dict=>"dict"|.none=>"NoneType"
inductive MV where
 |non|bl (b:Bool)|int (i:Int)|str (x:Str)|tup (xs:List MV)|frl (xs:List MV)|ref (a:Addr)|ty (n:Ty7)
noncomputable def HU:HO->Bool
 |.tup _=>true
 |.frz _ (.lst _)=>true
 |_=>false
noncomputable def Kp(H H':Hp):Prop:=∀a o,H a=some o->HU o=true->H' a=some o
theorem Kp.refl(H:Hp):Kp H H:=λ_ _ h _=>h
theorem Kp.trans{H H1 H2:Hp}(a:Kp H H1)(b:Kp H1 H2):Kp H H2:=λc o h f=>b c o (a c o h f) f
theorem Kp.new{H:Hp}{p:Addr}(h:H p=none)(o:HO):Kp H (upd H p o):=λa u e _=>by rw[XO (VD e h)];exact e
theorem Kp.upd{H:Hp}{p:Addr}{o:HO}(h:H p=some o)(f:HU o=false)(o':HO):Kp H (upd H p o'):=λa u e g=>by
 rw[XO (Gw e h (by intro z;rw[z,f]at g;cases g))];exact e
noncomputable def FrL(K:X6)(H:Hp)(a:Addr)(vs:List V):Prop:=(∃o,H a=some (.frz o (.lst vs)))\/
 ∃(o:Obj) (its:Array X0) (n:Nat),K.lookup a=some o/\o.cls=.type "list"/\o.dict=none/\o.data=.seq its n/\its.size≤sizeLine/\Vals vs its.toList
theorem FrL.sq{K:X6}{H:Hp}{a:Addr}{vs:List V}(h:FrL K H a vs):SqL K H a vs:=by
 rcases h with⟨o,h⟩|h
 ·exact .inl (.inr ⟨o,h⟩)
 ·exact .inr h
mutual
inductive RM (K:X6) (H:Hp):MV->V->Prop
 |non:RM K H .non .non
 |bl (b:Bool):RM K H (.bl b) (.bl b)
 |int (i:Int):RM K H (.int i) (.int i)
 |str (x:Str):RM K H (.str x) (.str x)
 |ref (a:Addr):RM K H (.ref a) (.ref a)
 |ty (n:Ty7):RM K H (.ty n) (.ty n.name)
 |tup {a:Addr} {xs:List MV} {vs:List V}:H a=some (.tup vs)->RMs K H xs vs->RM K H (.tup xs) (.ref a)
 |frl {a:Addr} {xs:List MV} {vs:List V}:FrL K H a vs->RMs K H xs vs->RM K H (.frl xs) (.ref a)
inductive RMs (K:X6) (H:Hp):List MV->List V->Prop
 |nil:RMs K H [] []
 |cons {x:MV} {v:V} {xs:List MV} {vs:List V}:RM K H x v->RMs K H xs vs->RMs K H (x::xs) (v::vs)
end
mutual
theorem RM.mono{K:X6}{H H':Hp}(k:Kp H H'):∀{m:MV} {v:V},RM K H m v->RM K H' m v
 |_,_,.non=>.non
 |_,_,.bl b=>.bl b
 |_,_,.int i=>.int i
 |_,_,.str x=>.str x
 |_,_,.ref a=>.ref a
 |_,_,.ty n=>.ty n
 |_,_,.tup h r=>.tup (k _ _ h rfl) (RMs.mono k r)
 |_,_,.frl h r=>.frl (by
   rcases h with⟨o,h⟩|h
   ·exact .inl ⟨o,k _ _ h rfl⟩
   ·exact .inr h) (RMs.mono k r)
theorem RMs.mono{K:X6}{H H':Hp}(k:Kp H H'):∀{m:List MV} {v:List V},RMs K H m v->RMs K H' m v
 |_,_,.nil=>.nil
 |_,_,.cons a b=>.cons (RM.mono k a) (RMs.mono k b)
end
theorem RMs.length{K:X6}{H:Hp}:∀{m:List MV} {v:List V},RMs K H m v->m.length=v.length
 |_,_,.nil=>rfl
 |_,_,.cons _ b=>by rw[YZ,YZ,b.length]
theorem RMs.get{K:X6}{H:Hp}:∀{m:List MV} {v:List V} {i:Nat} {x:MV},RMs K H m v->m[i]?=some x->∃u,v[i]?=some u/\RM K H x u
 |_,_,_,_,.nil,e=>by simp at e
 |_,_,0,_,.cons r _,e=>by simp at e;subst e;exact⟨_,rfl,r⟩
 |_,_,i+1,x,.cons _ t,e=>by
  obtain⟨u,h1,h2⟩:=RMs.get (i:=i) (x:=x) t (by simpa using e)
  exact⟨u,by simpa using h1,h2⟩
theorem RMs.get'{K:X6}{H:Hp}:∀{m:List MV} {v:List V} {i:Nat} {u:V},RMs K H m v->v[i]?=some u->∃x,m[i]?=some x/\RM K H x u
 |_,_,_,_,.nil,e=>by simp at e
 |_,_,0,_,.cons r _,e=>by simp at e;subst e;exact⟨_,rfl,r⟩
 |_,_,i+1,x,.cons _ t,e=>by
  obtain⟨u,h1,h2⟩:=RMs.get' (i:=i) (u:=x) t (by simpa using e)
  exact⟨u,by simpa using h1,h2⟩
theorem RMs.append{K:X6}{H:Hp}:∀{m m':List MV} {v v':List V},RMs K H m v->RMs K H m' v'->RMs K H (m++m') (v++v')
 |_,_,_,_,.nil,s=>s
 |_,_,_,_,.cons r t,s=>.cons r (t.append s)
theorem RMs.take{K:X6}{H:Hp}:∀{m:List MV} {v:List V} (n:Nat),RMs K H m v->RMs K H (m.take n) (v.take n)
 |_,_,0,_=>.nil
 |_,_,_+1,.nil=>.nil
 |_,_,n+1,.cons r t=>.cons r (t.take n)
theorem RMs.drop{K:X6}{H:Hp}:∀{m:List MV} {v:List V} (n:Nat),RMs K H m v->RMs K H (m.drop n) (v.drop n)
 |_,_,0,r=>r
 |_,_,_+1,.nil=>.nil
 |_,_,n+1,.cons _ t=>t.drop n
theorem RMs.set{K:X6}{H:Hp}{x:MV}{u:V}(r:RM K H x u):∀{m:List MV} {v:List V} (i:Nat),RMs K H m v->RMs K H (m.set i x) (v.set i u)
 |_,_,_,.nil=>.nil
 |_,_,0,.cons _ t=>.cons r t
 |_,_,i+1,.cons q t=>.cons q (t.set r i)
theorem RMs.ints{K:X6}{H:Hp}:∀ns:List Int,RMs K H (ns.map MV.int) (ns.map V.int)
 |[]=>.nil
 |n::r=>.cons (.int n) (RMs.ints r)
theorem RMs.ints_of{K:X6}{H:Hp}:∀{ns:List Int} {vs:List V},RMs K H (ns.map MV.int) vs->vs=ns.map V.int
 |[],_,.nil=>rfl
 |n::r,_,.cons (.int _) t=>by rw[t.ints_of];rfl
inductive MO where
 |lst (xs:List MV)|dic (kvs:List (Key×MV))|ins (c:Str) (fs:List (Str×MV))
 |fdic (o:Obj) (kvs:List (Key×MV))
noncomputable abbrev MH:=Addr->Option MO
noncomputable def updM(M:MH)(a:Addr)(o:MO):MH:=λb=>if b=a then some o else M b
theorem Xg{M:MH}{a:Addr}{o:MO}:updM M a o a=some o:=by unfold updM;rw[if_pos rfl]
theorem Xp{M:MH}{a b:Addr}{o:MO}(h:b≠a):updM M a o b=M b:=by unfold updM;rw[if_neg h]
theorem BO{M:MH}{a:Addr}{o u:MO}:updM (updM M a o) a u=updM M a u:=by funext b;unfold updM;split<;>rfl
inductive RKs {κ:Type} (K:X6) (H:Hp):List (κ×MV)->List (κ×V)->Prop
 |nil:RKs K H [] []
 |cons {k:κ} {x:MV} {v:V} {xs:List (κ×MV)} {vs:List (κ×V)}:RM K H x v->RKs K H xs vs->RKs K H ((k,x)::xs) ((k,v)::vs)
theorem RKs.mono{κ:Type}{K:X6}{H H':Hp}(k:Kp H H'):∀{m:List (κ×MV)} {v:List (κ×V)},RKs K H m v->RKs K H' m v
 |_,_,.nil=>.nil
 |_,_,.cons a b=>.cons (a.mono k) (b.mono k)
theorem RKs.length{κ:Type}{K:X6}{H:Hp}:∀{m:List (κ×MV)} {v:List (κ×V)},RKs K H m v->m.length=v.length
 |_,_,.nil=>rfl
 |_,_,.cons _ b=>by rw[YZ,YZ,b.length]
section
variable{κ:Type} [DecidableEq κ]
noncomputable def valM(kvs:List (κ×MV))(k:κ):Option MV:=match kvs with
 |[]=>none
 |(j,v)::r=>if j=k then some v else valM r k
noncomputable def putM(kvs:List (κ×MV))(k:κ)(v:MV):List (κ×MV):=match kvs with
 |[]=>[(k,v)]
 |(j,u)::r=>if j=k then(j,v)::r else(j,u)::putM r k v
end
noncomputable def RO(K:X6)(H:Hp):MO->HO->Prop
 |.lst xs,.lst vs=>RMs K H xs vs
 |.dic kvs,.dK vs=>RKs K H kvs vs/\(kvs.map (·.1)).Nodup
 |.ins c fs,.ins C _ vs=>Xi K Xf c=some (some (.ref C))/\RKs K H fs vs
 |.fdic o kvs,.frz o' (.dK vs)=>o=o'/\RKs K H kvs vs/\(kvs.map (·.1)).Nodup
 |_,_=>False
theorem RO.mono{K:X6}{H H':Hp}(k:Kp H H'){o:MO}{u:HO}(h:RO K H o u):RO K H' o u:=by
 cases o with
 |lst xs=>cases u<;>first|exact RMs.mono k h|exact h.elim
 |dic kvs=>cases u<;>first|exact⟨h.1.mono k,h.2⟩|exact h.elim
 |ins c fs=>cases u<;>first|exact⟨h.1,h.2.mono k⟩|exact h.elim
 |fdic ob kvs=>
  cases u with
  |frz o' u=>cases u<;>first|exact⟨h.1,h.2.1.mono k,h.2.2⟩|exact h.elim
  |_=>exact h.elim
noncomputable def RH(K:X6)(M:MH)(H:Hp):Prop:=∀a o,M a=some o->∃u,H a=some u/\RO K H o u
theorem RH.free{K:X6}{M:MH}{H:Hp}(r:RH K M H){p:Addr}(h:H p=none):M p=none:=by
 cases e:M p with
 |none=>rfl
 |some o=>obtain⟨u,hu,_⟩:=r p o e;rw[hu]at h;cases h
theorem RH.lst{K:X6}{M:MH}{H:Hp}(r:RH K M H){p:Addr}{xs:List MV}(h:M p=some (.lst xs)):∃vs,H p=some (.lst vs)/\RMs K H xs vs:=by
 obtain⟨u,hu,ro⟩:=r p _ h;cases u<;>try exact ro.elim
 exact⟨_,hu,ro⟩
theorem RH.dic{K:X6}{M:MH}{H:Hp}(r:RH K M H){p:Addr}{xs:List (Key×MV)}(h:M p=some (.dic xs)):∃vs,H p=some (.dK vs)/\RKs K H xs vs/\(xs.map (·.1)).Nodup:=by
 obtain⟨u,hu,ro⟩:=r p _ h;cases u<;>try exact ro.elim
 exact⟨_,hu,ro.1,ro.2⟩
theorem RH.fdic{K:X6}{M:MH}{H:Hp}(r:RH K M H){p:Addr}{o:Obj}{xs:List (Key×MV)}(h:M p=some (.fdic o xs)):∃vs,H p=some (.frz o (.dK vs))/\RKs K H xs vs/\(xs.map (·.1)).Nodup:=by
 obtain⟨u,hu,ro⟩:=r p _ h;cases u with
 |frz o' u=>
  cases u<;>try exact ro.elim
  obtain⟨rfl,r1,r2⟩:=ro;exact⟨_,hu,r1,r2⟩
 |_=>exact ro.elim
theorem RH.ins{K:X6}{M:MH}{H:Hp}(r:RH K M H){p:Addr}{c:Str}{fs:List (Str×MV)}(h:M p=some (.ins c fs)):∃C dx vs,H p=some (.ins C dx vs)/\Xi K Xf c=some (some (.ref C))/\RKs K H fs vs:=by
 obtain⟨u,hu,ro⟩:=r p _ h;cases u<;>try exact ro.elim
 exact⟨_,_,_,hu,ro.1,ro.2⟩
theorem RH.put{K:X6}{M:MH}{H:Hp}(r:RH K M H){p:Addr}{u:HO}{o:MO}(k:Kp H (upd H p u))(ro:RO K (upd H p u) o u):RH K (updM M p o) (upd H p u):=by
 intro a o' e;by_cases h:a=p
 ·subst h;rw[Xg]at e;cases e;exact⟨u,UG,ro⟩
 ·rw[Xp h]at e;obtain⟨v,hv,rv⟩:=r a o' e;exact⟨v,by rw[XO h];exact hv,rv.mono k⟩
theorem RH.kept{K:X6}{M:MH}{H:Hp}(r:RH K M H){p:Addr}(hp:H p=none)(u:HO):RH K M (upd H p u):=by
 intro a o' e;obtain⟨v,hv,rv⟩:=r a o' e;exact⟨v,by rw[XO (VD hv hp)];exact hv,rv.mono (Kp.new hp u)⟩
noncomputable abbrev Sm:=List (Option MV)
noncomputable abbrev QM:=MV->MH->Prop
noncomputable abbrev TEm:=Sm->MH->QM->Prop
noncomputable abbrev TAm:=Sm->MH->(List MV->MH->Prop)->Prop
noncomputable def RS(K:X6)(H:Hp)(σm:Sm)(σ:St):Prop:=σm.length=σ.length/\∀(i:Nat) (m:MV),σm[i]?=some (some m)->∃v,σ[i]?=some (some v)/\RM K H m v
theorem RS.mono{K:X6}{H H':Hp}(k:Kp H H'){σm:Sm}{σ:St}(h:RS K H σm σ):RS K H' σm σ:=⟨h.1,λi m e=>by
 obtain⟨v,hv,r⟩:=h.2 i m e;exact⟨v,hv,r.mono k⟩⟩
theorem RS.set{K:X6}{H:Hp}{σm:Sm}{σ:St}(h:RS K H σm σ){m:MV}{v:V}(r:RM K H m v)(i:Nat):RS K H (σm.set i (some m)) (σ.set i (some v)):=by
 refine⟨by simp[h.1],λj x e=>?_⟩
 rw[WV]at e;by_cases hij:i=j
 ·subst hij;rw[if_pos rfl]at e;split at e
  ·cases e;exact⟨v,by rw[WV,if_pos rfl,if_pos (by rw[<- h.1];assumption)],r⟩
  ·cases e
 ·rw[if_neg hij]at e;obtain⟨u,hu,ru⟩:=h.2 j x e;exact⟨u,by rw[WV,if_neg hij];exact hu,ru⟩
noncomputable def Dn(K:X6)(H:Hp)(Q:VK):QM:=λm M=>∀v H',Kp H H'->RM K H' m v->RH K M H'->Q v H'
theorem Dn.on{K:X6}{H H1:Hp}{Q:VK}(k:Kp H H1){m:MV}{M:MH}(h:Dn K H Q m M):Dn K H1 Q m M:=λv H' k' r rh=>h v H' (k.trans k') r rh
noncomputable def liE(K:X6)(t:TEm):TE:=λσ H Q=>∃σm M,RS K H σm σ/\RH K M H/\t σm M (Dn K H Q)
noncomputable def liA(K:X6)(t:TAm):TA:=λσ H Q=>∃σm M,RS K H σm σ/\RH K M H/\t σm M (λms M'=>∀vs H',Kp H H'->RMs K H' ms vs->RH K M' H'->Q vs H')
noncomputable def MonE(t:TEm):Prop:=∀{σ M} {Q Q':QM},(∀m M',Q m M'->Q' m M')->t σ M Q->t σ M Q'
noncomputable def MonA(t:TAm):Prop:=∀{σ M} {Q Q':List MV->MH->Prop},(∀m M',Q m M'->Q' m M')->t σ M Q->t σ M Q'
noncomputable abbrev W1:=MV->MH->QM->Prop
noncomputable abbrev W2:=MV->MV->MH->QM->Prop
noncomputable abbrev WA:=List MV->MH->QM->Prop
noncomputable def Mon1(w:W1):Prop:=∀{x M} {Q Q':QM},(∀m M',Q m M'->Q' m M')->w x M Q->w x M Q'
noncomputable def Mon2(w:W2):Prop:=∀{x y M} {Q Q':QM},(∀m M',Q m M'->Q' m M')->w x y M Q->w x y M Q'
noncomputable def MonW(w:WA):Prop:=∀{xs M} {Q Q':QM},(∀m M',Q m M'->Q' m M')->w xs M Q->w xs M Q'
noncomputable def li1(K:X6)(w:W1):V->Hp->VK->Prop:=λx H Q=>∃mx M,RM K H mx x/\RH K M H/\w mx M (Dn K H Q)
noncomputable def li2(K:X6)(w:W2):R2:=λx y H Q=>∃mx my M,RM K H mx x/\RM K H my y/\RH K M H/\w mx my M (Dn K H Q)
noncomputable def liW(K:X6)(w:WA):List V->Hp->VK->Prop:=λxs H Q=>∃ms M,RMs K H ms xs/\RH K M H/\w ms M (Dn K H Q)
section
variable{K:X6}
theorem DH{ta tb:TEm}{w:W2}(ma:MonE ta)(mb:MonE tb)(mw:Mon2 w){σ:St}{H:Hp}{Q:VK}
  (h:liE K (λσ M Q=>ta σ M λx M1=>tb σ M1 λy M2=>w x y M2 Q) σ H Q):tOp (li2 K w) (liE K ta) (liE K tb) σ H Q:=by
 obtain⟨σm,M,rs,rh,h⟩:=h;refine⟨σm,M,rs,rh,ma (λx M1 h1=>?_) h⟩;intro v H1 k1 r1 rh1;refine⟨σm,M1,rs.mono k1,rh1,mb (λy M2 h2=>?_) h1⟩;intro u H2 k2 r2 rh2;exact⟨x,y,M2,r1.mono k2,r2,rh2,mw (λm M' hq=>hq.on (k1.trans k2)) h2⟩
end
theorem PE.weak{X:Cx}{e:Expr}{t t':TE}(h:PE X e t)(i:∀σ H Q,t' σ H Q->t σ H Q):PE X e t':=λpins s σ H Q I q=>h pins s σ H Q I (i _ _ _ q)
theorem PT.weak{X:Cx}{e:Expr}{t t':TT}(h:PT X e t)(i:∀σ H Q,t' σ H Q->t σ H Q):PT X e t':=λpins s σ H Q I q=>h pins s σ H Q I (i _ _ _ q)
theorem PW.weak{X:Cx}{e:Expr}{t t':TT}(h:PW X e t)(i:∀σ H Q,t' σ H Q->t σ H Q):PW X e t':=λwh pins s σ H Q I q=>h wh pins s σ H Q I (i _ _ _ q)
theorem PA.weak{X:Cx}{e:List Expr}{t t':TA}(h:PA X e t)(i:∀σ H Q,t' σ H Q->t σ H Q):PA X e t':=λpos pins s σ H Q I q=>h pos pins s σ H Q I (i _ _ _ q)
theorem PS.weak{X:Cx}{e:Stmt}{t t':TS}(h:PS X e t)(i:∀D σ H,t' D σ H->t D σ H):PS X e t':=λpins s σ H D I q=>h pins s σ H D I (i _ _ _ q)
theorem PSs.weak{X:Cx}{e:List Stmt}{t t':TS}(h:PSs X e t)(i:∀D σ H,t' D σ H->t D σ H):PSs X e t':=λpins s σ H D I q=>h pins s σ H D I (i _ _ _ q)
noncomputable def wBin(op:UT)(x y:MV)(M:MH)(Q:QM):Prop:=match op,x,y with
 |.Add,.int i,.int j=>Q (.int (i+j)) M
 |.Sub,.int i,.int j=>Q (.int (i - j)) M
 |.Mult,.int i,.int j=>CMul i j/\Q (.int (i*j)) M
 |.FloorDiv,.int i,.int j=>Ag i j/\Q (.int (i/j)) M
 |.Mod,.int i,.int j=>0<j/\Q (.int (i%j)) M
 |.Pow,.int i,.int j=>CPow i j/\Q (.int (i^j.toNat)) M
 |.Add,.str i,.str j=>i.length+j.length≤sizeLine/\Q (.str (i++j)) M
 |.Mult,.str z,.int i=>z.length≤16/\ -1000≤i/\i≤1000/\Q (.str (Txt.mul z i)) M
 |_,_,_=>False
theorem HV(op:UT):Mon2 (wBin op):=by
 intro x y M Q Q' hq h;unfold wBin at h ⊢;split at h
 all_goals first
  |exact hq _ _ h
  |exact h.elim
  |exact⟨h.1,hq _ _ h.2⟩
  |exact⟨h.1,h.2.1,hq _ _ h.2.2⟩
  |exact⟨h.1,h.2.1,h.2.2.1,hq _ _ h.2.2.2⟩
  |(obtain⟨xs,ys,h1,h2,h3,h4⟩:=h
    exact⟨xs,ys,h1,h2,h3,λp hp=>hq _ _ (h4 p hp)⟩)
  |(obtain⟨ys,h2,h3,h4⟩:=h
    exact⟨ys,h2,h3,λp hp=>hq _ _ (h4 p hp)⟩)
  |(obtain⟨ys,h2,h3,h4,h5,h6⟩:=h
    exact⟨ys,h2,h3,h4,h5,λp hp=>hq _ _ (h6 p hp)⟩)
section
variable{X:Cx}
theorem TB(op:UT):OpR X (Uw op) (li2 X.K (wBin op)):=by
 intro pins s σ H x y v u Q I rx ry h;obtain⟨mx,my,M,r1,r2,rh,h⟩:=h;unfold wBin at h;split at h
 ·cases r1;cases r2;exact Qv pins s σ H _ _ v u Q I rx ry ⟨_,_,rfl,rfl,h _ _ (Kp.refl _) (.int _) rh⟩
 ·cases r1;cases r2;exact Qw pins s σ H _ _ v u Q I rx ry ⟨_,_,rfl,rfl,h _ _ (Kp.refl _) (.int _) rh⟩
 ·cases r1;cases r2;exact Qx pins s σ H _ _ v u Q I rx ry ⟨_,_,rfl,rfl,h.1,h.2 _ _ (Kp.refl _) (.int _) rh⟩
 ·cases r1;cases r2;exact RT pins s σ H _ _ v u Q I rx ry ⟨_,_,rfl,rfl,h.1,h.2 _ _ (Kp.refl _) (.int _) rh⟩
 ·cases r1;cases r2;exact Qy pins s σ H _ _ v u Q I rx ry ⟨_,_,rfl,rfl,h.1,h.2 _ _ (Kp.refl _) (.int _) rh⟩
 ·cases r1;cases r2;exact Qz pins s σ H _ _ v u Q I rx ry ⟨_,_,rfl,rfl,h.1,h.2 _ _ (Kp.refl _) (.int _) rh⟩
 ·cases r1;cases r2;exact QN pins s σ H _ _ v u Q I rx ry ⟨_,_,rfl,rfl,h.1,h.2 _ _ (Kp.refl _) (.str _) rh⟩
 ·cases r1;cases r2;exact S1 pins s σ H _ _ v u Q I rx ry ⟨_,_,rfl,rfl,h.1,h.2.1,h.2.2.1,h.2.2.2 _ _ (Kp.refl _) (.str _) rh⟩
 ·exact h.elim
end
mutual
inductive DM (M:MH):MV->Yx->Prop
 |non:DM M .non .none
 |bl (b:Bool):DM M (.bl b) (.bool b)
 |int (i:Int):DM M (.int i) (.int i)
 |str (x:Str):DM M (.str x) (.str x)
 |lst {a:Addr} {xs:List MV} {ds:List Yx}:M a=some (.lst xs)->DMs M xs ds->DM M (.ref a) (.list ds)
 |frl {xs:List MV} {ds:List Yx}:DMs M xs ds->DM M (.frl xs) (.list ds)
 |tup {xs:List MV} {ds:List Yx}:DMs M xs ds->DM M (.tup xs) (.tuple ds)
inductive DMs (M:MH):List MV->List Yx->Prop
 |nil:DMs M [] []
 |cons {x:MV} {xs:List MV} {d:Yx} {ds:List Yx}:DM M x d->DMs M xs ds->DMs M (x::xs) (d::ds)
end
mutual
theorem DM.dp{K:X6}{M:MH}{H:Hp}(rh:RH K M H):∀{m:MV} {d:Yx} {v:V},DM M m d->RM K H m v->Dp K H v d
 |_,_,_,.non,.non=>.non
 |_,_,_,.bl b,.bl _=>.bl b
 |_,_,_,.int i,.int _=>.int i
 |_,_,_,.str x,.str _=>.str x
 |_,_,_,.lst h q,r=>by
  cases r;obtain⟨vs,e,r⟩:=rh.lst h;exact .lst (SqL.of e) (DMs.dp rh q r)
 |_,_,_,.frl q,.frl h r=>.lst h.sq (DMs.dp rh q r)
 |_,_,_,.tup q,.tup h r=>.tup (SqT.of h) (DMs.dp rh q r)
theorem DMs.dp{K:X6}{M:MH}{H:Hp}(rh:RH K M H):∀{m:List MV} {d:List Yx} {v:List V},DMs M m d->RMs K H m v->DpAll K H v d
 |_,_,_,.nil,.nil=>.nil
 |_,_,_,.cons a b,.cons c d=>.cons (DM.dp rh a c) (DMs.dp rh b d)
end
noncomputable def eqS:MV->MV->Option Bool
 |.int i,.int j=>some (decide (i=j))
 |.str i,.str j=>some (decide (i=j))
 |.bl i,.bl j=>some (decide (i=j))
 |.non,.non=>some true
 |.non,.int _=>some false|.int _,.non=>some false|.non,.bl _=>some false|.bl _,.non=>some false|.non,.str _=>some false|.str _,.non=>some false
 |.int _,.str _=>some false|.str _,.int _=>some false|.bl _,.str _=>some false|.str _,.bl _=>some false
 |_,_=>none
theorem HW{K:X6}{H:Hp}{x y:MV}{u v:V}{b:Bool}(h:eqS x y=some b)(r:RM K H x u)(q:RM K H y v):scal u v=true/\decide (u=v)=b:=by
 unfold eqS at h;split at h<;>cases h<;>cases r<;>cases q<;>refine⟨rfl,?_⟩
 ·rw[decide_eq_decide];exact⟨V.int.inj,λe=>by rw[e]⟩
 ·rw[decide_eq_decide];exact⟨V.str.inj,λe=>by rw[e]⟩
 ·rw[decide_eq_decide];exact⟨V.bl.inj,λe=>by rw[e]⟩
 all_goals rfl
inductive DHits (M:MH) (kb:List (Key×MV)):List (Key×MV)->Bool->Prop
 |nil:DHits M kb [] true
 |miss {k:Key} {v:MV} {r:List (Key×MV)}:valM kb k=none->DHits M kb ((k,v)::r) false
 |hit {k:Key} {v y:MV} {d e:Yx} {r:List (Key×MV)} {b:Bool}:valM kb k=some y->DM M v d->DM M y e->SeqAt.shaped d=true->SeqAt.shaped e=true->DHits M kb r b->DHits M kb ((k,v)::r) (PyData.eqv d e&&b)
noncomputable def LstM(M:MH)(x:MV)(xs:List MV):Prop:=x=.frl xs\/∃a,x=.ref a/\M a=some (.lst xs)
noncomputable def Yu:MV->Bool
 |.non=>true|.bl _=>true|.int _=>true|.str _=>true|_=>false
noncomputable def Alike(M:MH):Nat->MV->MV->Prop
 |0,x,y=>Yu x=true/\x=y
 |n+1,x,y=>(Yu x=true/\x=y)\/(∃xs ys,x=.tup xs/\y=.tup ys/\xs.length=ys.length/\∀(i:Nat) u v,xs[i]?=some u->ys[i]?=some v->Alike M n u v)\/
  (∃xs ys,LstM M x xs/\LstM M y ys/\xs.length=ys.length/\∀(i:Nat) u v,xs[i]?=some u->ys[i]?=some v->Alike M n u v)\/
  ∃a b ka kb,x=.ref a/\y=.ref b/\M a=some (.dic ka)/\M b=some (.dic kb)/\ka.length=kb.length/\∀k u,(k,u)∈ka->∃v,valM kb k=some v/\Alike M n u v
noncomputable def wEq(x y:MV)(M:MH)(k:Bool->Prop):Prop:=match eqS x y with
 |some b=>k b
 |none=>(∃n≤60,Alike M n x y/\k true)\/(∃a b xs,x=.ref a/\y=.ref b/\M a=some (.lst xs)/\M b=some (.lst [])/\k xs.isEmpty)\/False\/False
noncomputable def toV:MV->V
 |.non=>.non|.bl b=>.bl b|.int i=>.int i|.str x=>.str x|_=>.non
theorem V1{K:X6}{H:Hp}{m:MV}{v:V}(f:Yu m=true)(r:RM K H m v):v=toV m/\UJ v=true:=by
 cases r<;>first|exact⟨rfl,rfl⟩|cases f
theorem VH{K:X6}{H:Hp}:∀{m:List MV} {v:List V},m.all Yu=true->RMs K H m v->v=m.map toV/\v.all UJ=true
 |_,_,_,.nil=>⟨rfl,rfl⟩
 |_,_,f,.cons r t=>by
  rw[Vr,Yp]at f;obtain⟨e,g⟩:=V1 f.1 r;obtain⟨e2,g2⟩:=VH f.2 t;subst e e2;exact⟨rfl,by rw[Vr,g,g2];rfl⟩
noncomputable def keyM:MV->Option Key
 |.int i=>some (.inl i)
 |.str x=>some (.inr x)
 |_=>none
theorem An{K:X6}{H:Hp}{m:MV}{v:V}{k:Key}(e:keyM m=some k)(r:RM K H m v):v=kV k:=by
 cases r<;>cases e<;>rfl
theorem Wo{K:X6}{H:Hp}{k:Key}:∀{m:List (Key×MV)} {v:List (Key×V)},RKs K H m v->(valM m k=none/\valV v k=none)\/∃x u,valM m k=some x/\valV v k=some u/\RM K H x u
 |_,_,.nil=>.inl ⟨rfl,rfl⟩
 |_,_,.cons (k:=j) (x:=x) (v:=u) r t=>by
  by_cases e:j=k
  ·refine .inr ⟨x,u,?_,BE (p:=(j,u)) e,r⟩;unfold valM;rw[if_pos e]
  ·have:=Wo (k:=k) t;unfold valM;rw[if_neg e,BF (p:=(j,u)) e];exact this
theorem HX{K:X6}{H:Hp}{k:Key}:∀{m:List (Key×MV)} {v:List (Key×V)},RKs K H m v->(v.any λkv=>decide (kv.1=k))=(m.any λkv=>decide (kv.1=k))
 |_,_,.nil=>rfl
 |_,_,.cons r t=>by rw[UD,UD,HX t]
theorem DI{K:X6}{H:Hp}{k:Key}{x:MV}{u:V}(r:RM K H x u):∀{m:List (Key×MV)} {v:List (Key×V)},RKs K H m v->
  RKs K H (m.map λkv=>if kv.1=k then(kv.1,x)else kv) (v.map λkv=>if kv.1=k then(kv.1,u)else kv)
 |_,_,.nil=>.nil
 |_,_,.cons (k:=j) q t=>by
  rw[XC,XC];by_cases e:j=k
  ·rw[if_pos e,if_pos e];exact .cons r (DI r t)
  ·rw[if_neg e,if_neg e];exact .cons q (DI r t)
theorem HY{κ:Type}{K:X6}{H:Hp}:∀{m m':List (κ×MV)} {v v':List (κ×V)},RKs K H m v->RKs K H m' v'->RKs K H (m++m') (v++v')
 |_,_,_,_,.nil,s=>s
 |_,_,_,_,.cons r t,s=>.cons r (HY t s)
theorem HZ{κ:Type} [DecidableEq κ] {k:κ}{x:MV}:∀{m:List (κ×MV)},¬k∈m.map (·.1)->(m.map λkv=>if kv.1=k then(kv.1,x)else kv)=m
 |[],_=>rfl
 |(j,y)::r,h=>by
  rw[XC,if_neg (λe=>h (by simp[show j=k from e])),HZ (λe=>h (by simp[e]))]
theorem I0{κ:Type} [DecidableEq κ] {k:κ}{x:MV}:∀{m:List (κ×MV)},(m.map (·.1)).Nodup->putM m k x=if(m.any λkv=>decide (kv.1=k))=true then m.map (λkv=>if kv.1=k then(kv.1,x)else kv)else m++[(k,x)]
 |[],_=>rfl
 |(j,y)::r,h=>by
  rw[XC,YO]at h;unfold putM;rw[UD];by_cases e:j=k
  ·subst e;rw[if_pos rfl,if_pos (by simp),XC,if_pos rfl,HZ h.1]
  ·rw[if_neg e,I0 h.2,show decide ((j,y).1=k)=false from decide_eq_false e,Bool.false_or,XC,if_neg (show¬(j,y).1=k from e)];split<;>rfl
theorem Ia{κ:Type} [DecidableEq κ] {k:κ}{x:MV}:∀(m:List (κ×MV)),((putM m k x).map (·.1))=if k∈m.map (·.1)then m.map (·.1)else m.map (·.1)++[k]
 |[]=>rfl
 |(j,y)::r=>by
  unfold putM;by_cases e:j=k
  ·subst e;simp
  ·rw[if_neg e,XC,Ia r,XC];have e':k≠j:=λz=>e z.symm;by_cases m:k∈r.map (·.1)
   ·rw[if_pos m,if_pos (Xt.mpr (.inr m))]
   ·rw[if_neg m,if_neg (λz=>(Xt.mp z).elim e' m)];rfl
theorem Ib{K:X6}{H:Hp}{k:Key}{x:MV}{u:V}(r:RM K H x u){m:List (Key×MV)}{v:List (Key×V)}(nd:(m.map (·.1)).Nodup)(h:RKs K H m v):
  RKs K H (putM m k x) (putK v k u)/\((putM m k x).map (·.1)).Nodup:=by
 refine⟨?_,?_⟩
 ·rw[I0 nd];unfold putK;rw[HX h];split
  ·exact DI r h
  ·exact HY h (.cons r .nil)
 ·rw[Ia];split
  ·exact nd
  ·exact Hq nd (by assumption)
noncomputable def wIn(x y:MV)(M:MH)(k:Bool->Prop):Prop:=match y with
 |.tup xs=>Yu x=true/\xs.all Yu=true/\k (inV (toV x) (xs.map toV))
 |.frl xs=>Yu x=true/\xs.all Yu=true/\k (inV (toV x) (xs.map toV))
 |.ref a=>(∃xs,M a=some (.lst xs)/\Yu x=true/\xs.all Yu=true/\k (inV (toV x) (xs.map toV)))\/∃kvs kk,M a=some (.dic kvs)/\keyM x=some kk/\k (valM kvs kk).isSome
 |_=>False
noncomputable def Zf:MV->Bool
 |.non=>true|_=>false
noncomputable def isBl(b:Bool):MV->Bool
 |.bl c=>decide (c=b)
 |_=>false
noncomputable def wCmp(op:Yw)(x y:MV)(M:MH)(Q:QM):Prop:=match op with
 |.Lt=>∃i j,x=.int i/\y=.int j/\Q (.bl (decide (i<j))) M
 |.LtE=>(∃i j,x=.int i/\y=.int j/\Q (.bl (decide (i≤j))) M)\/∃i j,x=.str i/\y=.str j/\Q (.bl (!decide (j.cps.toList<i.cps.toList))) M
 |.Gt=>∃i j,x=.int i/\y=.int j/\Q (.bl (decide (j<i))) M
 |.GtE=>∃i j,x=.int i/\y=.int j/\Q (.bl (decide (j≤i))) M
 |.Eq=>wEq x y M λb=>Q (.bl b) M
 |.NotEq=>wEq x y M λb=>Q (.bl (!b)) M
 |.In=>wIn x y M λb=>Q (.bl b) M
 |.NotIn=>wIn x y M λb=>Q (.bl (!b)) M
 |.Is=>(y=.non/\Q (.bl (Zf x)) M)\/∃b,y=.bl b/\Q (.bl (isBl b x)) M
 |.IsNot=>(y=.non/\Q (.bl (!Zf x)) M)\/∃b,y=.bl b/\Q (.bl (!isBl b x)) M
theorem Ic{x y:MV}{M:MH}{k k':Bool->Prop}(hk:∀b,k b->k' b)(h:wEq x y M k):wEq x y M k':=by
 unfold wEq at h ⊢;split
 ·rename_i b e;rw[e]at h;exact hk _ h
 ·rename_i e;rw[e]at h;rcases h with⟨n,h1,h2,h3⟩|⟨a,b,xs,h1,h2,h3,h4,h5⟩|h|h
  ·exact .inl ⟨n,h1,h2,hk _ h3⟩
  ·exact .inr (.inl ⟨a,b,xs,h1,h2,h3,h4,hk _ h5⟩)
  ·exact h.elim
  ·exact h.elim
theorem Id{x y:MV}{M:MH}{k k':Bool->Prop}(hk:∀b,k b->k' b)(h:wIn x y M k):wIn x y M k':=by
 unfold wIn at h ⊢;split at h
 ·exact⟨h.1,h.2.1,hk _ h.2.2⟩
 ·exact⟨h.1,h.2.1,hk _ h.2.2⟩
 ·rcases h with⟨xs,h1,h2,h3,h4⟩|⟨kvs,kk,h1,h2,h3⟩
  ·exact .inl ⟨xs,h1,h2,h3,hk _ h4⟩
  ·exact .inr ⟨kvs,kk,h1,h2,hk _ h3⟩
 ·exact h.elim
theorem Wp(op:Yw):Mon2 (wCmp op):=by
 intro x y M Q Q' hq h;cases op
 ·exact Ic (k:=λb=>Q (.bl b) M) (k':=λb=>Q' (.bl b) M) (λb h=>hq _ _ h) h
 ·exact Ic (k:=λb=>Q (.bl (!b)) M) (k':=λb=>Q' (.bl (!b)) M) (λb h=>hq _ _ h) h
 ·obtain⟨i,j,h1,h2,h3⟩:=h;exact⟨i,j,h1,h2,hq _ _ h3⟩
 ·rcases h with⟨i,j,h1,h2,h3⟩|⟨i,j,h1,h2,h3⟩
  ·exact .inl ⟨i,j,h1,h2,hq _ _ h3⟩
  ·exact .inr ⟨i,j,h1,h2,hq _ _ h3⟩
 ·obtain⟨i,j,h1,h2,h3⟩:=h;exact⟨i,j,h1,h2,hq _ _ h3⟩
 ·obtain⟨i,j,h1,h2,h3⟩:=h;exact⟨i,j,h1,h2,hq _ _ h3⟩
 ·rcases h with h|⟨b,e,h⟩
  ·exact .inl ⟨h.1,hq _ _ h.2⟩
  ·exact .inr ⟨b,e,hq _ _ h⟩
 ·rcases h with h|⟨b,e,h⟩
  ·exact .inl ⟨h.1,hq _ _ h.2⟩
  ·exact .inr ⟨b,e,hq _ _ h⟩
 ·exact Id (k:=λb=>Q (.bl b) M) (k':=λb=>Q' (.bl b) M) (λb h=>hq _ _ h) h
 ·exact Id (k:=λb=>Q (.bl (!b)) M) (k':=λb=>Q' (.bl (!b)) M) (λb h=>hq _ _ h) h
section
variable{X:Cx}
theorem Ie{K:X6}{H:Hp}{m:MV}{v:V}{b:Bool}(r:RM K H m v):decide (v=.bl b)=isBl b m:=by
 cases r<;>first|rfl|(rename_i c;cases b<;>cases c<;>rfl)
theorem Ig{K:X6}{H:Hp}{m:MV}{v:V}(r:RM K H m v):decide (v=.non)=Zf m:=by cases r<;>rfl
theorem TC{kvs:List (Key×V)}{vs:List (Key×X0)}{k:Key}{v:V}(r:KV kvs vs)(h:valV kvs k=some v):∃u,Z6 vs k=some u/\RelV v u:=by
 have q:=r.val k;rw[h]at q;exact RelO.some_of q
theorem LstM.sq{M:MH}{H:Hp}(rh:RH X.K M H){x:MV}{xs:List MV}{u:V}(h:LstM M x xs)(r:RM X.K H x u):∃a vs,u=.ref a/\SqL X.K H a vs/\RMs X.K H xs vs:=by
 rcases h with rfl|⟨a,rfl,h⟩
 ·cases r with
  |frl h1 q1=>exact⟨_,_,rfl,h1.sq,q1⟩
 ·cases r;obtain⟨vs,e,q⟩:=rh.lst h;exact⟨a,vs,rfl,SqL.of e,q⟩
theorem BP{xs:List V}{us:List X0}(r:Vals xs us){i:Nat}{u:X0}(h:us[i]?=some u):∃x,xs[i]?=some x/\RelV x u:=by
 induction r generalizing i with
 |nil=>cases h
 |cons q _ ih=>
  cases i with
  |zero=>cases h;exact⟨_,rfl,q⟩
  |succ i=>exact ih (i:=i) h
theorem TD{kvs:List (Key×V)}{vs:List (Key×X0)}(r:KV kvs vs){k:Key}{u:X0}(h:(k,u)∈vs):∃x,(k,x)∈kvs/\RelV x u:=by
 induction r with
 |nil=>cases h
 | @cons p p' _ _ q _ ih=>
  obtain⟨k1,x1⟩:=p;obtain⟨k2,x2⟩:=p';rcases Xt.mp h with e|h
  ·cases e;have e1:k1=k:=q.1;subst e1;exact⟨x1,Yg,q.2⟩
  ·obtain⟨x,m,rx⟩:=ih h;exact⟨x,Ya _ m,rx⟩
theorem Ih{K:X6}{H:Hp}{k:Key}{v:V}:∀{m:List (Key×MV)} {vs:List (Key×V)},RKs K H m vs->(k,v)∈vs->∃x,(k,x)∈m/\RM K H x v
 |_,_,.nil,h=>by cases h
 |_,_,.cons r t,h=>by
  rcases Xt.mp h with e|h
  ·cases e;exact⟨_,Yg,r⟩
  ·obtain⟨x,m,q⟩:=Ih t h;exact⟨x,Ya _ m,q⟩
theorem Alike.inn{pins:List (Addr×Obj)}{s:X1}{σ:St}{H:Hp}{M:MH}(I:Inv X pins σ H s)(rh:RH X.K M H){n:Nat}{A:Xz}(hu:A.units<cLine)
  (ih:∀{x y:MV} {u v:V} {u' v':X0},Alike M n x y->RM X.K H x u->RM X.K H y v->RelV u u'->RelV v v'->AliP X.prog X.w A.in1 s u' v')
  {x y:MV} {u v:V} {u' v':X0} (h:Alike M (n+1) x y) (r1:RM X.K H x u) (r2:RM X.K H y v) (q1:RelV u u') (q2:RelV v v'):
  (Yu x=true/\x=y)\/∃a b,u'=.ref a/\v'=.ref b/\RcP X.prog X.w A s (.ref a) (.ref b)/\RnP X.prog X.w A s (.ref a) (.ref b):=by
 rw[Alike]at h;rcases h with h|⟨xs,ys,rfl,rfl,e,h⟩|⟨xs,ys,h1,h2,e,h⟩|⟨a,b,ka,kb,rfl,rfl,h1,h2,e,h⟩
 ·exact .inl h
 ·cases r1 with
  |tup g1 w1=>
   cases r2 with
   |tup g2 w2=>
    rename_i a vs b us
    obtain rfl:u'=XD a:=q1;obtain rfl:v'=XD b:=q2;obtain⟨i1,p1,t1,_⟩:=I.tuple (SqT.of g1);obtain⟨i2,p2,t2,_⟩:=I.tuple (SqT.of g2);have z:i1.toArray.size=i2.toArray.size:=by rw[XT,XT,<- p1.length,<- p2.length,<- w1.length,<- w2.length];exact e
    have he:∀p∈i1.toArray.toList.zip i2.toArray.toList,AliP X.prog X.w A.in1 s p.1 p.2:=by
     intro p hp;obtain⟨i,hi⟩:=List.mem_iff_getElem?.mp hp;rw[CN]at hi;obtain⟨x1,c1,d1⟩:=BP p1 hi.1;obtain⟨x2,c2,d2⟩:=BP p2 hi.2;obtain⟨m1,c3,d3⟩:=w1.get' c1;obtain⟨m2,c4,d4⟩:=w2.get' c2;exact ih (h i m1 m2 c3 c4) d3 d4 d1 d2
    exact .inr ⟨_,_,rfl,rfl,S5 t1 t2 z hu he,S8 t1 t2 z hu he⟩
 ·obtain⟨a,vs,rfl,g1,w1⟩:=h1.sq rh r1;obtain⟨b,us,rfl,g2,w2⟩:=h2.sq rh r2;obtain rfl:u'=XD a:=q1;obtain rfl:v'=XD b:=q2;obtain⟨i1,p1,⟨o1,n1,t1,t2,_,t3⟩,_⟩:=I.list g1;obtain⟨i2,p2,⟨o2,n2,t4,t5,_,t6⟩,_⟩:=I.list g2;have z:i1.toArray.size=i2.toArray.size:=by rw[XT,XT,<- p1.length,<- p2.length,<- w1.length,<- w2.length];exact e
  have he:∀j (h1:j<i1.toArray.size) (h2:j<i2.toArray.size),AliP X.prog X.w A.in1 s i1.toArray[j] i2.toArray[j]:=by
   intro i l1 l2;obtain⟨x1,c1,d1⟩:=BP p1 (i:=i) (u:=i1.toArray[i]) (by simp[Xc (show i<i1.length by simpa using l1)])
   obtain⟨x2,c2,d2⟩:=BP p2 (i:=i) (u:=i2.toArray[i]) (by simp[Xc (show i<i2.length by simpa using l2)])
   obtain⟨m1,c3,d3⟩:=w1.get' c1;obtain⟨m2,c4,d4⟩:=w2.get' c2;exact ih (h i m1 m2 c3 c4) d3 d4 d1 d2
  exact .inr ⟨_,_,rfl,rfl,S7 ⟨o1,t1,t2,n1,t3⟩ ⟨o2,t4,t5,n2,t6⟩ z hu he,Sa ⟨o1,t1,t2,n1,t3⟩ ⟨o2,t4,t5,n2,t6⟩ z hu he⟩
 ·cases r1;cases r2;obtain rfl:u'=XD a:=q1;obtain rfl:v'=XD b:=q2;obtain⟨va,ea,wa,_⟩:=rh.dic h1;obtain⟨vb,eb,wb,_⟩:=rh.dic h2;obtain⟨_,na,ua,pa,da⟩:=BG I.hok ea;obtain⟨_,nb,ub,pb,db⟩:=BG I.hok eb;have z:ua.length=ub.length:=by rw[<- Paired.length pa,<- wa.length,<- Paired.length pb,<- wb.length];exact e
  have he:∀p∈ua,∃y,Z6 ub p.1=some y/\AliP X.prog X.w A.in1 s p.2 y:=by
   rintro⟨k,u1⟩ hp;obtain⟨x1,c1,d1⟩:=TD pa hp;obtain⟨m1,c2,d2⟩:=Ih wa c1;obtain⟨m2,c3,c4⟩:=h k m1 c2;rcases Wo (k:=k) wb with⟨z1,z2⟩|⟨x',u2,z1,z2,r3⟩
   ·rw[c3]at z1;cases z1
   ·rw[c3]at z1;cases z1;obtain⟨w',hw,rw'⟩:=TC pb z2;exact⟨w',hw,ih c4 d2 r3 d1 rw'⟩
  exact .inr ⟨_,_,rfl,rfl,Sb na nb da db hu z he,Sc na nb da db hu z he⟩
theorem Ii{K:X6}{H:Hp}{A:Xz}{s:X1}{P:Xn}{w:Xj}{x:MV}{u v:V}{u' v':X0}(f:Yu x=true)(r1:RM K H x u)(r2:RM K H x v)(q1:RelV u u')(q2:RelV v v'):AliP P w A s u' v':=by
 obtain⟨rfl,f1⟩:=V1 f r1;obtain⟨rfl,f2⟩:=V1 f r2;have h:=He (A:=A) (s:=s) q1 q2 f1 f2;have e:eqV (toV x) (toV x)=true:=by cases x<;>first|(cases f;done)|simp[toV,eqV]
 rw[e]at h;exact .of_at h
theorem Alike.ok{pins:List (Addr×Obj)}{s:X1}{σ:St}{H:Hp}{M:MH}(I:Inv X pins σ H s)(rh:RH X.K M H):∀(n:Nat) {A:Xz} {x y:MV} {u v:V} {u' v':X0},A.units+n<cLine->Alike M n x y->RM X.K H x u->RM X.K H y v->RelV u u'->RelV v v'->AliP X.prog X.w A s u' v'
 |0,A,x,y,u,v,u',v',hu,h,r1,r2,q1,q2=>by
  rw[Alike]at h;obtain⟨f,rfl⟩:=h;exact Ii f r1 r2 q1 q2
 |n+1,A,x,y,u,v,u',v',hu,h,r1,r2,q1,q2=>by
  rcases Alike.inn I rh (A:=A) (by lia) (λh r1 r2 q1 q2=>Alike.ok I rh n (show A.units+1+n<cLine by lia) h r1 r2 q1 q2) h r1 r2 q1 q2 with⟨f,rfl⟩|⟨a,b,rfl,rfl,h,_⟩
  ·exact Ii f r1 r2 q1 q2
  ·exact .refs h
theorem Alike.top{pins:List (Addr×Obj)}{s:X1}{σ:St}{H:Hp}{M:MH}(I:Inv X pins σ H s)(rh:RH X.K M H){n:Nat}{x y:MV}{u v:V}{u' v':X0}(h:Alike M n x y)(hu:X.A.units+n<cLine)(ns:eqS x y=none)(r1:RM X.K H x u)(r2:RM X.K H y v)(q1:RelV u u')(q2:RelV v v'):
  RcP X.prog X.w X.A s u' v'/\RnP X.prog X.w X.A s u' v':=by
 have no:¬(Yu x=true/\x=y):=by
  rintro⟨f,rfl⟩;cases x<;>first|(cases f;done)|(cases ns;done)
 cases n with
 |zero=>rw[Alike]at h;exact(no h).elim
 |succ n=>
  rcases Alike.inn I rh (A:=X.A) (by lia) (λh r1 r2 q1 q2=>Alike.ok I rh n (show X.A.units+1+n<cLine by lia) h r1 r2 q1 q2) h r1 r2 q1 q2 with f|⟨a,b,rfl,rfl,h,h'⟩
  ·exact(no f).elim
  ·exact⟨h,h'⟩
theorem Wq(hu:X.A.units+70<cLine)(op:Yw):OpR X (Y0 op) (li2 X.K (wCmp op)):=by
 intro pins s σ H x y v u Q I rx ry h;obtain⟨mx,my,M,r1,r2,rh,h⟩:=h;have hb:∀b,Dn X.K H Q (.bl b) M->Q (.bl b) H:=λb h=>h _ _ (Kp.refl _) (.bl b) rh;have hu1:X.A.units+1<cLine:=by lia
 have hu64:X.A.units+64<cLine:=by lia
 have huI:X.A.in1.units+64<cLine:=by show X.A.units+1+64<cLine;lia
 have hu0:X.A.units<cLine:=by lia
 cases op with
 |Lt=>obtain⟨i,j,rfl,rfl,h⟩:=h;cases r1;cases r2;exact QC pins s σ H _ _ v u Q I rx ry ⟨_,_,rfl,rfl,hb _ h⟩
 |LtE=>
  rcases h with⟨i,j,rfl,rfl,h⟩|⟨i,j,rfl,rfl,h⟩
  ·cases r1;cases r2;exact QD pins s σ H _ _ v u Q I rx ry ⟨_,_,rfl,rfl,hb _ h⟩
  ·cases r1;cases r2;obtain⟨t1,rfl⟩:=rx;obtain⟨t2,rfl⟩:=ry;exact PySem.P.le_str ⟨.bl _,H,I,rfl,hb _ h⟩
 |Gt=>obtain⟨i,j,rfl,rfl,h⟩:=h;cases r1;cases r2;exact QE pins s σ H _ _ v u Q I rx ry ⟨_,_,rfl,rfl,hb _ h⟩
 |GtE=>obtain⟨i,j,rfl,rfl,h⟩:=h;cases r1;cases r2;exact QF pins s σ H _ _ v u Q I rx ry ⟨_,_,rfl,rfl,hb _ h⟩
 |Is=>
  rcases h with⟨rfl,h⟩|⟨b,rfl,h⟩
  ·cases r2;exact QG pins s σ H _ _ v u Q I rx ry ⟨rfl,by rw[Ig r1];exact hb _ h⟩
  ·cases r2;exact T3 pins s σ H _ _ v u Q I rx ry ⟨b,rfl,by rw[Ie r1];exact hb _ h⟩
 |IsNot=>
  rcases h with⟨rfl,h⟩|⟨b,rfl,h⟩
  ·cases r2;exact QH pins s σ H _ _ v u Q I rx ry ⟨rfl,by rw[Ig r1];exact hb _ h⟩
  ·cases r2;exact T4 pins s σ H _ _ v u Q I rx ry ⟨b,rfl,by rw[Ie r1];exact hb _ h⟩
 |Eq=>
  have h:wEq mx my M λb=>Dn X.K H Q (.bl b) M:=h;unfold wEq at h;split at h
  ·rename_i b e
   obtain⟨e1,e2⟩:=HW e r1 r2;exact QA pins s σ H _ _ v u Q I rx ry ⟨e1,by rw[e2];exact hb _ h⟩
  ·rcases h with⟨n,h1,h2,h3⟩|⟨a,b,xs,rfl,rfl,h3,h4,h5⟩|h|h
   ·exact(h2.top I rh (by lia) (by assumption) r1 r2 rx ry).1 _ _ ⟨.bl true,H,I,rfl,hb _ h3⟩
   ·cases r1;cases r2;obtain⟨vs,e1,q1⟩:=rh.lst h3;obtain⟨us,e2,q2⟩:=rh.lst h4;cases q2;refine S3 hu0 pins s σ H _ _ v u Q I rx ry ⟨_,_,vs,rfl,rfl,SqL.of e1,SqL.of e2,?_⟩;have:vs.isEmpty=xs.isEmpty:=by cases q1<;>rfl
    rw[this];exact hb _ h5
   ·exact h.elim
   ·exact h.elim
 |NotEq=>
  have h:wEq mx my M λb=>Dn X.K H Q (.bl (!b)) M:=h;unfold wEq at h;split at h
  ·rename_i b e
   obtain⟨e1,e2⟩:=HW e r1 r2;exact QB pins s σ H _ _ v u Q I rx ry ⟨e1,by rw[e2];exact hb _ h⟩
  ·rcases h with⟨n,h1,h2,h3⟩|⟨a,b,xs,rfl,rfl,h3,h4,h5⟩|h|h
   ·exact(h2.top I rh (by lia) (by assumption) r1 r2 rx ry).2 _ _ ⟨.bl false,H,I,rfl,hb _ h3⟩
   ·cases r1;cases r2;obtain⟨vs,e1,q1⟩:=rh.lst h3;obtain⟨us,e2,q2⟩:=rh.lst h4;cases q2;refine S4 hu0 pins s σ H _ _ v u Q I rx ry ⟨_,_,vs,rfl,rfl,SqL.of e1,SqL.of e2,?_⟩;have:vs.isEmpty=xs.isEmpty:=by cases q1<;>rfl
    rw[this];exact hb _ h5
   ·exact h.elim
   ·exact h.elim
 |In=>
  have h:wIn mx my M λb=>Dn X.K H Q (.bl b) M:=h;unfold wIn at h;split at h
  ·cases r2 with
   |tup h1 q1=>
    obtain⟨f1,f2,h⟩:=h;obtain⟨e1,g1⟩:=V1 f1 r1;obtain⟨e2,g2⟩:=VH f2 q1;exact Dz pins s σ H _ _ v u Q I rx ry ⟨_,_,rfl,.inr (SqT.of h1),g1,g2,by rw[e1,e2];exact hb _ h⟩
  ·cases r2 with
   |frl h1 q1=>
    obtain⟨f1,f2,h⟩:=h;obtain⟨e1,g1⟩:=V1 f1 r1;obtain⟨e2,g2⟩:=VH f2 q1;exact Dz pins s σ H _ _ v u Q I rx ry ⟨_,_,rfl,.inl h1.sq,g1,g2,by rw[e1,e2];exact hb _ h⟩
  ·cases r2;rcases h with⟨xs,h1,f1,f2,h⟩|⟨kvs,kk,h1,h2,h⟩
   ·obtain⟨vs,e,q1⟩:=rh.lst h1;obtain⟨e1,g1⟩:=V1 f1 r1;obtain⟨e2,g2⟩:=VH f2 q1;exact Dz pins s σ H _ _ v u Q I rx ry ⟨_,_,rfl,.inl (SqL.of e),g1,g2,by rw[e1,e2];exact hb _ h⟩
   ·obtain⟨vs,e,q1,_⟩:=rh.dic h1;have:=An h2 r1;subst this;obtain rfl:u=XD _:=ry;refine d_in hu1 I (DGet.k (k:=kk) e) rx λs3 I3=>⟨.bl _,H,I3,rfl,?_⟩;rcases Wo (k:=kk) q1 with⟨z1,z2⟩|⟨x',u',z1,z2,_⟩
    ·rw[z2];rw[z1]at h;exact hb _ h
    ·rw[z2];rw[z1]at h;exact hb _ h
  ·exact h.elim
 |NotIn=>
  have h:wIn mx my M λb=>Dn X.K H Q (.bl (!b)) M:=h;unfold wIn at h;split at h
  ·cases r2 with
   |tup h1 q1=>
    obtain⟨f1,f2,h⟩:=h;obtain⟨e1,g1⟩:=V1 f1 r1;obtain⟨e2,g2⟩:=VH f2 q1;exact DA pins s σ H _ _ v u Q I rx ry ⟨_,_,rfl,.inr (SqT.of h1),g1,g2,by rw[e1,e2];exact hb _ h⟩
  ·cases r2 with
   |frl h1 q1=>
    obtain⟨f1,f2,h⟩:=h;obtain⟨e1,g1⟩:=V1 f1 r1;obtain⟨e2,g2⟩:=VH f2 q1;exact DA pins s σ H _ _ v u Q I rx ry ⟨_,_,rfl,.inl h1.sq,g1,g2,by rw[e1,e2];exact hb _ h⟩
  ·cases r2;rcases h with⟨xs,h1,f1,f2,h⟩|⟨kvs,kk,h1,h2,h⟩
   ·obtain⟨vs,e,q1⟩:=rh.lst h1;obtain⟨e1,g1⟩:=V1 f1 r1;obtain⟨e2,g2⟩:=VH f2 q1;exact DA pins s σ H _ _ v u Q I rx ry ⟨_,_,rfl,.inl (SqL.of e),g1,g2,by rw[e1,e2];exact hb _ h⟩
   ·obtain⟨vs,e,q1,_⟩:=rh.dic h1;have:=An h2 r1;subst this;obtain rfl:u=XD _:=ry;refine Rx hu1 I (DGet.k (k:=kk) e) rx λs3 I3=>⟨.bl _,H,I3,rfl,?_⟩;rcases Wo (k:=kk) q1 with⟨z1,z2⟩|⟨x',u',z1,z2,_⟩
    ·rw[z2];rw[z1]at h;exact hb _ h
    ·rw[z2];rw[z1]at h;exact hb _ h
  ·exact h.elim
end
noncomputable def wIx(x y:MV)(M:MH)(Q:QM):Prop:=match x with
 |.tup xs=>∃i v,y=.int i/\atI xs i=some v/\Q v M
 |.frl xs=>∃i v,y=.int i/\atI xs i=some v/\Q v M
 |.str z=>∃i c,y=.int i/\z.length≤sizeLine/\atI z.cps.toList i=some c/\Q (.str ⟨#[c]⟩) M
 |.ref a=>(∃xs i v,M a=some (.lst xs)/\y=.int i/\atI xs i=some v/\Q v M)\/(∃kvs kk v,M a=some (.dic kvs)/\keyM y=some kk/\valM kvs kk=some v/\Q v M)\/∃o kvs kk v,M a=some (.fdic o kvs)/\keyM y=some kk/\valM kvs kk=some v/\Q v M
 |_=>False
theorem Ij:Mon2 wIx:=by
 intro x y M Q Q' hq h;unfold wIx at h ⊢;split at h
 ·obtain⟨i,v,h1,h2,h3⟩:=h;exact⟨i,v,h1,h2,hq _ _ h3⟩
 ·obtain⟨i,v,h1,h2,h3⟩:=h;exact⟨i,v,h1,h2,hq _ _ h3⟩
 ·obtain⟨i,v,h1,h2,h3,h4⟩:=h;exact⟨i,v,h1,h2,h3,hq _ _ h4⟩
 ·rcases h with⟨xs,i,v,h1,h2,h3,h4⟩|⟨kvs,kk,v,h1,h2,h3,h4⟩|⟨o,kvs,kk,v,h1,h2,h3,h4⟩
  ·exact .inl ⟨xs,i,v,h1,h2,h3,hq _ _ h4⟩
  ·exact .inr (.inl ⟨kvs,kk,v,h1,h2,h3,hq _ _ h4⟩)
  ·exact .inr (.inr ⟨o,kvs,kk,v,h1,h2,h3,hq _ _ h4⟩)
 ·exact h.elim
theorem RMs.atI{K:X6}{H:Hp}{m:List MV}{v:List V}{i:Int}{x:MV}(r:RMs K H m v)(e:atI m i=some x):∃u,atI v i=some u/\RM K H x u:=by
 unfold L2.atI at e ⊢;rw[<- r.length];cases q:ixN m.length i with
 |none=>rw[q]at e;cases e
 |some j=>rw[q]at e;exact r.get e
section
variable{X:Cx}
theorem Ik(hu:X.A.units+1<cLine):IxR X (λx y H Q=>∃a v,x=.ref a/\DGet H a y (some v)/\Q v H):=by
 intro value slice pins s σ H x y v u Q I rx ry h hs;obtain⟨a,w',rfl,g,q⟩:=h;obtain rfl:v=XD a:=rx;exact tail_any (RB I g) PySem.F.slot_dict_getitem.lookup (Rw hu I g ry λw2 s3 I3 rw'=>⟨w',H,I3,rw',q⟩) hs
theorem TF(hu:X.A.units+1<cLine):IxR X (li2 X.K wIx):=by
 intro value slice pins s σ H x y v u Q I rx ry h hs;obtain⟨mx,my,M,r1,r2,rh,h⟩:=h;unfold wIx at h;split at h
 ·obtain⟨i,v',rfl,h2,h3⟩:=h;cases r2;cases r1 with
  |tup h1 q1=>
   obtain⟨u',e,r⟩:=q1.atI h2;exact Rh value slice pins s σ H _ _ v u Q I rx ry ⟨_,_,_,u',rfl,rfl,SqT.of h1,e,h3 _ _ (Kp.refl _) r rh⟩ hs
 ·obtain⟨i,v',rfl,h2,h3⟩:=h;cases r2;cases r1 with
  |frl h1 q1=>
   obtain⟨u',e,r⟩:=q1.atI h2;exact Hc value slice pins s σ H _ _ v u Q I rx ry ⟨_,_,_,u',rfl,rfl,h1.sq,e,h3 _ _ (Kp.refl _) r rh⟩ hs
 ·obtain⟨i,c,rfl,h2,h3,h4⟩:=h;cases r1;cases r2;exact Ri value slice pins s σ H _ _ v u Q I rx ry ⟨_,_,c,rfl,rfl,h2,h3,h4 _ _ (Kp.refl _) (.str _) rh⟩ hs
 ·cases r1;rcases h with⟨xs,i,v',h1,rfl,h3,h4⟩|⟨kvs,kk,v',h1,h2,h3,h4⟩|⟨o,kvs,kk,v',h1,h2,h3,h4⟩
  ·cases r2;obtain⟨vs,e,q1⟩:=rh.lst h1;obtain⟨u',e2,r⟩:=q1.atI h3;exact Hc value slice pins s σ H _ _ v u Q I rx ry ⟨_,_,_,u',rfl,rfl,SqL.of e,e2,h4 _ _ (Kp.refl _) r rh⟩ hs
  ·obtain⟨vs,e,q1,_⟩:=rh.dic h1;have ek:=An h2 r2;rcases Wo (k:=kk) q1 with⟨z1,z2⟩|⟨x',u',z1,z2,r'⟩
   ·rw[z1]at h3;cases h3
   ·rw[z1]at h3;cases h3;have g:=DGet.k (k:=kk) e;rw[z2]at g;subst ek;exact Ik hu value slice pins s σ H _ _ v u Q I rx ry ⟨_,u',rfl,g,h4 _ _ (Kp.refl _) r' rh⟩ hs
  ·obtain⟨vs,e,q1,_⟩:=rh.fdic h1;have ek:=An h2 r2;rcases Wo (k:=kk) q1 with⟨z1,z2⟩|⟨x',u',z1,z2,r'⟩
   ·rw[z1]at h3;cases h3
   ·rw[z1]at h3;cases h3;have g:DGet H _ (kV kk) (valV vs kk):=.inl ⟨vs,kk,.inr ⟨o,e⟩,rfl,rfl⟩;rw[z2]at g;subst ek;exact Ik hu value slice pins s σ H _ _ v u Q I rx ry ⟨_,u',rfl,g,h4 _ _ (Kp.refl _) r' rh⟩ hs
 ·exact h.elim
end
noncomputable def cutM(xs:List MV)(lo hi:Option Int):List MV:=(xs.drop (HT.sIx xs.length 0 lo)).take (HT.sIx xs.length xs.length hi - HT.sIx xs.length 0 lo)
theorem RMs.cut{K:X6}{H:Hp}{m:List MV}{v:List V}(r:RMs K H m v)(lo hi:Option Int):RMs K H (cutM m lo hi) (cutV v lo hi):=by
 unfold cutM cutV;rw[<- r.length];exact(r.drop _).take _
noncomputable abbrev WS:=MV->Option Int->Option Int->MH->QM->Prop
noncomputable def wSl:WS:=λx lo hi M Q=>match x with
 |.tup xs=>¬(HT.sIx xs.length 0 lo=0/\HT.sIx xs.length xs.length hi=xs.length)/\Q (.tup (cutM xs lo hi)) M
 |.frl xs=>∀p,M p=none->Q (.ref p) (updM M p (.lst (cutM xs lo hi)))
 |.ref a=>∃xs,M a=some (.lst xs)/\∀p,M p=none->Q (.ref p) (updM M p (.lst (cutM xs lo hi)))
 |.str z=>z.length≤sizeLine/\Q (.str (cutS z lo hi)) M
 |_=>False
theorem Il{x:MV}{lo hi:Option Int}{M:MH}{Q Q':QM}(hq:∀m M',Q m M'->Q' m M')(h:wSl x lo hi M Q):wSl x lo hi M Q':=by
 unfold wSl at h ⊢;split at h
 ·exact⟨h.1,hq _ _ h.2⟩
 ·exact λp hp=>hq _ _ (h p hp)
 ·obtain⟨xs,h1,h2⟩:=h;exact⟨xs,h1,λp hp=>hq _ _ (h2 p hp)⟩
 ·exact⟨h.1,hq _ _ h.2⟩
 ·exact h.elim
noncomputable def liS(K:X6)(w:WS):V->Option Int->Option Int->Hp->VK->Prop:=λx lo hi H Q=>∃mx M,RM K H mx x/\RH K M H/\w mx lo hi M (Dn K H Q)
section
variable{X:Cx}
theorem TH:SlR X (liS X.K wSl):=by
 intro pins s σ H x v vl vu lo hi sl Q I rx hs pl pu h;obtain⟨mx,M,r1,rh,h⟩:=h;unfold wSl at h;split at h
 ·cases r1 with
  |tup h1 q1=>
   rename_i vs
   obtain⟨h2,h3⟩:=h;refine Rf pins s σ H _ v vl vu lo hi sl Q I rx hs pl pu ⟨_,_,rfl,SqT.of h1,by rw[<- q1.length];exact h2,λp hp=>?_⟩
   have k:=Kp.new hp (.tup (cutV vs lo hi));exact h3 _ _ k (.tup UG ((q1.cut lo hi).mono k)) (rh.kept hp _)
 ·cases r1 with
  |frl h1 q1=>
   rename_i vs
   refine Hd pins s σ H _ v vl vu lo hi sl Q I rx hs pl pu ⟨_,_,rfl,h1.sq,λp hp=>?_⟩;have k:=Kp.new hp (.lst (cutV vs lo hi));exact h p (rh.free hp) _ _ k (.ref p) (rh.put k ((q1.cut lo hi).mono k))
 ·cases r1;obtain⟨xs,h1,h⟩:=h;obtain⟨vs,e,q1⟩:=rh.lst h1;refine Hd pins s σ H _ v vl vu lo hi sl Q I rx hs pl pu ⟨_,_,rfl,SqL.of e,λp hp=>?_⟩;have k:=Kp.new hp (.lst (cutV vs lo hi));exact h p (rh.free hp) _ _ k (.ref p) (rh.put k ((q1.cut lo hi).mono k))
 ·cases r1;exact Tk pins s σ H _ v vl vu lo hi sl Q I rx hs pl pu ⟨_,rfl,h.1,h.2 _ _ (Kp.refl _) (.str _) rh⟩
 ·exact h.elim
end
noncomputable def tyM(M:MH):MV->Option Ty7
 |.non=>some .none|.bl _=>some .bool|.int _=>some .int|.str _=>some .str|.tup _=>some .tuple
 |.ref a=>match M a with|some (.lst _)=>some .list|some (.dic _)=>some .dict|_=>none
 |_=>none
noncomputable def isTy:Ty7->Ty7->Bool
 |.bool,.int=>true
 |a,b=>decide (a=b)
theorem DJ(K:X6)(T c:Ty7)(hc:c≠.none):Vt K (.type T.name) (.type c.name)=some (isTy T c):=by
 cases T<;>cases c<;>first|exact absurd rfl hc|with_unfolding_all rfl
theorem Im{K:X6}{M:MH}{H:Hp}{m:MV}{v:V}{T:Ty7}(rh:RH K M H)(r:RM K H m v)(e:tyM M m=some T):TyOf K H v (.type T.name):=by
 cases r with
 |non=>cases e;exact .non
 |bl b=>cases e;exact .bl b
 |int i=>cases e;exact .int i
 |str x=>cases e;exact .str x
 |tup h _=>cases e;exact .tup h
 |frl _ _=>cases e
 |ty _=>cases e
 |ref a=>
  unfold tyM at e;dsimp only at e;cases q:M a with
  |none=>rw[q]at e;cases e
  |some o=>
   rw[q]at e;cases o with
   |lst xs=>cases e;obtain⟨vs,h,_⟩:=rh.lst q;exact .lst h
   |dic kvs=>cases e;obtain⟨vs,h,_⟩:=rh.dic q;exact .dK h
   |ins _ _=>cases e
   |fdic _ _=>cases e
inductive BI where|len|isinst|max|min|sum|abs|int|list|tuple|dict|sorted|dictL|all
  deriving DecidableEq
noncomputable def bLen(vs:List MV)(M:MH)(Q:QM):Prop:=match vs with
 |[.tup xs]=>Q (.int xs.length) M
 |[.frl xs]=>Q (.int xs.length) M
 |[.str z]=>z.length≤sizeLine/\Q (.int z.length) M
 |[.ref a]=>(∃xs,M a=some (.lst xs)/\Q (.int xs.length) M)\/∃kvs,M a=some (.dic kvs)/\Q (.int kvs.length) M
 |_=>False
noncomputable def bIsi(vs:List MV)(M:MH)(Q:QM):Prop:=match vs with
 |[x,.ty c]=>∃T,tyM M x=some T/\c≠.none/\Q (.bl (isTy T c)) M
 |[x,.tup [.ty c,.ty d]]=>∃T,tyM M x=some T/\c≠.none/\d≠.none/\Q (.bl (isTy T c||isTy T d)) M
 |_=>False
noncomputable def bMax(vs:List MV)(M:MH)(Q:QM):Prop:=match vs with
 |[.int i,.int j]=>Q (.int (if j>i then j else i)) M
 |[.ref a]=>∃ns:List Int,M a=some (.lst (ns.map MV.int))/\0<ns.length/\∀m,m∈ns->(∀x∈ns,x≤m)->Q (.int m) M
 |_=>False
noncomputable def bMin(vs:List MV)(M:MH)(Q:QM):Prop:=match vs with
 |[.int i,.int j]=>Q (.int (if j<i then j else i)) M
 |[.ref a]=>∃ns:List Int,M a=some (.lst (ns.map MV.int))/\0<ns.length/\∀m,m∈ns->(∀x∈ns,m≤x)->Q (.int m) M
 |_=>False
noncomputable def bAbs(vs:List MV)(M:MH)(Q:QM):Prop:=match vs with
 |[.int i]=>Q (.int (if i<0 then -i else i)) M
 |_=>False
noncomputable def bInt(vs:List MV)(M:MH)(Q:QM):Prop:=match vs with
 |[.int i]=>Q (.int i) M
 |[.bl k]=>Q (.int (if k then 1 else 0)) M
 |_=>False
noncomputable def bLst(vs:List MV)(M:MH)(Q:QM):Prop:=match vs with
 |[.tup xs]=>∀p,M p=none->Q (.ref p) (updM M p (.lst xs))
 |[.frl xs]=>∀p,M p=none->Q (.ref p) (updM M p (.lst xs))
 |[.ref a]=>∃xs,M a=some (.lst xs)/\∀p,M p=none->Q (.ref p) (updM M p (.lst xs))
 |_=>False
noncomputable def bTup(vs:List MV)(M:MH)(Q:QM):Prop:=match vs with
 |[.tup xs]=>Q (.tup xs) M
 |[.frl xs]=>Q (.tup xs) M
 |[.ref a]=>∃xs,M a=some (.lst xs)/\Q (.tup xs) M
 |_=>False
noncomputable def prM(p:Key×MV):MV:=.tup [match p.1 with|.inl i=>.int i|.inr x=>.str x,p.2]
noncomputable def UM(ps:List (Key×MV)):List (Key×MV):=ps.foldl (λc z=>putM c z.1 z.2) []
noncomputable def bDic(vs:List MV)(M:MH)(Q:QM):Prop:=match vs with
 |[.ref a]=>∃kvs,M a=some (.dic kvs)/\∀p,M p=none->Q (.ref p) (updM M p (.dic kvs))
 |[.tup xs]=>∃ps:List (Key×MV),xs=ps.map prM/\∀p,M p=none->Q (.ref p) (updM M p (.dic (UM ps)))
 |_=>False
noncomputable def bDcl(vs:List MV)(M:MH)(Q:QM):Prop:=match vs with
 |[.ref a]=>∃ps:List (Key×MV),M a=some (.lst (ps.map prM))/\∀p,M p=none->Q (.ref p) (updM M p (.dic (UM ps)))
 |_=>False
theorem DK{K:X6}{H:Hp}:∀{ps:List (Key×MV)} {vs:List V},RMs K H (ps.map prM) vs->∃ps':List (Key×V),DG H ps' vs/\RKs K H ps ps'
 |[],_,.nil=>⟨[],.nil,.nil⟩
 |(k,x)::r,_,.cons (.tup e t) u=>by
  obtain⟨ps',h1,h2⟩:=DK u;cases t with
  |cons t1 t2=>
   cases t2 with
   |cons t3 t4=>
    cases t4
    rename_i v1 v2
    refine⟨(k,v2)::ps',.cons ⟨_,rfl,?_⟩ h1,.cons t3 h2⟩;rw[e];cases k<;>cases t1<;>rfl
theorem DL{K:X6}{H:Hp}:∀{ps:List (Key×MV)} {ps':List (Key×V)} {c:List (Key×MV)} {c':List (Key×V)},RKs K H ps ps'->RKs K H c c'->(c.map (·.1)).Nodup->
  RKs K H (ps.foldl (λc z=>putM c z.1 z.2) c) (ps'.foldl (λc z=>putK c z.1 z.2) c')/\((ps.foldl (λc z=>putM c z.1 z.2) c).map (·.1)).Nodup
 |_,_,_,_,.nil,h,nd=>⟨h,nd⟩
 |_,_,_,_,.cons r t,h,nd=>by
  obtain⟨a,b⟩:=Ib r nd h;have z:=DL t a b;exact z
noncomputable def bAll(vs:List MV)(M:MH)(Q:QM):Prop:=match vs with
 |[.ref a]=>∃bs:List Bool,M a=some (.lst (bs.map MV.bl))/\Q (.bl (bs.all id)) M
 |_=>False
theorem RMs.bls_of{K:X6}{H:Hp}:∀{bs:List Bool} {vs:List V},RMs K H (bs.map MV.bl) vs->vs=bs.map V.bl
 |[],_,.nil=>rfl
 |n::r,_,.cons (.bl _) t=>by rw[t.bls_of];rfl
noncomputable def wBi(f:BI)(vs:List MV)(M:MH)(Q:QM):Prop:=match f with
 |.len=>bLen vs M Q
 |.isinst=>bIsi vs M Q
 |.max=>bMax vs M Q
 |.min=>bMin vs M Q
 |.sum=>False
 |.abs=>bAbs vs M Q
 |.int=>bInt vs M Q
 |.list=>bLst vs M Q
 |.tuple=>bTup vs M Q
 |.dict=>bDic vs M Q
 |.sorted=>False
 |.dictL=>bDcl vs M Q
 |.all=>bAll vs M Q
theorem TJ:MonW bLen:=by
 intro vs M Q Q' hq h;unfold bLen at h ⊢;split at h
 ·exact hq _ _ h
 ·exact hq _ _ h
 ·exact⟨h.1,hq _ _ h.2⟩
 ·rcases h with⟨xs,h1,h2⟩|⟨xs,h1,h2⟩
  ·exact .inl ⟨xs,h1,hq _ _ h2⟩
  ·exact .inr ⟨xs,h1,hq _ _ h2⟩
 ·exact h.elim
theorem Io(f:BI):MonW (wBi f):=by
 intro vs M Q Q' hq h;cases f
 ·exact TJ hq h
 ·have h:bIsi vs M Q:=h;show bIsi vs M Q';unfold bIsi at h ⊢;split at h
  ·obtain⟨T,h1,h2,h3⟩:=h;exact⟨T,h1,h2,hq _ _ h3⟩
  ·obtain⟨T,h1,h2,h3,h4⟩:=h;exact⟨T,h1,h2,h3,hq _ _ h4⟩
  ·exact h.elim
 ·have h:bMax vs M Q:=h;show bMax vs M Q';unfold bMax at h ⊢;split at h
  ·exact hq _ _ h
  ·obtain⟨ns,h1,h2,h3⟩:=h;exact⟨ns,h1,h2,λm a b=>hq _ _ (h3 m a b)⟩
  ·exact h.elim
 ·have h:bMin vs M Q:=h;show bMin vs M Q';unfold bMin at h ⊢;split at h
  ·exact hq _ _ h
  ·obtain⟨ns,h1,h2,h3⟩:=h;exact⟨ns,h1,h2,λm a b=>hq _ _ (h3 m a b)⟩
  ·exact h.elim
 ·exact YG h
 ·have h:bAbs vs M Q:=h;show bAbs vs M Q';unfold bAbs at h ⊢;split at h
  ·exact hq _ _ h
  ·exact h.elim
 ·have h:bInt vs M Q:=h;show bInt vs M Q';unfold bInt at h ⊢;split at h
  ·exact hq _ _ h
  ·exact hq _ _ h
  ·exact h.elim
 ·have h:bLst vs M Q:=h;show bLst vs M Q';unfold bLst at h ⊢;split at h
  ·exact λp hp=>hq _ _ (h p hp)
  ·exact λp hp=>hq _ _ (h p hp)
  ·obtain⟨xs,h1,h2⟩:=h;exact⟨xs,h1,λp hp=>hq _ _ (h2 p hp)⟩
  ·exact h.elim
 ·have h:bTup vs M Q:=h;show bTup vs M Q';unfold bTup at h ⊢;split at h
  ·exact hq _ _ h
  ·exact hq _ _ h
  ·obtain⟨xs,h1,h2⟩:=h;exact⟨xs,h1,hq _ _ h2⟩
  ·exact h.elim
 ·have h:bDic vs M Q:=h;show bDic vs M Q';unfold bDic at h ⊢;split at h
  ·obtain⟨xs,h1,h2⟩:=h;exact⟨xs,h1,λp hp=>hq _ _ (h2 p hp)⟩
  ·obtain⟨xs,h1,h2⟩:=h;exact⟨xs,h1,λp hp=>hq _ _ (h2 p hp)⟩
  ·exact h.elim
 ·exact YG h
 ·have h:bDcl vs M Q:=h;show bDcl vs M Q';unfold bDcl at h ⊢;split at h
  ·obtain⟨ps,h1,h2⟩:=h;exact⟨ps,h1,λp hp=>hq _ _ (h2 p hp)⟩
  ·exact h.elim
 ·have h:bAll vs M Q:=h;show bAll vs M Q';unfold bAll at h ⊢;split at h
  ·obtain⟨bs,h1,h2⟩:=h;exact⟨bs,h1,hq _ _ h2⟩
  ·exact h.elim
noncomputable def BI.val:BI->X0
 |.len=>.builtin "len"|.isinst=>.builtin "isinstance"|.max=>.builtin "max"|.min=>.builtin "min"|.sum=>.builtin "sum"|.abs=>.builtin "abs"
 |.int=>.type "int"|.list=>.type "list"|.tuple=>.type "tuple"|.dict=>.type "dict"|.sorted=>.builtin "sorted"|.dictL=>.type "dict"|.all=>.builtin "all"
section
variable{X:Cx}
theorem RMs.one{K:X6}{H:Hp}{m:MV}{vs:List V}(r:RMs K H [m] vs):∃v,vs=[v]/\RM K H m v:=by
 cases r with
 |cons a b=>cases b;exact⟨_,rfl,a⟩
theorem RMs.two{K:X6}{H:Hp}{m n:MV}{vs:List V}(r:RMs K H [m,n] vs):∃v w,vs=[v,w]/\RM K H m v/\RM K H n w:=by
 cases r with
 |cons a b=>obtain⟨w,rfl,c⟩:=b.one;exact⟨_,_,rfl,a,c⟩
theorem TK:CallR X (.type "dict") (fun xs H Q=>∃a kvs,xs=[.ref a]/\H a=some (.dK kvs)/\∀p,H p=none->Q (.ref p) (upd H p (.dK kvs))):=by
 intro pins s σ H xs us Q I r h;obtain⟨a,kvs,rfl,ha,q⟩:=h;obtain⟨u,rfl,ru⟩:=YR r;cases ru;exact RG I (.inl ha) λp s' hp I'=>⟨.ref p,_,I',rfl,q p hp⟩
theorem TL(hc:X.calm=true)(f:BI):CallR X f.val (liW X.K (wBi f)):=by
 intro pins s σ H xs us Q I r h;obtain⟨ms,M,r1,rh,h⟩:=h;cases f with
 |len=>
  have h:bLen ms M (Dn X.K H Q):=h;unfold bLen at h;split at h
  ·obtain⟨v,rfl,a⟩:=r1.one;cases a with
   |tup h1 q1=>exact DB pins s σ H _ us Q I r ⟨_,_,rfl,.inr (SqT.of h1),by rw[<- q1.length];exact h _ _ (Kp.refl _) (.int _) rh⟩
  ·obtain⟨v,rfl,a⟩:=r1.one;cases a with
   |frl h1 q1=>exact DB pins s σ H _ us Q I r ⟨_,_,rfl,.inl h1.sq,by rw[<- q1.length];exact h _ _ (Kp.refl _) (.int _) rh⟩
  ·obtain⟨v,rfl,a⟩:=r1.one;cases a;exact Ro pins s σ H _ us Q I r ⟨_,rfl,h.1,h.2 _ _ (Kp.refl _) (.int _) rh⟩
  ·obtain⟨v,rfl,a⟩:=r1.one;cases a;rcases h with⟨xs,h1,h⟩|⟨kvs,h1,h⟩
   ·obtain⟨vs,e,q1⟩:=rh.lst h1;exact DB pins s σ H _ us Q I r ⟨_,_,rfl,.inl (SqL.of e),by rw[<- q1.length];exact h _ _ (Kp.refl _) (.int _) rh⟩
   ·obtain⟨vs,e,q1,_⟩:=rh.dic h1;exact RP pins s σ H _ us Q I r ⟨_,_,rfl,e,by rw[<- q1.length];exact h _ _ (Kp.refl _) (.int _) rh⟩
  ·exact h.elim
 |isinst=>
  have h:bIsi ms M (Dn X.K H Q):=h;unfold bIsi at h;split at h
  ·obtain⟨v,w,rfl,a,b⟩:=r1.two;cases b;obtain⟨T,h1,h2,h3⟩:=h;exact RU pins s σ H _ us Q I r ⟨_,_,_,_,rfl,Im rh a h1,DJ _ _ _ h2,h3 _ _ (Kp.refl _) (.bl _) rh⟩
  ·obtain⟨v,w,rfl,a,b⟩:=r1.two;obtain⟨T,h1,h2,h3,h4⟩:=h;cases b with
   |tup ht qt=>
    cases qt with
    |cons q1 q2=>
     cases q2 with
     |cons q3 q4=>
      cases q4;cases q1;cases q3;exact T6 pins s σ H _ us Q I r ⟨_,_,_,_,_,_,_,rfl,ht,Im rh a h1,DJ _ _ _ h2,DJ _ _ _ h3,h4 _ _ (Kp.refl _) (.bl _) rh⟩
  ·exact h.elim
 |max=>
  have h:bMax ms M (Dn X.K H Q):=h;unfold bMax at h;split at h
  ·obtain⟨v,w,rfl,a,b⟩:=r1.two;cases a;cases b;exact QP hc pins s σ H _ us Q I r ⟨_,_,rfl,h _ _ (Kp.refl _) (.int _) rh⟩
  ·obtain⟨v,rfl,a⟩:=r1.one;cases a;obtain⟨ns,h1,h2,h3⟩:=h;obtain⟨vs,e,q1⟩:=rh.lst h1;have:=q1.ints_of;subst this;exact RZ hc pins s σ H _ us Q I r ⟨_,ns,rfl,SqL.of e,h2,λm a b=>h3 m a b _ _ (Kp.refl _) (.int _) rh⟩
  ·exact h.elim
 |min=>
  have h:bMin ms M (Dn X.K H Q):=h;unfold bMin at h;split at h
  ·obtain⟨v,w,rfl,a,b⟩:=r1.two;cases a;cases b;exact QQ hc pins s σ H _ us Q I r ⟨_,_,rfl,h _ _ (Kp.refl _) (.int _) rh⟩
  ·obtain⟨v,rfl,a⟩:=r1.one;cases a;obtain⟨ns,h1,h2,h3⟩:=h;obtain⟨vs,e,q1⟩:=rh.lst h1;have:=q1.ints_of;subst this;exact RY hc pins s σ H _ us Q I r ⟨_,ns,rfl,SqL.of e,h2,λm a b=>h3 m a b _ _ (Kp.refl _) (.int _) rh⟩
  ·exact h.elim
 |sum=>exact YG h
 |abs=>
  have h:bAbs ms M (Dn X.K H Q):=h;unfold bAbs at h;split at h
  ·obtain⟨v,rfl,a⟩:=r1.one;cases a;exact QO pins s σ H _ us Q I r ⟨_,rfl,h _ _ (Kp.refl _) (.int _) rh⟩
  ·exact h.elim
 |int=>
  have h:bInt ms M (Dn X.K H Q):=h;unfold bInt at h;split at h
  ·obtain⟨v,rfl,a⟩:=r1.one;cases a;exact GQ pins s σ H _ us Q I r (.inl ⟨_,rfl,h _ _ (Kp.refl _) (.int _) rh⟩)
  ·obtain⟨v,rfl,a⟩:=r1.one;cases a;exact GQ pins s σ H _ us Q I r (.inr ⟨_,rfl,h _ _ (Kp.refl _) (.int _) rh⟩)
  ·exact h.elim
 |list=>
  have h:bLst ms M (Dn X.K H Q):=h;unfold bLst at h;split at h
  ·obtain⟨v,rfl,a⟩:=r1.one;cases a with
   |tup h1 q1=>
    refine DC pins s σ H _ us Q I r ⟨_,_,rfl,.inr (SqT.of h1),λp hp=>?_⟩;have k:=λz=>Kp.new hp (.lst z);exact h p (rh.free hp) _ _ (k _) (.ref p) (rh.put (k _) (q1.mono (k _)))
  ·obtain⟨v,rfl,a⟩:=r1.one;cases a with
   |frl h1 q1=>
    refine DC pins s σ H _ us Q I r ⟨_,_,rfl,.inl h1.sq,λp hp=>?_⟩;have k:=λz=>Kp.new hp (.lst z);exact h p (rh.free hp) _ _ (k _) (.ref p) (rh.put (k _) (q1.mono (k _)))
  ·obtain⟨v,rfl,a⟩:=r1.one;cases a;obtain⟨xs,h1,h⟩:=h;obtain⟨vs,e,q1⟩:=rh.lst h1;refine DC pins s σ H _ us Q I r ⟨_,_,rfl,.inl (SqL.of e),λp hp=>?_⟩;have k:=Kp.new hp (.lst vs);exact h p (rh.free hp) _ _ k (.ref p) (rh.put k (q1.mono k))
  ·exact h.elim
 |tuple=>
  have h:bTup ms M (Dn X.K H Q):=h;unfold bTup at h;split at h
  ·obtain⟨v,rfl,a⟩:=r1.one;cases a with
   |tup h1 q1=>exact DD pins s σ H _ us Q I r ⟨_,_,rfl,.inr ⟨SqT.of h1,h _ _ (Kp.refl _) (.tup h1 q1) rh⟩⟩
  ·obtain⟨v,rfl,a⟩:=r1.one;cases a with
   |frl h1 q1=>
    refine DD pins s σ H _ us Q I r ⟨_,_,rfl,.inl ⟨h1.sq,λp hp=>?_⟩⟩;have k:=λz=>Kp.new hp (.tup z);exact h _ _ (k _) (.tup UG (q1.mono (k _))) (rh.kept hp _)
  ·obtain⟨v,rfl,a⟩:=r1.one;cases a;obtain⟨xs,h1,h⟩:=h;obtain⟨vs,e,q1⟩:=rh.lst h1;refine DD pins s σ H _ us Q I r ⟨_,_,rfl,.inl ⟨SqL.of e,λp hp=>?_⟩⟩;have k:=Kp.new hp (.tup vs);exact h _ _ k (.tup UG (q1.mono k)) (rh.kept hp _)
  ·exact h.elim
 |dict=>
  have h:bDic ms M (Dn X.K H Q):=h;unfold bDic at h;split at h
  ·obtain⟨v,rfl,a⟩:=r1.one;cases a;obtain⟨kvs,h1,h⟩:=h;obtain⟨vs,e,q1,nd⟩:=rh.dic h1;refine TK pins s σ H _ us Q I r ⟨_,_,rfl,e,λp hp=>?_⟩;have k:=Kp.new hp (.dK vs);exact h p (rh.free hp) _ _ k (.ref p) (rh.put k ⟨q1.mono k,nd⟩)
  ·obtain⟨v,rfl,a⟩:=r1.one;obtain⟨ps,rfl,h2⟩:=h;cases a with
   |tup e q1=>
    obtain⟨ps',pv,rk⟩:=DK q1;refine Tg hc pins s σ H _ us Q I r ⟨_,ps',_,rfl,e,pv,λp hp=>?_⟩;have k:=Kp.new hp (.dK (UL ps'));obtain⟨z1,z2⟩:=DL rk (.nil:RKs X.K H [] []) (by simp)
    exact h2 p (rh.free hp) _ _ k (.ref p) (rh.put k ⟨z1.mono k,z2⟩)
  ·exact h.elim
 |sorted=>exact YG h
 |dictL=>
  have h:bDcl ms M (Dn X.K H Q):=h;unfold bDcl at h;split at h
  ·obtain⟨v,rfl,a⟩:=r1.one;cases a;obtain⟨ps,h1,h2⟩:=h;obtain⟨vs,e,q1⟩:=rh.lst h1;obtain⟨ps',pv,rk⟩:=DK q1;refine ST hc pins s σ H _ us Q I r ⟨_,ps',vs,rfl,e,pv,λp hp=>?_⟩;have k:=Kp.new hp (.dK (UL ps'));obtain⟨z1,z2⟩:=DL rk (.nil:RKs X.K H [] []) (by simp)
   exact h2 p (rh.free hp) _ _ k (.ref p) (rh.put k ⟨z1.mono k,z2⟩)
  ·exact h.elim
 |all=>
  have h:bAll ms M (Dn X.K H Q):=h;unfold bAll at h;split at h
  ·obtain⟨v,rfl,a⟩:=r1.one;cases a;obtain⟨bs,h1,h2⟩:=h;obtain⟨vs,e,q1⟩:=rh.lst h1;have:=q1.bls_of;subst this;exact SV hc pins s σ H _ us Q I r ⟨_,bs,rfl,SqL.of e,h2 _ _ (Kp.refl _) (.bl _) rh⟩
  ·exact h.elim
end
theorem RMs.strs{K:X6}{H:Hp}:∀ns:List Str,RMs K H (ns.map MV.str) (ns.map V.str)
 |[]=>.nil
 |n::r=>.cons (.str n) (RMs.strs r)
theorem RMs.strs_of{K:X6}{H:Hp}:∀{ns:List Str} {vs:List V},RMs K H (ns.map MV.str) vs->vs=ns.map V.str
 |[],_,.nil=>rfl
 |n::r,_,.cons (.str _) t=>by rw[t.strs_of];rfl
theorem Ip{K:X6}{H:Hp}(f:Nat->Int):∀l:List Nat,RMs K H (l.map λi=>MV.int (f i)) (l.map λi=>V.int (f i))
 |[]=>.nil
 |_::r=>.cons (.int _) (Ip f r)
theorem TM{K:X6}{H:Hp}(n:Nat):RMs K H ((XX n).map λi=>MV.int (i:Nat)) ((XX n).map λi=>V.int (i:Nat)):=Ip (λi=>(i:Int)) _
inductive B2 where|ssrt|lset|lrng
  deriving DecidableEq
noncomputable def B2.out:B2->String
 |.ssrt=>"sorted"
 |.lset=>"len"
 |.lrng=>"list"
noncomputable def B2.inn:B2->String
 |.ssrt=>"set"
 |.lset=>"set"
 |.lrng=>"range"
noncomputable def B2.outV:B2->X0
 |.ssrt=>.builtin "sorted"
 |.lset=>.builtin "len"
 |.lrng=>.type "list"
noncomputable def wB2(f:B2)(v:MV)(M:MH)(Q:QM):Prop:=match f with
 |.ssrt=>∃(a:Addr) (xs N:List Str),v=.ref a/\M a=some (.lst (xs.map MV.str))/\xs.length+1<scanBound/\(∀z∈xs,z∈N)/\N.length<64/\
   ∀p (ys:List Str),M p=none->ys.Nodup->(∀y,y∈ys↔y∈xs)->sortedS ys=true->Q (.ref p) (updM M p (.lst (ys.map MV.str)))
 |.lset=>False
 |.lrng=>∃n:Nat,v=.int n/\n≤1000000/\∀p,M p=none->Q (.ref p) (updM M p (.lst ((XX n).map λi=>MV.int (i:Nat))))
theorem Iq(f:B2):Mon1 (wB2 f):=by
 intro v M Q Q' hq h;cases f with
 |ssrt=>
  obtain⟨a,xs,N,h1,h2,h3,h4,h5,h6⟩:=h;exact⟨a,xs,N,h1,h2,h3,h4,h5,λp ys a1 a2 a3 a4=>hq _ _ (h6 p ys a1 a2 a3 a4)⟩
 |lset=>exact YG h
 |lrng=>
  obtain⟨n,h1,h2,h3⟩:=h;exact⟨n,h1,h2,λp hp=>hq _ _ (h3 p hp)⟩
section
variable{X:Cx}
theorem TN(hc:X.calm=true)(f:B2):Ak X f.outV (.type f.inn) (li1 X.K (wB2 f)):=by
 intro pins s σ H x u Q I r h;obtain⟨m,M,r1,rh,h⟩:=h;cases f with
 |ssrt=>
  obtain⟨a,xs,N,rfl,h2,h3,h4,h5,h6⟩:=h;cases r1;obtain⟨vs,e,q1⟩:=rh.lst h2;have:=q1.strs_of;subst this;refine SK hc pins s σ H _ u Q I r ⟨_,xs,N,rfl,SqL.of e,h3,h4,h5,λp ys hp a1 a2 a3=>?_⟩;have k:=Kp.new hp (.lst (ys.map V.str));exact h6 p ys (rh.free hp) a1 a2 a3 _ _ k (.ref p) (rh.put k (RMs.strs ys))
 |lset=>exact YG h
 |lrng=>
  obtain⟨n,rfl,h2,h3⟩:=h;cases r1;refine Tn hc pins s σ H _ u Q I r ⟨n,rfl,h2,λp hp=>?_⟩;have k:=Kp.new hp (.lst ((XX n).map λi=>V.int (i:Nat)));exact h3 p (rh.free hp) _ _ k (.ref p) (rh.put k (TM n))
end
inductive MT where|append|extend|reverse|clear|pop|popAt|dclear|dget|dgetD|join|remove
  deriving DecidableEq
noncomputable def wMt(m:MT)(a:Addr)(vs:List MV)(M:MH)(Q:QM):Prop:=∃xs,M a=some (.lst xs)/\match m,vs with
 |.append,[y]=>xs.length<sizeLine/\Q .non (updM M a (.lst (xs++[y])))
 |.extend,[.ref b]=>∃ys,M b=some (.lst ys)/\xs.length+ys.length≤sizeLine/\Q .non (updM M a (.lst (xs++ys)))
 |.remove,[.str z]=>∃zs:List Str,xs=zs.map MV.str/\z∈zs/\Q .non (updM M a (.lst ((zs.erase z).map MV.str)))
 |_,_=>False
noncomputable def wMl(m:MT)(x:MV)(vs:List MV)(M:MH)(Q:QM):Prop:=match x with
 |.ref a=>wMt m a vs M Q
 |_=>False
noncomputable def wMd(m:MT)(x:MV)(vs:List MV)(M:MH)(Q:QM):Prop:=match m with
 |.dclear=>∃a kvs,x=.ref a/\M a=some (.dic kvs)/\vs=[]/\Q .non (updM M a (.dic []))
 |_=>False
noncomputable def MT.isL:MT->Bool
 |.dclear=>false|.dget=>false|.dgetD=>false|.join=>false|_=>true
noncomputable def MT.ty:MT->String
 |.dclear=>"dict"|.dget=>"dict"|.dgetD=>"dict"|.join=>"str"|_=>"list"
noncomputable def mtOk(m:MT)(x:MV)(M:MH):Prop:=match m with
 |.dclear=>∃a kvs,x=.ref a/\M a=some (.dic kvs)
 |.dget=>∃a kvs,x=.ref a/\M a=some (.dic kvs)
 |.dgetD=>∃a kvs,x=.ref a/\M a=some (.dic kvs)
 |.join=>∃z,x=.str z
 |_=>∃a xs,x=.ref a/\M a=some (.lst xs)
noncomputable def wMts(m:MT)(x:MV)(vs:List MV)(M:MH)(Q:QM):Prop:=match m with
 |.dclear=>wMd .dclear x vs M Q
 |.dget=>wMd .dget x vs M Q
 |.dgetD=>wMd .dgetD x vs M Q
 |.join=>wMd .join x vs M Q
 |m=>wMl m x vs M Q
theorem Ir{m:MT}{x:MV}{vs:List MV}{M:MH}{Q:QM}(h:m.isL=true):wMts m x vs M Q=wMl m x vs M Q:=by cases m<;>first|rfl|cases h
theorem Iu{m:MT}{x:MV}{vs:List MV}{M:MH}{Q:QM}(h:m.isL=false):wMts m x vs M Q=wMd m x vs M Q:=by cases m<;>first|rfl|cases h
theorem TQ{m:MT}{a:MV}{vs:List MV}{M:MH}{Q Q':QM}(hq:∀m M',Q m M'->Q' m M')(h:wMl m a vs M Q):wMl m a vs M Q':=by
 cases a<;>try exact h.elim
 obtain⟨xs,h1,h⟩:=h;refine⟨xs,h1,?_⟩;split at h
 ·exact⟨h.1,hq _ _ h.2⟩
 ·obtain⟨ys,a,b,c⟩:=h;exact⟨ys,a,b,hq _ _ c⟩
 ·obtain⟨zs,a,b,c⟩:=h;exact⟨zs,a,b,hq _ _ c⟩
 ·exact h.elim
theorem TR{m:MT}{x:MV}{vs:List MV}{M:MH}{Q Q':QM}(hq:∀m M',Q m M'->Q' m M')(h:wMd m x vs M Q):wMd m x vs M Q':=by
 cases m<;>try exact h.elim
 ·obtain⟨a,kvs,h1,h2,h3,h4⟩:=h;exact⟨a,kvs,h1,h2,h3,hq _ _ h4⟩
theorem DN{m:MT}{a:MV}{vs:List MV}{M:MH}{Q Q':QM}(hq:∀m M',Q m M'->Q' m M')(h:wMts m a vs M Q):wMts m a vs M Q':=by
 cases e:m.isL
 ·rw[Iu e]at h ⊢;exact TR hq h
 ·rw[Ir e]at h ⊢;exact TQ hq h
noncomputable def MT.id:MT->String
 |.dclear=>"dict.clear"|.dget=>"dict.get"|.dgetD=>"dict.get"|.join=>"str.join"
 |.append=>"list.append"|.extend=>"list.extend"|.reverse=>"list.reverse"|.clear=>"list.clear"|.pop=>"list.pop"|.popAt=>"list.pop"|.remove=>"list.remove"
noncomputable def liM(K:X6)(w:MV->List MV->MH->QM->Prop):V->List V->Hp->VK->Prop:=λx xs H Q=>∃mx ms M,RM K H mx x/\RMs K H ms xs/\RH K M H/\w mx ms M (Dn K H Q)
section
variable{X:Cx}
theorem TU(m:MT):MtR X m.id (liM X.K (wMl m)):=by
 intro pins s σ H x xs v us Q I rx rs h;obtain⟨mx,ms,M,r1,r2,rh,h⟩:=h;cases r1<;>try exact h.elim
 obtain⟨ys,h1,h⟩:=h;obtain⟨vs,e,q1⟩:=rh.lst h1;have ku:∀o,Kp H (upd H _ o):=λo=>Kp.upd e rfl o;split at h
 ·obtain⟨w,rfl,r3⟩:=r2.one;exact Hi pins s σ H _ _ v us Q I rx rs ⟨_,vs,w,rfl,rfl,e,by rw[<- q1.length];exact h.1,h.2 _ _ (ku _) .non (rh.put (ku _) ((q1.append (.cons r3 .nil)).mono (ku _)))⟩
 ·obtain⟨w,rfl,r3⟩:=r2.one;cases r3;obtain⟨zs,a,b,c⟩:=h;obtain⟨ws,e2,q2⟩:=rh.lst a;exact Ru pins s σ H _ _ v us Q I rx rs ⟨_,_,vs,ws,rfl,rfl,e,e2,by rw[<- q1.length,<- q2.length];exact b,c _ _ (ku _) .non (rh.put (ku _) ((q1.append q2).mono (ku _)))⟩
 ·obtain⟨zs,rfl,hz,f⟩:=h;obtain⟨u,rfl,ru⟩:=r2.one;cases ru;obtain rfl:=q1.strs_of;exact T9 pins s σ H _ _ v us Q I rx rs ⟨_,zs,_,rfl,rfl,e,hz,f _ _ (ku _) .non (rh.put (ku _) ((RMs.strs _).mono (ku _)))⟩
 ·exact h.elim
theorem TV(hu:X.A.units+1<cLine)(m:MT):MtR X m.id (liM X.K (wMd m)):=by
 intro pins s σ H x xs v us Q I rx rs h;obtain⟨mx,ms,M,r1,r2,rh,h⟩:=h;cases m<;>try exact h.elim
 ·obtain⟨a,kvs,rfl,h2,rfl,h4⟩:=h;cases r1;cases r2;obtain⟨vs,e,q,nd⟩:=rh.dic h2;have k:=Kp.upd e rfl (.dK []);exact Sd pins s σ H _ _ v us Q I rx rs ⟨a,vs,rfl,rfl,e,h4 _ _ k .non (rh.put k ⟨.nil,D0⟩)⟩
theorem Iv(hu:X.A.units+1<cLine)(m:MT):MtR X m.id (liM X.K (wMts m)):=by
 intro pins s σ H x xs v us Q I rx rs h;obtain⟨mx,ms,M,r1,r2,rh,h⟩:=h;cases e:m.isL
 ·rw[Iu e]at h;exact TV hu m pins s σ H x xs v us Q I rx rs ⟨mx,ms,M,r1,r2,rh,h⟩
 ·rw[Ir e]at h;exact TU m pins s σ H x xs v us Q I rx rs ⟨mx,ms,M,r1,r2,rh,h⟩
end
noncomputable def wPut(o i v:MV)(M:MH)(Q:MH->Prop):Prop:=match o with
 |.ref a=>(∃xs k j,M a=some (.lst xs)/\i=.int k/\ixN xs.length k=some j/\Q (updM M a (.lst (xs.set j v))))\/∃kvs kk,M a=some (.dic kvs)/\keyM i=some kk/\kvs.length<sizeLine/\Q (updM M a (.dic (putM kvs kk v)))
 |_=>False
theorem Iw{o i v:MV}{M:MH}{Q Q':MH->Prop}(hq:∀M',Q M'->Q' M')(h:wPut o i v M Q):wPut o i v M Q':=by
 cases o<;>try exact h.elim
 rcases h with⟨xs,k,j,h1,h2,h3,h4⟩|⟨kvs,kk,h1,h2,h3,h4⟩
 ·exact .inl ⟨xs,k,j,h1,h2,h3,hq _ h4⟩
 ·exact .inr ⟨kvs,kk,h1,h2,h3,hq _ h4⟩
noncomputable def DnH(K:X6)(H:Hp)(Q:Hp->Prop):MH->Prop:=λM=>∀H',Kp H H'->RH K M H'->Q H'
noncomputable def Ix(K:X6):TSet:=λo i v H Q=>∃mo mi mv M,RM K H mo o/\RM K H mi i/\RM K H mv v/\RH K M H/\wPut mo mi mv M (DnH K H Q)
section
variable{X:Cx}
theorem TW(hu:X.A.units+1<cLine):PSet X (Ix X.K):=by
 intro pins s σ H o i v ov iv u Q I ro ri rv h;obtain⟨mo,mi,mv,M,r1,r2,r3,rh,h⟩:=h;cases r1<;>try exact h.elim
 rcases h with⟨xs,k,j,h1,rfl,h3,h4⟩|⟨kvs,kk,h1,h2,h3,h4⟩
 ·cases r2;obtain⟨vs,e,q1⟩:=rh.lst h1;have k:=Kp.upd e rfl (.lst (vs.set j v));exact Rm pins s σ H _ _ v ov iv u Q I ro ri rv ⟨_,vs,_,j,rfl,rfl,e,by rw[<- q1.length];exact h3,h4 _ k (rh.put k ((q1.set r3 j).mono k))⟩
 ·obtain⟨vs,e,q1,nd⟩:=rh.dic h1;have ek:=An h2 r2;subst ek;obtain rfl:ov=XD _:=ro;have k:=Kp.upd e rfl (.dK (putK vs kk v));obtain⟨q2,nd2⟩:=Ib (k:=kk) r3 nd q1;exact Ry hu I (DPut.k (k:=kk) e (by rw[<- q1.length];exact h3)) ri rv λs4 I4=>⟨_,I4,h4 _ k (rh.put k ⟨q2.mono k,nd2⟩)⟩
end
end L2
namespace L2
set_option genInjectivity false
open PySem PySem.Spec PyProof.Rows
mutual
inductive ITg where|nm (i:Nat)|tup (ts:ITgs)
inductive ITgs where|nil|cons (t:ITg) (ts:ITgs)
end
mutual
inductive IE where
 |var (i:Nat)
 |int (i:Int)|str (x:Str)|bl (b:Bool)|non
 |glb (x:Str) (i:Int)
 |ty (c:Ty7)
 |bin (op:UT) (a b:IE)
 |neg (a:IE)
 |not (a:IE)
 |cmp (op:Yw) (a b:IE)
 |chn (op op':Yw) (a b c:IE)
 |and (a b:IE)
 |or (a b:IE)
 |ife (c a b:IE)
 |tup (es:IEs)
 |lst (es:IEs)
 |dic
 |ix (a b:IE)
 |sl (a:IE) (lo hi:IO)
 |call (j:Nat) (e:IE) (es:IEs)
 |bi (f:BI) (e:IE) (es:IEs)
 |b2 (f:B2) (e:IE)
 |mt (m:MT) (o:IE) (es:IEs)
 |comp (own:List Str) (fr:List Nat) (src:ISr) (tg:ITg) (test:IO) (elt:IE)
 |fld (c:Str) (o:IE) (f:Str)
 |mcall (j:Nat) (c m:Str) (o:IE) (es:IEs)
 |make (j:Nat) (c:Str) (e:IE) (es:IEs)
 |disp (ps:IPs)
 |mxd (e:IE)
inductive IPs where|nil|cons (k v:IE) (r:IPs)
inductive IEs where|nil|cons (e:IE) (es:IEs)
inductive IO where|none|some (e:IE)
inductive ISr where|seq (e:IE)|rng (e:IE)|rng2 (a b:IE)|rng3 (a b c:IE)
end
noncomputable def wMxd(v:MV)(M:MH)(Q:QM):Prop:=∃(a:Addr) (ns:List Int),v=.ref a/\M a=some (.lst (ns.map MV.int))/\∀m,(ns=[]/\m=0\/m∈ns/\∀i∈ns,i≤m)->Q (.int m) M
theorem TX{v:MV}{M:MH}{Q Q':QM}(hq:∀v M,Q v M->Q' v M)(h:wMxd v M Q):wMxd v M Q':=by
 obtain⟨a,ns,h1,h2,h3⟩:=h;exact⟨a,ns,h1,h2,λm hm=>hq _ _ (h3 m hm)⟩
inductive Src where|tup (xs:List MV)|lst (a:Addr) (xs:List MV)|rng (lo:Int) (n:Nat)|rst (lo st:Int) (n:Nat)|dic (a:Addr) (o:Obj) (kvs:List (Key×MV))|str (x:Str)
noncomputable def kM:Key->MV
 |.inl i=>.int i
 |.inr x=>.str x
noncomputable def Src.items:Src->List MV
 |.tup xs=>xs
 |.lst _ xs=>xs
 |.rng lo n=>(XX n).map λi=>.int (lo+(i:Nat))
 |.rst lo st n=>(XX n).map λi=>.int (lo+(i:Nat)*st)
 |.dic _ _ kvs=>kvs.map λp=>kM p.1
 |.str x=>x.cps.toList.map λc=>.str ⟨#[c]⟩
noncomputable def Src.ok(M:MH):Src->Prop
 |.lst a xs=>M a=some (.lst xs)
 |.dic a o kvs=>M a=some (.fdic o kvs)
 |_=>True
noncomputable def Src.okF(M:MH):Src->Prop
 |.lst a xs=>M a=some (.lst xs)
 |.dic _ _ _=>False
 |_=>True
noncomputable def Src.okT(M:MH):Src->Prop
 |.dic a o kvs=>M a=some (.fdic o kvs)
 |_=>True
noncomputable def Src.thaw(M:MH):Src->MH
 |.dic a _ kvs=>updM M a (.dic kvs)
 |_=>M
noncomputable def Src.len:Src->Nat
 |.tup xs=>xs.length
 |.lst _ xs=>xs.length
 |.rng _ n=>n
 |.rst _ _ n=>n
 |.dic _ _ kvs=>kvs.length
 |.str x=>x.cps.size
theorem Src.items_len(S:Src):S.items.length=S.len:=by cases S<;>simp[Src.items,Src.len]
noncomputable abbrev SpM:=List MV->MH->QM->Prop
noncomputable abbrev TSm:=Sm->MH->(Src->MH->Prop)->Prop
mutual
noncomputable def wTg:ITg->MV->Sm->(Sm->Prop)->Prop
 |.nm i,v,σ,Q=>Q (σ.set i (some v))
 |.tup ts,v,σ,Q=>∃xs,v=.tup xs/\wTgs ts xs σ Q
noncomputable def wTgs:ITgs->List MV->Sm->(Sm->Prop)->Prop
 |.nil,xs,σ,Q=>xs=[]/\Q σ
 |.cons t ts,xs,σ,Q=>∃v r,xs=v::r/\wTg t v σ λσ'=>wTgs ts r σ' Q
end
noncomputable def sCm(own:List Str)(fr:List Nat)(σ:Sm):Sm:=own.map (λ_=>none)++fr.map (λi=>σ.getD i none)
noncomputable def onV(o:Option (Option MV))(k:MV->Prop):Prop:=match o with
 |some (some v)=>k v
 |_=>False
theorem TY{o:Option (Option MV)}{k:MV->Prop}:onV o k=∃v,o=some (some v)/\k v:=by
 refine propext ⟨λh=>?_,fun⟨v,e,h⟩=>by subst e;exact h⟩
 match o,h with
 |some (some v),h=>exact⟨v,rfl,h⟩
noncomputable def onB(x:MV)(k:Bool->Prop):Prop:=match x with
 |.bl c=>k c
 |_=>False
theorem Wr{x:MV}{k:Bool->Prop}:onB x k=∃c,x=.bl c/\k c:=by
 refine propext ⟨λh=>?_,fun⟨v,e,h⟩=>by subst e;exact h⟩
 cases x<;>first|exact⟨_,rfl,h⟩|exact h.elim
noncomputable def onF(o:Option (Str×SpM))(k:SpM->Prop):Prop:=match o with
 |some p=>k p.2
 |none=>False
theorem TZ{o:Option (Str×SpM)}{k:SpM->Prop}:onF o k=∃f sp,o=some (f,sp)/\k sp:=by
 refine propext ⟨λh=>?_,fun⟨f,v,e,h⟩=>by subst e;exact h⟩
 match o,h with
 |some (f,sp),h=>exact⟨f,sp,rfl,h⟩
mutual
noncomputable def wE(Φ:List (Str×SpM)):IE->TEm
 |.var i,σ,M,Q=>onV σ[i]? λv=>Q v M
 |.int i,_,M,Q=>Q (.int i) M
 |.str x,_,M,Q=>Q (.str x) M
 |.bl b,_,M,Q=>Q (.bl b) M
 |.non,_,M,Q=>Q .non M
 |.glb _ i,_,M,Q=>Q (.int i) M
 |.ty c,_,M,Q=>Q (.ty c) M
 |.bin op a b,σ,M,Q=>wE Φ a σ M λx M1=>wE Φ b σ M1 λy M2=>wBin op x y M2 Q
 |.neg a,σ,M,Q=>wE Φ a σ M λx M1=>∃i,x=.int i/\Q (.int (-i)) M1
 |.not a,σ,M,Q=>wE Φ a σ M λx M1=>onB x λb=>Q (.bl (!b)) M1
 |.cmp op a b,σ,M,Q=>wE Φ a σ M λx M1=>wE Φ b σ M1 λy M2=>wCmp op x y M2 Q
 |.chn op op' a b c,σ,M,Q=>wE Φ a σ M λx M1=>wE Φ b σ M1 λy M2=>wCmp op x y M2 λz M3=>onB z λk=>(if k=true then wE Φ c σ M3 λw M4=>wCmp op' y w M4 Q else Q (.bl false) M3)
 |.and a b,σ,M,Q=>wE Φ a σ M λx M1=>onB x λc=>(if c=true then wE Φ b σ M1 Q else Q (.bl false) M1)
 |.or a b,σ,M,Q=>wE Φ a σ M λx M1=>onB x λc=>(if c=true then Q (.bl true) M1 else wE Φ b σ M1 Q)
 |.ife c a b,σ,M,Q=>wE Φ c σ M λx M1=>onB x λk=>(if k=true then wE Φ a σ M1 Q else wE Φ b σ M1 Q)
 |.tup es,σ,M,Q=>wEs Φ es σ M λvs M1=>vs.length≤sizeLine/\Q (.tup vs) M1
 |.lst es,σ,M,Q=>wEs Φ es σ M λvs M1=>vs.length≤sizeLine/\∀p,M1 p=none->Q (.ref p) (updM M1 p (.lst vs))
 |.dic,_,M,Q=>∀p,M p=none->Q (.ref p) (updM M p (.dic []))
 |.ix a b,σ,M,Q=>wE Φ a σ M λx M1=>wE Φ b σ M1 λy M2=>wIx x y M2 Q
 |.sl a lo hi,σ,M,Q=>wE Φ a σ M λx M1=>wO Φ lo σ M1 λl M2=>wO Φ hi σ M2 λh M3=>wSl x l h M3 Q
 |.call j e es,σ,M,Q=>wE Φ e σ M λv M1=>wEs Φ es σ M1 λvs M2=>onF Φ[j]? λsp=>sp (v::vs) M2 Q
 |.bi f e es,σ,M,Q=>wE Φ e σ M λv M1=>wEs Φ es σ M1 λvs M2=>wBi f (v::vs) M2 Q
 |.b2 f e,σ,M,Q=>wE Φ e σ M λv M1=>wB2 f v M1 Q
 |.mxd e,σ,M,Q=>wE Φ e σ M λv M1=>wMxd v M1 Q
 |.mt m o es,σ,M,Q=>wE Φ o σ M λx M1=>mtOk m x M1/\wEs Φ es σ M1 λvs M2=>wMts m x vs M2 Q
 |.comp own fr src tg test elt,σ,M,Q=>wSr Φ src σ M λS M1=>S.len<sizeLine/\∀D,M1 D=none->∃J:Nat->List MV->MH->Prop,J 0 [] (updM M1 D (.lst []))/\
   (∀i ys M2,J i ys M2->M2 D=some (.lst ys)/\ys.length≤i/\S.ok M2)/\
   (∀i x ys M2,S.items[i]?=some x->J i ys M2->wTg tg x (sCm own fr σ) λσ2=>wI Φ test σ2 M2 λb M4=>
    if b=true then wE Φ elt σ2 M4 λy M5=>M5 D=some (.lst ys)/\J (i+1) (ys++[y]) (updM M5 D (.lst (ys++[y])))else J (i+1) ys M4)/\
   ∀ys M2,J S.len ys M2->Q (.ref D) (S.thaw M2)
 |.fld c o f,σ,M,Q=>wE Φ o σ M λx M1=>∃a fs v,x=.ref a/\M1 a=some (.ins c fs)/\valM fs f=some v/\Q v M1
 |.mcall j c m o es,σ,M,Q=>wE Φ o σ M λx M1=>∃a fs,x=.ref a/\M1 a=some (.ins c fs)/\valM fs m=none/\wEs Φ es σ M1 λvs M2=>∃f sp,Φ[j]?=some (f,sp)/\sp (.ref a::vs) M2 Q
 |.make j c e es,σ,M,Q=>wE Φ e σ M λv M1=>wEs Φ es σ M1 λvs M2=>∃f sp,Φ[j]?=some (f,sp)/\∀p,M2 p=none->sp (.ref p::v::vs) (updM M2 p (.ins c [])) λu M3=>u=.non/\Q (.ref p) M3
 |.disp ps,σ,M,Q=>∀p,M p=none->wPs Φ ps σ (updM M p (.dic [])) λl M2=>M2 p=some (.dic [])/\l.length≤15/\Q (.ref p) (updM M2 p (.dic (UM l)))
noncomputable def wPs(Φ:List (Str×SpM)):IPs->Sm->MH->(List (Key×MV)->MH->Prop)->Prop
 |.nil,_,M,Q=>Q [] M
 |.cons k v r,σ,M,Q=>wE Φ k σ M λx M1=>∃kk,keyM x=some kk/\wE Φ v σ M1 λy M2=>wPs Φ r σ M2 λl M3=>Q ((kk,y)::l) M3
noncomputable def wEs(Φ:List (Str×SpM)):IEs->TAm
 |.nil,_,M,Q=>Q [] M
 |.cons e es,σ,M,Q=>wE Φ e σ M λv M1=>wEs Φ es σ M1 λvs M2=>Q (v::vs) M2
noncomputable def wO(Φ:List (Str×SpM)):IO->Sm->MH->(Option Int->MH->Prop)->Prop
 |.none,_,M,Q=>Q none M
 |.some e,σ,M,Q=>wE Φ e σ M λv M1=>∃i,v=.int i/\Q (some i) M1
noncomputable def wI(Φ:List (Str×SpM)):IO->Sm->MH->(Bool->MH->Prop)->Prop
 |.none,_,M,Q=>Q true M
 |.some e,σ,M,Q=>wE Φ e σ M λv M1=>∃b,v=.bl b/\Q b M1
noncomputable def wSr(Φ:List (Str×SpM)):ISr->TSm
 |.seq e,σ,M,Q=>wE Φ e σ M λv M1=>(∃xs,(v=.tup xs\/v=.frl xs)/\Q (.tup xs) M1)\/(∃a xs,v=.ref a/\M1 a=some (.lst xs)/\Q (.lst a xs) M1)\/(∃a kvs,v=.ref a/\M1 a=some (.dic kvs)/\∀o,Q (.dic a o kvs) (updM M1 a (.fdic o kvs)))\/∃z,v=.str z/\Q (.str z) M1
 |.rng e,σ,M,Q=>wE Φ e σ M λv M1=>∃j,v=.int j/\ -(2^62)≤j/\j<2^62/\Q (.rng 0 j.toNat) M1
 |.rng2 a b,σ,M,Q=>wE Φ a σ M λx M1=>wE Φ b σ M1 λy M2=>∃i j,x=.int i/\y=.int j/\(-(2^62)≤i/\i<2^62/\ -(2^62)≤j/\j<2^62)/\Q (.rng i (j - i).toNat) M2
 |.rng3 a b c,σ,M,Q=>wE Φ a σ M λx M1=>wE Φ b σ M1 λy M2=>wE Φ c σ M2 λz M3=>∃i j,x=.int i/\y=.int j/\z=.int 2/\(0≤i/\i<2^60/\0≤j/\j<2^60)/\Q (.rst i 2 (len2 i j)) M3
end
section
variable{Φ:List (Str×SpM)}{σ:Sm}{M:MH}{Q:QM}
theorem Iy{i:Nat}:wE Φ (.var i) σ M Q=∃v,σ[i]?=some (some v)/\Q v M:=TY
theorem DO{a:IE}:wE Φ (.not a) σ M Q=wE Φ a σ M λx M1=>∃b,x=.bl b/\Q (.bl (!b)) M1:=congrArg (wE Φ a σ M) (funext λ_=>funext λ_=>Wr)
theorem Iz{op op':Yw}{a b c:IE}:wE Φ (.chn op op' a b c) σ M Q=wE Φ a σ M λx M1=>wE Φ b σ M1 λy M2=>wCmp op x y M2 λz M3=>∃k,z=.bl k/\(if k=true then wE Φ c σ M3 λw M4=>wCmp op' y w M4 Q else Q (.bl false) M3):=congrArg (wE Φ a σ M) (funext λ_=>funext λ_=>congrArg (wE Φ b σ _) (funext λ_=>funext λ_=>congrArg (wCmp op _ _ _) (funext λ_=>funext λ_=>Wr)))
theorem DP{a b:IE}:wE Φ (.and a b) σ M Q=wE Φ a σ M λx M1=>∃c,x=.bl c/\(if c=true then wE Φ b σ M1 Q else Q (.bl false) M1):=congrArg (wE Φ a σ M) (funext λ_=>funext λ_=>Wr)
theorem x_or{a b:IE}:wE Φ (.or a b) σ M Q=wE Φ a σ M λx M1=>∃c,x=.bl c/\(if c=true then Q (.bl true) M1 else wE Φ b σ M1 Q):=congrArg (wE Φ a σ M) (funext λ_=>funext λ_=>Wr)
theorem IA{a b c:IE}:wE Φ (.ife c a b) σ M Q=wE Φ c σ M λx M1=>∃k,x=.bl k/\(if k=true then wE Φ a σ M1 Q else wE Φ b σ M1 Q):=congrArg (wE Φ c σ M) (funext λ_=>funext λ_=>Wr)
theorem IB{j:Nat}{e:IE}{es:IEs}:wE Φ (.call j e es) σ M Q=wE Φ e σ M λv M1=>wEs Φ es σ M1 λvs M2=>∃f sp,Φ[j]?=some (f,sp)/\sp (v::vs) M2 Q:=congrArg (wE Φ e σ M) (funext λ_=>funext λ_=>congrArg (wEs Φ es σ _) (funext λ_=>funext λ_=>TZ))
end
mutual
theorem UN:∀(t:ITg) {v:MV} {σ:Sm} {Q Q':Sm->Prop},(∀σ,Q σ->Q' σ)->wTg t v σ Q->wTg t v σ Q'
 |.nm i,v,σ,Q,Q',hq,h=>by exact hq _ h
 |.tup ts,v,σ,Q,Q',hq,h=>by
  obtain⟨xs,e,h⟩:=h;exact⟨xs,e,mon_tgs ts hq h⟩
theorem mon_tgs:∀(t:ITgs) {v:List MV} {σ:Sm} {Q Q':Sm->Prop},(∀σ,Q σ->Q' σ)->wTgs t v σ Q->wTgs t v σ Q'
 |.nil,v,σ,Q,Q',hq,h=>by exact⟨h.1,hq _ h.2⟩
 |.cons t ts,v,σ,Q,Q',hq,h=>by
  obtain⟨x,r,e,h⟩:=h;exact⟨x,r,e,UN t (λσ' h'=>mon_tgs ts hq h') h⟩
end
theorem Z1{c:Prop} [Decidable c] {A B A' B':Prop}(ha:A->A')(hb:B->B')(h:if c then A else B):if c then A' else B':=by
 split at h
 ·rw[if_pos (by assumption)];exact ha h
 ·rw[if_neg (by assumption)];exact hb h
mutual
theorem Xd{Φ:List (Str×SpM)}(hΦ:∀(j:Nat) f sp,Φ[j]?=some (f,sp)->MonW sp):∀e:IE,MonE (wE Φ e)
 |.var i,σ,M,Q,Q',hq,h=>by rw[Iy]at h ⊢;obtain⟨v,e,h⟩:=h;exact⟨v,e,hq _ _ h⟩
 |.int _,σ,M,Q,Q',hq,h=>by exact hq _ _ h
 |.str _,σ,M,Q,Q',hq,h=>by exact hq _ _ h
 |.bl _,σ,M,Q,Q',hq,h=>by exact hq _ _ h
 |.non,σ,M,Q,Q',hq,h=>by exact hq _ _ h
 |.glb _ _,σ,M,Q,Q',hq,h=>by exact hq _ _ h
 |.ty _,σ,M,Q,Q',hq,h=>by exact hq _ _ h
 |.bin op a b,σ,M,Q,Q',hq,h=>by
  exact Xd hΦ a (λx M1 h1=>Xd hΦ b (λy M2 h2=>HV op hq h2) h1) h
 |.neg a,σ,M,Q,Q',hq,h=>by
  exact Xd hΦ a (λx M1 ⟨i,e,h1⟩=>⟨i,e,hq _ _ h1⟩) h
 |.not a,σ,M,Q,Q',hq,h=>by
  rw[DO]at h ⊢;exact Xd hΦ a (λx M1 ⟨i,e,h1⟩=>⟨i,e,hq _ _ h1⟩) h
 |.cmp op a b,σ,M,Q,Q',hq,h=>by
  exact Xd hΦ a (λx M1 h1=>Xd hΦ b (λy M2 h2=>Wp op hq h2) h1) h
 |.chn op op' a b c,σ,M,Q,Q',hq,h=>by
  rw[Iz]at h ⊢;exact Xd hΦ a (λx M1 h1=>Xd hΦ b (λy M2 h2=>Wp op (λz M3 ⟨k,e,h3⟩=>⟨k,e,Z1 (Xd hΦ c λw M4 h4=>Wp op' hq h4) (hq _ _) h3⟩) h2) h1) h
 |.and a b,σ,M,Q,Q',hq,h=>by
  rw[DP]at h ⊢;exact Xd hΦ a (λx M1 ⟨c,e,h1⟩=>⟨c,e,Z1 (Xd hΦ b hq) (hq _ _) h1⟩) h
 |.or a b,σ,M,Q,Q',hq,h=>by
  rw[x_or]at h ⊢;exact Xd hΦ a (λx M1 ⟨c,e,h1⟩=>⟨c,e,Z1 (hq _ _) (Xd hΦ b hq) h1⟩) h
 |.ife c a b,σ,M,Q,Q',hq,h=>by
  rw[IA]at h ⊢;exact Xd hΦ c (λx M1 ⟨k,e,h1⟩=>⟨k,e,Z1 (Xd hΦ a hq) (Xd hΦ b hq) h1⟩) h
 |.tup es,σ,M,Q,Q',hq,h=>by
  exact mon_es hΦ es (λvs M1 ⟨e,h1⟩=>⟨e,hq _ _ h1⟩) h
 |.lst es,σ,M,Q,Q',hq,h=>by
  exact mon_es hΦ es (λvs M1 ⟨e,h1⟩=>⟨e,λp hp=>hq _ _ (h1 p hp)⟩) h
 |.dic,σ,M,Q,Q',hq,h=>by
  exact λp hp=>hq _ _ (h p hp)
 |.ix a b,σ,M,Q,Q',hq,h=>by
  exact Xd hΦ a (λx M1 h1=>Xd hΦ b (λy M2 h2=>Ij hq h2) h1) h
 |.sl a lo hi,σ,M,Q,Q',hq,h=>by
  exact Xd hΦ a (λx M1 h1=>mon_o hΦ lo (λy M2 h2=>mon_o hΦ hi (λz M3 h3=>Il hq h3) h2) h1) h
 |.call j e es,σ,M,Q,Q',hq,h=>by
  rw[IB]at h ⊢;exact Xd hΦ e (λx M1 h1=>mon_es hΦ es (λy M2 ⟨f,sp,e,h2⟩=>⟨f,sp,e,hΦ _ _ _ e hq h2⟩) h1) h
 |.bi f e es,σ,M,Q,Q',hq,h=>by
  exact Xd hΦ e (λx M1 h1=>mon_es hΦ es (λy M2 h2=>Io f hq h2) h1) h
 |.b2 f e,σ,M,Q,Q',hq,h=>by
  exact Xd hΦ e (λx M1 h1=>Iq f hq h1) h
 |.mxd e,σ,M,Q,Q',hq,h=>by
  exact Xd hΦ e (λx M1 h1=>TX hq h1) h
 |.mt m o es,σ,M,Q,Q',hq,h=>by
  exact Xd hΦ o (λx M1 ⟨h0,h1⟩=>⟨h0,mon_es hΦ es (λy M2 h2=>DN hq h2) h1⟩) h
 |.comp own fr src tg test elt,σ,M,Q,Q',hq,h=>by
  exact mon_sr hΦ src (λS M1 ⟨hz,h1⟩=>⟨hz,λD hD=>by
   obtain⟨J,j0,j1,j2,j3⟩:=h1 D hD;exact⟨J,j0,j1,j2,λys M2 hj=>hq _ _ (j3 ys M2 hj)⟩⟩) h
 |.fld c o f,σ,M,Q,Q',hq,h=>by
  exact Xd hΦ o (λx M1 ⟨a,fs,v,e,e2,e3,h1⟩=>⟨a,fs,v,e,e2,e3,hq _ _ h1⟩) h
 |.mcall j c m o es,σ,M,Q,Q',hq,h=>by
  exact Xd hΦ o (λx M1 ⟨a,fs,e,e2,e3,h1⟩=>⟨a,fs,e,e2,e3,mon_es hΦ es (λy M2 ⟨f,sp,e,h2⟩=>⟨f,sp,e,hΦ _ _ _ e hq h2⟩) h1⟩) h
 |.make j c e es,σ,M,Q,Q',hq,h=>by
  exact Xd hΦ e (λx M1 h1=>mon_es hΦ es (λy M2 ⟨f,sp,e,h2⟩=>⟨f,sp,e,λp hp=>hΦ _ _ _ e (λm M' z=>⟨z.1,hq _ _ z.2⟩) (h2 p hp)⟩) h1) h
 |.disp ps,σ,M,Q,Q',hq,h=>by
  exact λp hp=>mon_ps hΦ ps (λl M2 ⟨e,e2,h1⟩=>⟨e,e2,hq _ _ h1⟩) (h p hp)
theorem mon_ps{Φ:List (Str×SpM)}(hΦ:∀(j:Nat) f sp,Φ[j]?=some (f,sp)->MonW sp):∀(e:IPs) {σ M} {Q Q':List (Key×MV)->MH->Prop},(∀m M',Q m M'->Q' m M')->wPs Φ e σ M Q->wPs Φ e σ M Q'
 |.nil,σ,M,Q,Q',hq,h=>by exact hq _ _ h
 |.cons k v r,σ,M,Q,Q',hq,h=>by
  exact Xd hΦ k (λx M1 ⟨kk,e,h1⟩=>⟨kk,e,Xd hΦ v (λy M2 h2=>mon_ps hΦ r (λl M3 h3=>hq _ _ h3) h2) h1⟩) h
theorem mon_es{Φ:List (Str×SpM)}(hΦ:∀(j:Nat) f sp,Φ[j]?=some (f,sp)->MonW sp):∀e:IEs,MonA (wEs Φ e)
 |.nil,σ,M,Q,Q',hq,h=>by exact hq _ _ h
 |.cons e es,σ,M,Q,Q',hq,h=>by
  exact Xd hΦ e (λx M1 h1=>mon_es hΦ es (λy M2 h2=>hq _ _ h2) h1) h
theorem mon_o{Φ:List (Str×SpM)}(hΦ:∀(j:Nat) f sp,Φ[j]?=some (f,sp)->MonW sp):∀(e:IO) {σ M} {Q Q':Option Int->MH->Prop},(∀m M',Q m M'->Q' m M')->wO Φ e σ M Q->wO Φ e σ M Q'
 |.none,σ,M,Q,Q',hq,h=>by exact hq _ _ h
 |.some e,σ,M,Q,Q',hq,h=>by
  exact Xd hΦ e (λx M1 ⟨i,e,h1⟩=>⟨i,e,hq _ _ h1⟩) h
theorem mon_i{Φ:List (Str×SpM)}(hΦ:∀(j:Nat) f sp,Φ[j]?=some (f,sp)->MonW sp):∀(e:IO) {σ M} {Q Q':Bool->MH->Prop},(∀m M',Q m M'->Q' m M')->wI Φ e σ M Q->wI Φ e σ M Q'
 |.none,σ,M,Q,Q',hq,h=>by exact hq _ _ h
 |.some e,σ,M,Q,Q',hq,h=>by
  exact Xd hΦ e (λx M1 ⟨i,e,h1⟩=>⟨i,e,hq _ _ h1⟩) h
theorem mon_sr{Φ:List (Str×SpM)}(hΦ:∀(j:Nat) f sp,Φ[j]?=some (f,sp)->MonW sp):∀(e:ISr) {σ M} {Q Q':Src->MH->Prop},(∀m M',Q m M'->Q' m M')->wSr Φ e σ M Q->wSr Φ e σ M Q'
 |.seq e,σ,M,Q,Q',hq,h=>by
  exact Xd hΦ e (λx M1 h1=>by
   rcases h1 with⟨xs,e,h1⟩|⟨a,xs,e,e2,h1⟩|⟨a,xs,e,e2,h1⟩|⟨z,e,h1⟩
   ·exact .inl ⟨xs,e,hq _ _ h1⟩
   ·exact .inr (.inl ⟨a,xs,e,e2,hq _ _ h1⟩)
   ·exact .inr (.inr (.inl ⟨a,xs,e,e2,λo=>hq _ _ (h1 o)⟩))
   ·exact .inr (.inr (.inr ⟨z,e,hq _ _ h1⟩))) h
 |.rng e,σ,M,Q,Q',hq,h=>by
  exact Xd hΦ e (λx M1 ⟨j,e,a,b,h1⟩=>⟨j,e,a,b,hq _ _ h1⟩) h
 |.rng2 a b,σ,M,Q,Q',hq,h=>by
  exact Xd hΦ a (λx M1 h1=>Xd hΦ b (λy M2 ⟨i,j,e,e2,c,h2⟩=>⟨i,j,e,e2,c,hq _ _ h2⟩) h1) h
 |.rng3 a b c,σ,M,Q,Q',hq,h=>by
  exact Xd hΦ a (λx M1 h1=>Xd hΦ b (λy M2 h2=>Xd hΦ c (λz M3 ⟨i,j,e,e2,e3,c,h3⟩=>⟨i,j,e,e2,e3,c,hq _ _ h3⟩) h2) h1) h
end
end L2
namespace L2
open PySem PySem.Spec PyProof.Rows
structure GI where
 bl:List Str
 gl:List (Str×Int)
 fns:List Str
 mts:List (Nat×Str×Str):=[]
 mks:List (Nat×Str):=[]
 cls:List (Str×Str):=[]
noncomputable def visB(sc:Scope)(x:Str):Bool:=match sc.names.lookup x with
 |some .local=>true|some .cell=>true|some .free=>true|_=>false
noncomputable def locB(sc:Scope)(x:Str):Bool:=match sc.names.lookup x with
 |some .local=>true|some .cell=>true|_=>false
noncomputable def glB(sc:Scope)(x:Str):Bool:=decide (sc.names.lookup x=some .globalImplicit)&& !(x==("__debug__":Str))&&decide (x≠"__name__")
noncomputable def Ws(scope osc:Scope):Scope:={scope with names:=scope.names.map fun(n,k)=>if(k==.free&&osc.kind==.function&&osc.names.lookup n==some .cell)then(n,.cell)else(n,k)}
noncomputable def BI.name:BI->String
 |.len=>"len"|.isinst=>"isinstance"|.max=>"max"|.min=>"min"|.sum=>"sum"|.abs=>"abs"|.int=>"int"|.list=>"list"|.tuple=>"tuple"|.dict=>"dict"|.sorted=>"sorted"|.dictL=>"dict"|.all=>"all"
noncomputable def MT.name:MT->String
 |.dclear=>"clear"|.dget=>"get"|.dgetD=>"get"|.join=>"join"
 |.append=>"append"|.extend=>"extend"|.reverse=>"reverse"|.clear=>"clear"|.pop=>"pop"|.popAt=>"pop"|.remove=>"remove"
noncomputable def Ao:Expr->Bool
 |.Slice ..=>false|_=>true
noncomputable def Ap:Expr->Bool
 |.Set ..=>false|_=>true
noncomputable def tok:IE->Bool
 |.ife ..=>false
 |.not a=>tok a
 |.and a b=>tok a&&tok b
 |.or a b=>tok a&&tok b
 |_=>true
noncomputable def YS:Expr->Option Str|.Name x _=>some x|_=>none
noncomputable def VI:Expr->Option Const|.Constant c _ _=>some c|_=>none
noncomputable def DQ:Expr->Option (Expr×UT×Expr)|.BinOp l o r _=>some (l,o,r)|_=>none
noncomputable def asUn:Expr->Option (UnaryOp×Expr)|.UnaryOp o x _=>some (o,x)|_=>none
noncomputable def BQ:Expr->Option (Expr×List Yw×List Expr)|.Compare l o r _=>some (l,o,r)|_=>none
noncomputable def BR:Expr->Option (BoolOp×List Expr×Pos)|.BoolOp o vs p=>some (o,vs,p)|_=>none
noncomputable def asIf:Expr->Option (Expr×Expr×Expr)|.IfExp t x y _=>some (t,x,y)|_=>none
noncomputable def Aq:Expr->Option (List Expr)|.Tuple xs _ _=>some xs|_=>none
noncomputable def DR:Expr->Option (List Expr)|.List xs _=>some xs|_=>none
noncomputable def DS:Expr->Option (List (Option Expr)×List Expr)|.Dict ks vs _=>some (ks,vs)|_=>none
noncomputable def Ar:Expr->Option (Expr×Expr)|.Subscript x y _=>some (x,y)|_=>none
noncomputable def asSl:Expr->Option (Option Expr×Option Expr×Option Expr)|.Slice l u s _=>some (l,u,s)|_=>none
noncomputable def Uo:Expr->Option (Expr×List Expr×List Ue×Pos)|.Call f xs ks p=>some (f,xs,ks,p)|_=>none
noncomputable def DT:Expr->Option (Expr×Str×Pos)|.Attribute o n p=>some (o,n,p)|_=>none
noncomputable def asLC:Expr->Option (Expr×List Comprehension×Scope)|.ListComp e gs sc _=>some (e,gs,sc)|_=>none
noncomputable def the1{α:Type}:List α->Option α|[x]=>some x|_=>none
noncomputable def the3{α:Type}:List α->Option (α×α×α)|[x,y,z]=>some (x,y,z)|_=>none
noncomputable def the2{α:Type}:List α->Option (α×α)|[x,y]=>some (x,y)|_=>none
noncomputable def hd1{α:Type}:List α->Option (α×List α)|x::r=>some (x,r)|_=>none
noncomputable def hd2{α:Type}:List α->Option (α×α×List α)|x::y::r=>some (x,y,r)|_=>none
noncomputable def non0{α:Type}:List α->Bool|[]=>true|_=>false
noncomputable def isDf(k:Ue):Bool:=decide (k.arg=some ("default":Str))&&(VI k.value).any fun c=>decide (c=.int 0)
theorem Xk{α:Type}{o:Option α}{p:α->Bool}(h:o.any p=true):∃x,o=some x/\p x=true:=by
 cases o with
 |none=>cases h
 |some x=>exact⟨x,rfl,h⟩
section
variable{e:Expr}
theorem Za{x:Str}(h:YS e=some x):∃p,e=.Name x p:=by cases e<;>cases h;exact⟨_,rfl⟩
theorem As{x:Const}(h:VI e=some x):∃k p,e=.Constant x k p:=by cases e<;>cases h;exact⟨_,_,rfl⟩
theorem Zjb{x:Expr×UT×Expr}(h:DQ e=some x):∃p,e=.BinOp x.1 x.2.1 x.2.2 p:=by cases e<;>cases h;exact⟨_,rfl⟩
theorem ZlS{x:UnaryOp×Expr}(h:asUn e=some x):∃p,e=.UnaryOp x.1 x.2 p:=by cases e<;>cases h;exact⟨_,rfl⟩
theorem IC{x:Expr×List Yw×List Expr}(h:BQ e=some x):∃p,e=.Compare x.1 x.2.1 x.2.2 p:=by cases e<;>cases h;exact⟨_,rfl⟩
theorem ID{x:BoolOp×List Expr×Pos}(h:BR e=some x):e=.BoolOp x.1 x.2.1 x.2.2:=by cases e<;>cases h;rfl
theorem ZlW{x:Expr×Expr×Expr}(h:asIf e=some x):∃p,e=.IfExp x.1 x.2.1 x.2.2 p:=by cases e<;>cases h;exact⟨_,rfl⟩
theorem DU{x:List Expr}(h:Aq e=some x):∃k p,e=.Tuple x k p:=by cases e<;>cases h;exact⟨_,_,rfl⟩
theorem Zj5{x:List Expr}(h:DR e=some x):∃p,e=.List x p:=by cases e<;>cases h;exact⟨_,rfl⟩
theorem Zj8{x:List (Option Expr)×List Expr}(h:DS e=some x):∃p,e=.Dict x.1 x.2 p:=by cases e<;>cases h;exact⟨_,rfl⟩
theorem DV{x:Expr×Expr}(h:Ar e=some x):∃p,e=.Subscript x.1 x.2 p:=by cases e<;>cases h;exact⟨_,rfl⟩
theorem ZlT{x:Option Expr×Option Expr×Option Expr}(h:asSl e=some x):∃p,e=.Slice x.1 x.2.1 x.2.2 p:=by cases e<;>cases h;exact⟨_,rfl⟩
theorem V2{x:Expr×List Expr×List Ue×Pos}(h:Uo e=some x):e=.Call x.1 x.2.1 x.2.2.1 x.2.2.2:=by cases e<;>cases h;rfl
theorem Zjc{x:Expr×Str×Pos}(h:DT e=some x):e=.Attribute x.1 x.2.1 x.2.2:=by cases e<;>cases h;rfl
theorem ZlV{x:Expr×List Comprehension×Scope}(h:asLC e=some x):∃p,e=.ListComp x.1 x.2.1 x.2.2 p:=by cases e<;>cases h;exact⟨_,rfl⟩
theorem Zg{α:Type}{l:List α}{x:α}(h:the1 l=some x):l=[x]:=by
 match l,h with
 |[_],h=>cases h;rfl
theorem DW{α:Type}{l:List α}{x:α×α}(h:the2 l=some x):l=[x.1,x.2]:=by
 match l,h with
 |[_,_],h=>cases h;rfl
theorem Zkf{α:Type}{l:List α}{x:α×α×α}(h:the3 l=some x):l=[x.1,x.2.1,x.2.2]:=by
 match l,h with
 |[_,_,_],h=>cases h;rfl
theorem Vg{α:Type}{l:List α}{x:α×List α}(h:hd1 l=some x):l=x.1::x.2:=by
 match l,h with
 |_::_,h=>cases h;rfl
theorem IF{α:Type}{l:List α}{x:α×α×List α}(h:hd2 l=some x):l=x.1::x.2.1::x.2.2:=by
 match l,h with
 |_::_::_,h=>cases h;rfl
theorem YB{α:Type}{l:List α}(h:non0 l=true):l=[]:=by
 match l,h with
 |[],_=>rfl
end
noncomputable def IG(e:Expr):Bool:=(YS e).isSome||(VI e).isSome||(DQ e).isSome||(asUn e).isSome||(BQ e).isSome||(BR e).isSome||(asIf e).isSome||(Aq e).isSome||(DR e).isSome||(DS e).isSome||(Ar e).isSome||(Uo e).isSome||(asLC e).isSome||(DT e).isSome
mutual
noncomputable def Zh(sc:Scope)(N:List Str)(lim:Nat)(all:Bool):ITg->Expr->Bool
 |.nm i,e=>(YS e).any λx=>decide (N[i]?=some x)&&decide (i<lim)&&(if all then locB sc x else decide (sc.names.lookup x=some .local))
 |.tup ts,e=>(Aq e).any λes=>chkTgs sc N lim all ts es
noncomputable def chkTgs(sc:Scope)(N:List Str)(lim:Nat)(all:Bool):ITgs->List Expr->Bool
 |.nil,l=>non0 l
 |.cons t ts,l=>(hd1 l).any λq=>Zh sc N lim all t q.1&&chkTgs sc N lim all ts q.2
end
mutual
noncomputable def chkE(G:GI):IE->Scope->List Str->Expr->Bool
 |.var i,sc,N,e=>(YS e).any fun x=>decide (N[i]?=some x)&&visB sc x&& !(x==("__debug__":Str))&& !(x==("__classdict__":Str))
 |.int i,_,_,e=>(VI e).any λc=>decide (c=.int i)
 |.str x,_,_,e=>(VI e).any λc=>decide (c=.str x)
 |.bl b,_,_,e=>(VI e).any λc=>decide (c=.bool b)
 |.non,_,_,e=>(VI e).any λc=>decide (c=.none)
 |.glb x i,sc,_,e=>(YS e).any λy=>decide (x=y)&&decide (G.gl.lookup x=some i)&&glB sc x
 |.ty c,sc,_,e=>(YS e).any λy=>decide (y=(c.name:Str))&&decide (c≠.none)&&G.bl.contains y&&glB sc y
 |.bin op a b,sc,N,e=>(DQ e).any λq=>decide (op=q.2.1)&&chkE G a sc N q.1&&chkE G b sc N q.2.2
 |.neg a,_,_,_=>false
 |.not a,sc,N,e=>(asUn e).any λq=>decide (q.1=.Not)&&chkE G a sc N q.2
 |.cmp op a b,sc,N,e=>(BQ e).any λq=>(the1 q.2.1).any λo=>(the1 q.2.2).any λr=>decide (op=o)&&chkE G a sc N q.1&&chkE G b sc N r&& !behindInMarks op r
 |.chn op op' a b c,sc,N,e=>(BQ e).any λq=>(the2 q.2.1).any λo=>(the2 q.2.2).any λr=>decide (op=o.1)&&decide (op'=o.2)&&chkE G a sc N q.1&&chkE G b sc N r.1&&chkE G c sc N r.2&& !lastMarks [op,op'] [r.1,r.2]
 |.and a b,sc,N,e=>(BR e).any λq=>(hd2 q.2.1).any λv=>decide (q.1=.And)&&chkE G a sc N v.1&&chkE G b sc N (if non0 v.2.2 then v.2.1 else .BoolOp .And (v.2.1::v.2.2) q.2.2)
 |.or a b,sc,N,e=>(BR e).any λq=>(hd2 q.2.1).any λv=>decide (q.1=.Or)&&chkE G a sc N v.1&&chkE G b sc N (if non0 v.2.2 then v.2.1 else .BoolOp .Or (v.2.1::v.2.2) q.2.2)
 |.ife c a b,sc,N,e=>(asIf e).any λq=>tok c&&chkE G c sc N q.1&&chkE G a sc N q.2.1&&chkE G b sc N q.2.2
 |.tup es,sc,N,e=>(Aq e).any λxs=>chkEs G es sc N xs
 |.lst es,sc,N,e=>(DR e).any λxs=>chkEs G es sc N xs
 |.dic,_,_,e=>(DS e).any λq=>non0 q.1&&non0 q.2
 |.ix a b,sc,N,e=>(Ar e).any λq=>chkE G a sc N q.1&&chkE G b sc N q.2&&Ao q.2
 |.sl a lo hi,sc,N,e=>(Ar e).any λq=>(asSl q.2).any λs=>chkE G a sc N q.1&&chkO G lo sc N s.1&&chkO G hi sc N s.2.1&& !s.2.2.isSome
 |.call j f es,sc,N,e=>(Uo e).any λq=>(YS q.1).any λg=>(hd1 q.2.1).any λx=>non0 q.2.2.1&&decide (G.fns[j]?=some g)&&glB sc g&&chkE G f sc N x.1&&chkEs G es sc N x.2
 |.bi f a es,sc,N,e=>(Uo e).any λq=>(YS q.1).any λg=>(hd1 q.2.1).any λx=>non0 q.2.2.1&&decide (g=(f.name:Str))&&G.bl.contains g&&glB sc g&&chkE G a sc N x.1&&chkEs G es sc N x.2
 |.b2 f a,sc,N,e=>(Uo e).any λq=>(YS q.1).any λg=>(the1 q.2.1).any λy=>(Uo y).any λr=>(YS r.1).any λk=>(the1 r.2.1).any λx=>non0 q.2.2.1&&non0 r.2.2.1&&decide (g=(f.out:Str))&&decide (k=(f.inn:Str))&&G.bl.contains g&&G.bl.contains k&&glB sc g&&glB sc k&&chkE G a sc N x
 |.mxd a,sc,N,e=>(Uo e).any fun q=>(YS q.1).any fun g=>(the1 q.2.1).any fun x=>(the1 q.2.2.1).any fun k=>decide (g=("max":Str))&&isDf k&&G.bl.contains g&&glB sc g&&chkE G a sc N x
 |.mt m o es,sc,N,e=>(Uo e).any λq=>(DT q.1).any λa=>non0 q.2.2.1&&decide (a.2.1=(m.name:Str))&&(a.2.2.endLine==q.2.2.2.line)&&chkE G o sc N a.1&&chkEs G es sc N q.2.1&&decide (q.2.1.length<20)
 |.comp own fr src tg test elt,sc,N,e=>(asLC e).any λq=>(the1 q.2.1).any λg=>Wl sc q.2.2 N own fr&&Ap g.iter&&decide (nC own fr N).Nodup&&chkSr G src sc N g.iter&&Zh (Ws q.2.2 sc) (nC own fr N) own.length false tg g.target&&
   chkI G test (Ws q.2.2 sc) (nC own fr N) g.ifs&&chkE G elt (Ws q.2.2 sc) (nC own fr N) q.1&&decide (g.is_async=0)
 |.fld c o f,_,_,_=>false
 |.mcall j c m o es,_,_,_=>false
 |.make j c a es,_,_,_=>false
 |.disp ps,_,_,_=>false
noncomputable def At(G:GI):IPs->Scope->List Str->List (Option Expr)->List Expr->Bool
 |.nil,_,_,l,r=>non0 l&&non0 r
 |.cons k v ps,sc,N,l,r=>(hd1 l).any λq=>(hd1 r).any λs=>q.1.any λx=>chkE G k sc N x&&chkE G v sc N s.1&&At G ps sc N q.2 s.2
noncomputable def chkEs(G:GI):IEs->Scope->List Str->List Expr->Bool
 |.nil,_,_,l=>non0 l
 |.cons e es,sc,N,l=>(hd1 l).any λq=>chkE G e sc N q.1&&chkEs G es sc N q.2
noncomputable def chkO(G:GI):IO->Scope->List Str->Option Expr->Bool
 |.none,_,_,o=>!o.isSome
 |.some e,sc,N,o=>o.any λx=>chkE G e sc N x
noncomputable def chkI(G:GI):IO->Scope->List Str->List Expr->Bool
 |.none,_,_,l=>non0 l
 |.some e,sc,N,l=>(the1 l).any λx=>tok e&&chkE G e sc N x
noncomputable def chkSr(G:GI):ISr->Scope->List Str->Expr->Bool
 |.seq a,sc,N,e=>chkE G a sc N e
 |.rng a,sc,N,e=>(Uo e).any fun q=>(YS q.1).any fun f=>(the1 q.2.1).any fun x=>non0 q.2.2.1&&decide (f=("range":Str))&&G.bl.contains f&&glB sc f&&chkE G a sc N x
 |.rng2 a b,sc,N,e=>(Uo e).any fun q=>(YS q.1).any fun f=>(the2 q.2.1).any fun x=>non0 q.2.2.1&&decide (f=("range":Str))&&G.bl.contains f&&glB sc f&&chkE G a sc N x.1&&chkE G b sc N x.2
 |.rng3 a b c,sc,N,e=>(Uo e).any fun q=>(YS q.1).any fun f=>(the3 q.2.1).any fun x=>non0 q.2.2.1&&decide (f=("range":Str))&&G.bl.contains f&&glB sc f&&chkE G a sc N x.1&&chkE G b sc N x.2.1&&chkE G c sc N x.2.2
end
noncomputable def liSp(K:X6)(sp:SpM):Sp:=λvs H Q _=>∃ms M,RMs K H ms vs/\RH K M H/\sp ms M (Dn K H Q)
structure Cok (X:Cx) (G:GI) (Φ:List (Str×SpM)):Prop where
 room:X.A.units+70<cLine
 calm:X.calm=true
 nox:X.xe=λ_ _=>False
 blk:X.env.blockKind=.function
 nd:X.N.Nodup
 bls:∀x,G.bl.contains x=true->X.mg x=none
 gls:∀x i,G.gl.lookup x=some i->∃tk,X.mg x=some (.int i tk)
 fnn:∀(j:Nat) f,G.fns[j]?=some f->∃sp,Φ[j]?=some (f,sp)
 mon:∀(j:Nat) f sp,Φ[j]?=some (f,sp)->MonW sp
 fns:∀(j:Nat) f sp,G.fns[j]?=some f->Φ[j]?=some (f,sp)->∃k fa fd ps,Room k X.A/\FnOk X.prog X.w X.K X.mg X.base CX0 k fa fd ps (liSp X.K sp)/\X.mg f=some (.ref fa)/\Xr X.K (.ref fa)=true/\Binds X.K fd ps []
 mts:∀(j:Nat) c m,G.mts.contains (j,c,m)=true->∃f sp,Φ[j]?=some (f,sp)/\∃k C fa fd ps,Room k X.A/\FnOk X.prog X.w X.K X.mg X.base CX0 k fa fd ps (liSp X.K sp)/\Xi X.K Xf c=some (some (.ref C))/\Cls X.K C/\Meth X.K C m fa/\Binds X.K fd ps []
 mks:∀(j:Nat) c,G.mks.contains (j,c)=true->∃f sp,Φ[j]?=some (f,sp)/\∃k C fa fd ps,Room (k+1) X.A/\FnOk X.prog X.w X.K X.mg X.base CX0 k fa fd ps (liSp X.K sp)/\Xi X.K Xf c=some (some (.ref C))/\X.mg c=some (.ref C)/\Mk X.K C fa/\Binds X.K fd ps []
 cls:∀c f,G.cls.contains (c,f)=true->∃C,Xi X.K Xf c=some (some (.ref C))/\Cls X.K C/\Du X.K C f
section
variable{X:Cx}{G:GI}{Φ:List (Str×SpM)}
theorem Zmc{sc:Scope}{x:Str}(h:visB sc x=true):Vis sc x:=by
 unfold visB at h;unfold Vis;cases e:sc.names.lookup x with
 |none=>rw[e]at h;cases h
 |some k=>rw[e]at h;cases k<;>first|exact .inl rfl|exact .inr (.inl rfl)|exact .inr (.inr rfl)|cases h
theorem BS{sc:Scope}{x:Str}(h:locB sc x=true):Loc sc x:=by
 unfold locB at h;unfold Loc;cases e:sc.names.lookup x with
 |none=>rw[e]at h;cases h
 |some k=>rw[e]at h;cases k<;>first|exact .inl rfl|exact .inr rfl|cases h
theorem UO{x:Str}(h:glB X.env.scope x=true):Gl X x/\(x==("__debug__":Str))=false/\x≠"__name__":=by
 unfold glB at h;simp only[Yp,decide_eq_true_eq,Bool.not_eq_true']at h;exact⟨h.1.1,h.1.2,h.2⟩
theorem ZlR(f:BI):YE (f.name:Str)=some f.val:=by cases f<;>(show YE _=some _;decide+kernel)
theorem ZlQ{c:Ty7}(h:c≠.none):YE (c.name:Str)=some (.type c.name):=by cases c<;>first|exact absurd rfl h|decide+kernel
theorem boot_range:YE ("range":Str)=some (.type "range"):=by decide+kernel
theorem ZfG:∀{ie:IE} {sc:Scope} {N:List Str} {e:Expr},chkE G ie sc N e=true->IG e=true:=by
 intro ie sc N e h;cases ie
 all_goals
  first
   |exact absurd h XG
   |(replace h:=Xk h
     obtain⟨x,hx,_⟩:=h;simp only[IG,hx,Option.isSome_some,Bl,Bk])
theorem XY:∀{ie:IE} {sc:Scope} {N:List Str} {e:Expr} {es:List Expr} {env:Env},chkE G ie sc N e=true->XM (e::es) env=(false,eval e env)::XM es env:=by
 intro ie sc N e es env h;cases e<;>first|rfl|cases ZfG h
theorem Wt:∀{ies:IEs} {sc:Scope} {N:List Str} {es:List Expr} {env:Env} {pos:Pos},chkEs G ies sc N es=true->(XM es env).all (λx=>!x.1)=true
 |.nil,sc,N,es,_,_,h=>by
  cases YB h
  rfl
 |.cons e es,sc,N,xs,env,pos,h=>by
  replace h:=Xk h;obtain⟨q,h1,h2⟩:=h;cases Vg h1;rw[Yp]at h2;rw[XY h2.1,Vr];exact Wt (pos:=pos) h2.2
theorem Ziy:∀{ie:IE} {sc:Scope} {N:List Str} {x:Str} {px p:Pos} {ks:List Ue},chkE G ie sc N (.Call (.Name x px) [] ks p)=true->False:=by
 intro ie sc N x px p ks h;cases ie
 all_goals exact absurd h XG
theorem IH{ie:IE}{sc:Scope}{N:List Str}{o:Expr}{nm:Str}{env:Env}(h:chkE G ie sc N o=true):WN o nm env (eval o env)=eval o env:=by
 cases o<;>try rfl
 rename_i fn args kw pos
 cases fn<;>try rfl
 cases args with
 |cons a r=>rfl
 |nil=>exact(Ziy h).elim
theorem Au{pos:Pos}{l:List (Bool×Sem X0)}(h:l.all (λx=>!x.1)=true):(Yn pos l).all (λx=>!x.1)=true/\(Yn pos l).any (·.1)=false:=by
 induction l with
 |nil=>exact⟨rfl,rfl⟩
 |cons a r ih=>
  rw[Vr,Yp]at h;obtain⟨h1,h2⟩:=ih h.2;have e:a.1=false:=by simpa using h.1
  unfold Yn at h1 h2 ⊢;rw[XC,Vr,UD,h1,h2];obtain⟨b,t⟩:=a;cases e;exact⟨rfl,rfl⟩
end
noncomputable def tCW2(own:List Str)(fr:List Nat)(g:TG)(tt:TT)(te:TE)(σ:St)(H1:Hp)(Q:VK)(J:It)(D:Addr):Prop:=∃W:Nat->Nat->List V->Hp->Prop,
 (∃m,W 0 m [] (upd H1 D (.lst [])))/\∀i m ys H2,W i m ys H2->
  ((J.stop i H2/\Q (.ref D) H2)\/(J.go i H2/\∃N:List V->Hp->Prop,(∀ys' H',N ys' H'->∃m',m'<m/\W (i+1) m' ys' H')/\∀x H3,J.yld i H2 x H3->g x (sC own fr σ) H3 λσ2 H4=>Keep (sC own fr σ) σ2/\tt σ2 H4 λb H5=>
   if b=true then te σ2 H5 λy H6=>∃zs,H6 D=some (.lst zs)/\zs.length<sizeLine/\N (zs++[y]) (upd H6 D (.lst (zs++[y])))else N ys H5))
noncomputable def DX(own:List Str)(fr:List Nat)(wi:TI)(g:TG)(tt:TT)(te:TE):TE:=λσ H Q=>wi σ H λJ H1=>∀D,H1 D=none->tCW2 own fr g tt te σ H1 Q J D
section
variable{X:Cx}{pins:List (Addr×Obj)}{σ:St}{H1:Hp}{s2:X1}{tg elt iter:Expr}{ifs:List Expr}{scope:Scope}{pos:Pos}{own:List Str}{fr:List Nat}{g:TG}{tt:TT}{te:TE}
theorem II{J:It}{fp:List Addr}{it:Addr}{tn:Nat->Heap->Prop}{RR:X0->Addr->Result->X1->Prop}{Q:VK}{E:X0->X1->Prop}(hc:X.calm=true)(ok:CompOk X.env.scope scope X.N fr)
  (hg:∀C fp s₃ H₃,PG (cxC X scope own fr C fp s₃ H₃) tg g) (ht:∀C fp s₃ H₃,PTs (cxC X scope own fr C fp s₃ H₃) ifs tt) (he:∀C fp s₃ H₃,PE (cxC X scope own fr C fp s₃ H₃) elt te)
  (I2:Inv X pins σ H1 s2) (T:Turn X.prog X.w X.K tg J fp it tn) (st:tn 0 s2.heap) (hf:∀b∈fp,FpOk X pins H1 b)
  (h:∀D,H1 D=none->tCW2 own fr g tt te σ H1 Q J D)
  (hRR:∀D C H' s',Inv X pins σ H' s'->(∃m,s'.heap.Ns C m)->H' C=none->C≠X.env.locals->X.s₀.heap.objs.size≤C->(∀x c,X.env.cells.lookup x=some c->c≠C)->(∀p∈X.pn++pins,p.1≠C)->Q (.ref D) H'->RR (.ref D) C (.ok .next) s'):
  X4 (X8 X.prog X.w) X.A (newList []) (λacc s₃=>X4 (X8 X.prog X.w) X.A (newFunctionEnv scope X.env.globals (clOf X.env.cells scope.names []) [] X.env.qual none .none (some X.env)) (λcenv s₄=>
   YW (X8 X.prog X.w) X.A (.compStart (.ListComp elt [⟨tg,iter,ifs,0⟩] scope pos) 0 (.ref it) acc {cenv with scope:=relabel scope X.env}) (RR acc cenv.locals) s₄) E s₃) E s2:=by
 have hD:H1 s2.heap.objs.size=none:=I2.hok.fresh (Xl _);obtain⟨W,⟨m0,w0⟩,step⟩:=h _ hD;refine Ux (wpAny_newFunctionEnv ok.nocell (by intro y hy;simp at hy) (λh4 ns4 sb4=>?_) ok.kind)
 dsimp only at ns4 sb4 ⊢;have I3:Inv X pins σ (upd H1 s2.heap.objs.size (.lst [])) {s2 with heap:=s2.heap.push {cls:=.type "list",dict:=none,data:=.seq ([]:List X0).toArray},toks:=s2.toks}:=
  I2.laid (λb u e=>Xs _ e) (Xl _) ⟨YD _,[],0,.nil,XS _ rfl⟩
 have fpo:∀b∈fp,∃o,s2.heap.get? b=some o:=λb hb=>let⟨o,e,_⟩:=T.obj 0 _ st b hb;⟨o,e⟩
 have fpD:∀b∈fp,b≠s2.heap.objs.size:=λb hb=>let⟨o,e⟩:=fpo b hb;XH (XA e)
 have hf3:∀b∈fp,FpOk X pins (upd H1 s2.heap.objs.size (.lst [])) b:=λb hb=>⟨by rw[XO (fpD b hb)];exact(hf b hb).1,(hf b hb).2⟩
 generalize hs3:({s2 with heap:=s2.heap.push {cls:=.type "list",dict:=none,data:=.seq ([]:List X0).toArray},toks:=s2.toks}:X1)=s3 at*;have e3:s2.heap.push {cls:=.type "list",dict:=none,data:=.seq ([]:List X0).toArray}=s3.heap:=by rw[<- hs3]
 rw[e3]at ns4 sb4 ⊢;have kp:∀b o,s3.heap.get? b=some o->h4.get? b=some o:=λb o e=>(sb4.2 b (XH (XA e))).trans (Xs _ e);have fpo3:∀b∈fp,∃o,s3.heap.get? b=some o:=λb hb=>let⟨o,e⟩:=fpo b hb;⟨o,by rw[<- e3];exact Xs _ e⟩
 have I4:=RX (own:=own) (scope:=scope) (fr:=fr) (tk:=s2.toks+0) ok I3 rfl hf3 fpo3 ns4 kp;have st4:tn 0 h4:=T.keep _ _ _ st λb hb o e=>kp b o (by rw[<- e3];exact Xs _ e)
 have fpC:∀b∈fp,b≠s3.heap.objs.size:=λb hb=>let⟨o,e⟩:=fpo3 b hb;XH (XA e)
 have stat:∀{H':Hp},(∀b∈fp,H' b=none)->∀b∈fp,FpOk (cxC X scope own fr s3.heap.objs.size fp s3 (upd H1 s2.heap.objs.size (.lst []))) pins H' b:=λhn b hb=>by
  refine⟨hn b hb,fpC b hb,λz=>?_,.inl hb,λx c e=>?_,(hf b hb).2.2.2.2.2⟩
  ·rcases Xt.mp (I3.stkSub b z)with z|z
   ·exact(hf b hb).2.1 z
   ·exact(hf b hb).2.2.1 z
  ·exact(hf b hb).2.2.2.2.1 x c ((Ah _ _ _ _ _ e).elim (λz=>by simp at z) id)
 have loop:YW (X8 X.prog X.w) X.A (.compLoop (.ListComp elt [⟨tg,iter,ifs,0⟩] scope pos) 0 (.ref it) (.ref s2.heap.objs.size) (compEnvC scope (clOf X.env.cells scope.names []) s3.heap.objs.size X.env))
   (RR (.ref s2.heap.objs.size) s3.heap.objs.size) {s3 with heap:=h4,toks:=s2.toks+0}:=by
  refine RV (λn s'=>∃i ys H',Inv (cxC X scope own fr s3.heap.objs.size fp s3 (upd H1 s2.heap.objs.size (.lst []))) pins (sC own fr σ) H' s'/\tn i s'.heap/\(∀b∈fp,H' b=none)/\W i n ys H') ?_ m0
   ⟨0,[],_,I4,st4,λb hb=>(hf3 b hb).1,w0⟩
  rintro n s5 ⟨i,ys,H5,I5,st5,fr5,w5⟩;have way:=step i n ys H5 w5;rcases way with⟨stop,q⟩|⟨go,N,hN,turn⟩
  ·refine thn (T.done (cxC X scope own fr s3.heap.objs.size fp s3 (upd H1 s2.heap.objs.size (.lst []))) rfl rfl rfl hc i pins s5 _ H5 _ I5 (stat fr5) st5 stop) λr s6 ⟨hr,I6⟩=>?_;subst hr;have J6:Inv X pins σ H5 s6:=I3.call' I6.os I6.base I6.hok I6.bare λb hb=>⟨(hf b hb).2.2.2.1,(hf b hb).2.1,(hf b hb).2.2.2.2.1,(hf b hb).2.2.2.2.2⟩;obtain⟨m6,ns6,_⟩:=I6.loc;refine hRR _ _ H5 s6 J6 ⟨m6,ns6⟩ I6.free (Vw I3.lt) I3.sz (λx c e=>?_) (λp hp=>?_) q
   ·obtain⟨v,z⟩:=I3.cell x c e;exact XH z.lt
   ·exact XH (XA (I3.pin p hp).1)
  ·refine thn (T.item (cxC X scope own fr s3.heap.objs.size fp s3 (upd H1 s2.heap.objs.size (.lst []))) rfl rfl rfl hc i pins s5 _ H5 _ I5 (stat fr5) st5 go) λr s6 ⟨u,hr,h6⟩=>?_;subst hr;refine thn h6 λ_ s7 ⟨x,H7,I7,r7,y7,st7,fr7⟩=>?_;have I7':=I7.pinned (stat fr7) (T.obj _ _ st7);refine thn (hg _ _ _ _ _ s7 _ H7 x u _ I7' r7 (turn x H7 y7)) λ_ s8 ⟨σ8,H8,I8,kp8,q8⟩=>?_;have again:∀{H9:Hp} {s9:X1},Inv (cxC X scope own fr s3.heap.objs.size fp s3 (upd H1 s2.heap.objs.size (.lst []))) (pins++Wi fp s7.heap) σ8 H9 s9->∀{ys'},(∃m',m'<n/\W (i+1) m' ys' H9)->
     ∃m,m<n/\∃i ys H',Inv (cxC X scope own fr s3.heap.objs.size fp s3 (upd H1 s2.heap.objs.size (.lst []))) pins (sC own fr σ) H' s9/\tn i s9.heap/\(∀b∈fp,H' b=none)/\W i m ys H':=fun{H9 s9} I9 {ys'} ⟨m',hm,w9⟩=>by
    refine⟨m',hm,i+1,ys',H9,(I9.unpinned).weak kp8.1 kp8.2,T.keep _ _ _ st7 λb hb o e=>(I9.pin (b,o) (Uz _ (Uz _ (BD hb e)))).1,λb hb=>?_,w9⟩;obtain⟨o,e,d⟩:=T.obj _ _ st7 b hb;exact(I9.pin (b,o) (Uz _ (Uz _ (BD hb e)))).2.1
   have fin:∀{ok:Bool} {s9:X1} {H9:Hp},Inv (cxC X scope own fr s3.heap.objs.size fp s3 (upd H1 s2.heap.objs.size (.lst []))) (pins++Wi fp s7.heap) σ8 H9 s9->
     (if ok=true then te σ8 H9 λy H6=>∃zs,H6 s2.heap.objs.size=some (.lst zs)/\zs.length<sizeLine/\N (zs++[y]) (upd H6 s2.heap.objs.size (.lst (zs++[y])))else N ys H9)->
     (if ok=true then X4 (X8 X.prog X.w) X.A (eval elt (compEnvC scope (clOf X.env.cells scope.names []) s3.heap.objs.size X.env)) (λx s₄=>
      X4 (X8 X.prog X.w) X.A (call (.builtin "list.append") [.ref s2.heap.objs.size,x]) (fun _ s₅=>∃m,m<n/\∃i ys H',Inv (cxC X scope own fr s3.heap.objs.size fp s3 (upd H1 s2.heap.objs.size (.lst []))) pins (sC own fr σ) H' s₅/\tn i s₅.heap/\(∀b∈fp,H' b=none)/\W i m ys H') (fun _ _=>False) s₄) (fun _ _=>False) s9
      else∃m,m<n/\∃i ys H',Inv (cxC X scope own fr s3.heap.objs.size fp s3 (upd H1 s2.heap.objs.size (.lst []))) pins (sC own fr σ) H' s9/\tn i s9.heap/\(∀b∈fp,H' b=none)/\W i m ys H'):=fun{ok s9 H9} I9 q9=>by
    cases ok with
    |false=>
     rw[if_neg XG]at q9 ⊢;exact again I9 (hN _ _ q9)
    |true=>
     rw[if_pos rfl]at q9 ⊢;refine thn (he _ _ _ _ _ s9 σ8 H9 _ I9 q9) λv s10 ⟨y,H10,I10,r10,zs,hl10,hz5,w10⟩=>?_;refine thn (Hi (X:=cxC X scope own fr s3.heap.objs.size fp s3 (upd H1 s2.heap.objs.size (.lst []))) _ s10 σ8 H10 (.ref s2.heap.objs.size) [y] (.ref s2.heap.objs.size) [v] (λ_ H'=>H'=upd H10 s2.heap.objs.size (.lst (zs++[y]))) I10 rfl (.cons r10 .nil) ⟨_,zs,y,rfl,rfl,hl10,hz5,rfl⟩) λ_ s11 ⟨_,H11,I11,_,e11⟩=>?_;subst e11;exact again I11 (hN _ _ w10)
   rcases ht s3.heap.objs.size fp s3 (upd H1 s2.heap.objs.size (.lst []))with⟨e,et⟩|⟨c,e,hcT⟩
   ·subst e et;exact wpAny_tests_nil (fin (ok:=true) I8 q8)
   ·subst e;exact wpAny_tests_one (thn (hcT _ s8 σ8 H8 _ I8 q8) λb s9 ⟨H9,I9,q9⟩=>fin I9 q9)
 subst hs3;exact codeAny_compStart_list loop (T.self _ 0 _ _ _ st4 loop)
theorem Zio(own:List Str)(fr:List Nat){wi:TI}(hx:∀e s,¬X.xe e s)(hc:X.calm=true)(ok:Wl X.env.scope scope X.N own fr=true)(hi:PI X tg iter wi)
  (hg:∀C fp s₃ H₃,PG (cxC X scope own fr C fp s₃ H₃) tg g) (ht:∀C fp s₃ H₃,PTs (cxC X scope own fr C fp s₃ H₃) ifs tt) (he:∀C fp s₃ H₃,PE (cxC X scope own fr C fp s₃ H₃) elt te)
  (hs:∀x,AY iter X.env x=pure x:=by intro _;rfl):
  PE X (.ListComp elt [⟨tg,iter,ifs,0⟩] scope pos) (DX own fr wi g tt te):=by
 have ok':=Wm ok;intro pins s σ H Q I h;rw[eval_ListComp];refine wpAny_comprehension_free (use:=none) (cl:=clOf X.env.cells scope.names []) rfl hs (Hr λy hy hk=>I.ok.has y.1 (ok'.has y hy hk)) ok'.kind ok'.names (thn (hi pins s σ H _ I h) λv s1 h1=>thn h1 λitv s2 h2=>?_);obtain⟨it,fp,tn,J,H2,e,I2,T,st2,f2,R⟩:=h2;subst e;refine II (RR:=λacc C=>compPost (X8 X.prog X.w) X.A X.xe none (EP X pins σ Q) acc C) (Q:=Q) hc ok' hg ht he I2 T st2 f2 R ?_;rintro D C H' s' I' ⟨m,ns⟩ c1 c2 c3 c4 c5 q;refine⟨m,ns,λh' sb=>⟨.ref D,H',?_,rfl,q⟩⟩;exact I'.turned (t':=s'.toks) (λb o hb e=>(sb.2 b hb).trans e) c1 c2 (.inr c3) c4 c5
theorem Zdq(own:List Str)(fr:List Nat){i:Nat}{y:Str}{py spos:Pos}{wi:TI}(hN:X.N.Nodup)(hi:X.N[i]?=some y) (hy:Loc X.env.scope y) (hx:∀e s,¬X.xe e s) (hc:X.calm=true) (ok:Wl X.env.scope scope X.N own fr=true) (hit:PI X tg iter wi)
  (hg:∀C fp s₃ H₃,PG (cxC X scope own fr C fp s₃ H₃) tg g) (ht:∀C fp s₃ H₃,PTs (cxC X scope own fr C fp s₃ H₃) ifs tt) (he:∀C fp s₃ H₃,PE (cxC X scope own fr C fp s₃ H₃) elt te)
  (hsw:V7 (.ListComp elt [⟨tg,iter,ifs,0⟩] scope pos) (some (.Name y py)) spos.line X.env=pure true:=by rfl) (hs:∀x,AY iter X.env x=pure x:=by intro _;rfl)
  (hf:X.fn y=true\/X.env.scope.names.lookup y=some .local:=by first|exact .inl rfl|exact .inr rfl|assumption):
  PS X (.Assign [.Name y py] (.ListComp elt [⟨tg,iter,ifs,0⟩] scope pos) spos) (tAsg (DX own fr wi g tt te) (BC i)):=by
 have ok':=Wm ok;intro pins s σ H D I h;rw[exec_Assign_Name_used _ _ _ _ hsw];refine X3 (wpAny_standAt (X3 ?_));show X4 _ X.A (do let _<- comprehension (.ListComp elt [⟨tg,iter,ifs,0⟩] scope pos) scope X.env _ (newList []) false (eval iter X.env) (some (assign (.Name y py) X.env))) _ _ s
 refine X3 (Ut (wpAny_comprehension_free (use:=some (assign (.Name y py) X.env)) (cl:=clOf X.env.cells scope.names []) (Q:=λ_ s'=>SP X pins D .next s') rfl hs (Hr λy hy hk=>I.ok.has y.1 (ok'.has y hy hk)) ok'.kind ok'.names
  (thn (hit pins s σ H _ I h) λv s1 h1=>thn h1 λitv s2 h2=>?_)) (λ_ s' hq=>Xa (Xa hq)) λ_ _ e=>e)
 obtain⟨it,fp,tn,J,H2,e,I2,T,st2,f2,R⟩:=h2;subst e;refine II (RR:=λacc C=>compPost (X8 X.prog X.w) X.A X.xe (some (assign (.Name y py) X.env)) (λ_ s'=>SP X pins D .next s') acc C) (Q:=λv H'=>D.nx (σ.set i (some v)) H') hc ok' hg ht he I2 T st2 f2 R ?_;rintro E C H' s' I' ⟨m,ns⟩ c1 c2 c3 c4 c5 q;show X4 _ X.A (assign (.Name y py) X.env (.ref E)) _ _ _;refine wpAny_assign_Name (Gy I' hN hi hy (v:=.ref E) (u:=.ref E) rfl (λs'' I'' sb=>?_) hf);obtain⟨a,sb,ha⟩:=sb;have hCa:C≠a:=by
  rcases ha with z|z
  ·rw[z];exact c2
  ·exact λe=>c4 _ _ z e.symm
 refine⟨m,ns.sameBut sb hCa,λh' sb'=>⟨_,H',?_,q⟩⟩;exact I''.turned (t':=s''.toks) (λb o hb e=>(sb'.2 b hb).trans e) c1 c2 (.inr c3) c4 c5
end
section
variable{G:GI}{sc:Scope}{N:List Str}{e:Expr}
theorem Xh{a b:Bool}(h:(a&&b)=true):a=true/\b=true:=by rwa [Yp]at h
theorem XR{p:Prop} [Decidable p] (h:decide p=true):p:=of_decide_eq_true h
theorem not_of{b:Bool}(h:(!b)=true):b=false:=by cases b with|false=>rfl|true=>cases h
theorem Zli{i:Nat}(h:chkE G (.var i) sc N e=true):∃x p,e=.Name x p/\N[i]?=some x/\visB sc x=true/\(x==("__debug__":Str))=false/\(x==("__classdict__":Str))=false:=by
 replace h:=Xk h;obtain⟨x,h1,h⟩:=h;obtain⟨p,rfl⟩:=Za h1;replace h:=Xh h;obtain⟨h,h5⟩:=h;replace h:=Xh h;obtain⟨h,h4⟩:=h;replace h:=Xh h;obtain⟨h2,h3⟩:=h;exact⟨x,p,rfl,XR h2,h3,not_of h4,not_of h5⟩
theorem Zlq{i:Int}(h:chkE G (.int i) sc N e=true):∃k p,e=.Constant (.int i) k p:=by
 replace h:=Xk h;obtain⟨x,h1,h⟩:=h;obtain⟨k,p,rfl⟩:=As h1;exact⟨k,p,by rw[XR h]⟩
theorem Zlk{i:Str}(h:chkE G (.str i) sc N e=true):∃k p,e=.Constant (.str i) k p:=by
 replace h:=Xk h;obtain⟨x,h1,h⟩:=h;obtain⟨k,p,rfl⟩:=As h1;exact⟨k,p,by rw[XR h]⟩
theorem ZnQ{i:Bool}(h:chkE G (.bl i) sc N e=true):∃k p,e=.Constant (.bool i) k p:=by
 replace h:=Xk h;obtain⟨x,h1,h⟩:=h;obtain⟨k,p,rfl⟩:=As h1;exact⟨k,p,by rw[XR h]⟩
theorem Zln(h:chkE G .non sc N e=true):∃k p,e=.Constant .none k p:=by
 replace h:=Xk h;obtain⟨x,h1,h⟩:=h;obtain⟨k,p,rfl⟩:=As h1;exact⟨k,p,by rw[XR h]⟩
theorem Zls{x:Str}{i:Int}(h:chkE G (.glb x i) sc N e=true):∃p,e=.Name x p/\G.gl.lookup x=some i/\glB sc x=true:=by
 replace h:=Xk h;obtain⟨y,h1,h⟩:=h;obtain⟨p,rfl⟩:=Za h1;replace h:=Xh h;obtain⟨h,h4⟩:=h;replace h:=Xh h;obtain⟨h2,h3⟩:=h;obtain rfl:=XR h2;exact⟨p,rfl,XR h3,h4⟩
theorem ZnL{c:Ty7}(h:chkE G (.ty c) sc N e=true):∃p,e=.Name (c.name:Str) p/\c≠.none/\G.bl.contains (c.name:Str)=true/\glB sc (c.name:Str)=true:=by
 replace h:=Xk h;obtain⟨y,h1,h⟩:=h;obtain⟨p,rfl⟩:=Za h1;replace h:=Xh h;obtain⟨h,h5⟩:=h;replace h:=Xh h;obtain⟨h,h4⟩:=h;replace h:=Xh h;obtain⟨h2,h3⟩:=h;obtain rfl:=XR h2;exact⟨p,rfl,XR h3,h4,h5⟩
theorem Zlw{op:UT}{a b:IE}(h:chkE G (.bin op a b) sc N e=true):∃l r p,e=.BinOp l op r p/\chkE G a sc N l=true/\chkE G b sc N r=true:=by
 replace h:=Xk h;obtain⟨⟨l,o,r⟩,h1,h⟩:=h;obtain⟨p,rfl⟩:=Zjb h1;replace h:=Xh h;obtain⟨h,h4⟩:=h;replace h:=Xh h;obtain⟨h2,h3⟩:=h;obtain rfl:=XR h2;exact⟨l,r,p,rfl,h3,h4⟩
theorem Zlm{a:IE}(h:chkE G (.not a) sc N e=true):∃l p,e=.UnaryOp .Not l p/\chkE G a sc N l=true:=by
 replace h:=Xk h;obtain⟨⟨o,l⟩,h1,h⟩:=h;obtain⟨p,rfl⟩:=ZlS h1;replace h:=Xh h;obtain⟨h2,h3⟩:=h;obtain rfl:=XR h2;exact⟨l,p,rfl,h3⟩
theorem Zlu{op:Yw}{a b:IE}(h:chkE G (.cmp op a b) sc N e=true):∃l r p,e=.Compare l [op] [r] p/\chkE G a sc N l=true/\chkE G b sc N r=true/\WL op r=false:=by
 replace h:=Xk h;obtain⟨⟨l,os,rs⟩,h1,h⟩:=h;obtain⟨p,rfl⟩:=IC h1;replace h:=Xk h;obtain⟨o,h2,h⟩:=h;replace h:=Xk h;obtain⟨r,h3,h⟩:=h;obtain rfl:=Zg h2;obtain rfl:=Zg h3;replace h:=Xh h;obtain⟨h,h7⟩:=h;replace h:=Xh h;obtain⟨h,h6⟩:=h;replace h:=Xh h;obtain⟨h4,h5⟩:=h;obtain rfl:=XR h4;exact⟨l,r,p,rfl,h5,h6,not_of h7⟩
theorem Zlv{op op':Yw}{a b c:IE}(h:chkE G (.chn op op' a b c) sc N e=true):∃l m r p,e=.Compare l [op,op'] [m,r] p/\chkE G a sc N l=true/\chkE G b sc N m=true/\chkE G c sc N r=true/\lastMarks [op,op'] [m,r]=false:=by
 replace h:=Xk h;obtain⟨⟨l,os,rs⟩,h1,h⟩:=h;obtain⟨p,rfl⟩:=IC h1;replace h:=Xk h;obtain⟨⟨o,o'⟩,h2,h⟩:=h;replace h:=Xk h;obtain⟨⟨m,r⟩,h3,h⟩:=h;obtain rfl:=DW h2;obtain rfl:=DW h3;replace h:=Xh h;obtain⟨h,h9⟩:=h;replace h:=Xh h;obtain⟨h,h8⟩:=h;replace h:=Xh h;obtain⟨h,h7⟩:=h;replace h:=Xh h;obtain⟨h,h6⟩:=h;replace h:=Xh h;obtain⟨h4,h5⟩:=h;obtain rfl:=XR h4;obtain rfl:=XR h5;exact⟨l,m,r,p,rfl,h6,h7,h8,not_of h9⟩
theorem Zlx{a b:IE}(h:chkE G (.and a b) sc N e=true):∃l r rest p,e=.BoolOp .And (l::r::rest) p/\chkE G a sc N l=true/\((rest=[]/\chkE G b sc N r=true)\/chkE G b sc N (.BoolOp .And (r::rest) p)=true):=by
 replace h:=Xk h;obtain⟨⟨o,vs,p⟩,h1,h⟩:=h;obtain rfl:=ID h1;replace h:=Xk h;obtain⟨⟨l,r,rest⟩,h2,h⟩:=h;obtain rfl:=IF h2;replace h:=Xh h;obtain⟨h,h4⟩:=h;replace h:=Xh h;obtain⟨h2,h3⟩:=h;obtain rfl:=XR h2;refine⟨l,r,rest,p,rfl,h3,?_⟩;cases rest with
 |nil=>exact .inl ⟨rfl,h4⟩
 |cons _ _=>exact .inr h4
theorem ZnN{a b:IE}(h:chkE G (.or a b) sc N e=true):∃l r rest p,e=.BoolOp .Or (l::r::rest) p/\chkE G a sc N l=true/\((rest=[]/\chkE G b sc N r=true)\/chkE G b sc N (.BoolOp .Or (r::rest) p)=true):=by
 replace h:=Xk h;obtain⟨⟨o,vs,p⟩,h1,h⟩:=h;obtain rfl:=ID h1;replace h:=Xk h;obtain⟨⟨l,r,rest⟩,h2,h⟩:=h;obtain rfl:=IF h2;replace h:=Xh h;obtain⟨h,h4⟩:=h;replace h:=Xh h;obtain⟨h2,h3⟩:=h;obtain rfl:=XR h2;refine⟨l,r,rest,p,rfl,h3,?_⟩;cases rest with
 |nil=>exact .inl ⟨rfl,h4⟩
 |cons _ _=>exact .inr h4
theorem Zlr{a b c:IE}(h:chkE G (.ife c a b) sc N e=true):∃t x y p,e=.IfExp t x y p/\tok c=true/\chkE G c sc N t=true/\chkE G a sc N x=true/\chkE G b sc N y=true:=by
 replace h:=Xk h;obtain⟨⟨t,x,y⟩,h1,h⟩:=h;obtain⟨p,rfl⟩:=ZlW h1;replace h:=Xh h;obtain⟨h,h5⟩:=h;replace h:=Xh h;obtain⟨h,h4⟩:=h;replace h:=Xh h;obtain⟨h2,h3⟩:=h;exact⟨t,x,y,p,rfl,h2,h3,h4,h5⟩
theorem Zlj{es:IEs}(h:chkE G (.tup es) sc N e=true):∃xs k p,e=.Tuple xs k p/\chkEs G es sc N xs=true:=by
 replace h:=Xk h;obtain⟨xs,h1,h⟩:=h;obtain⟨k,p,rfl⟩:=DU h1;exact⟨xs,k,p,rfl,h⟩
theorem Zlp{es:IEs}(h:chkE G (.lst es) sc N e=true):∃xs p,e=.List xs p/\chkEs G es sc N xs=true:=by
 replace h:=Xk h;obtain⟨xs,h1,h⟩:=h;obtain⟨p,rfl⟩:=Zj5 h1;exact⟨xs,p,rfl,h⟩
theorem Zlt(h:chkE G .dic sc N e=true):∃p,e=.Dict [] [] p:=by
 replace h:=Xk h;obtain⟨⟨ks,vs⟩,h1,h⟩:=h;obtain⟨p,rfl⟩:=Zj8 h1;replace h:=Xh h;obtain⟨h2,h3⟩:=h;cases YB h2;cases YB h3;exact⟨p,rfl⟩
theorem ZnP{a b:IE}(h:chkE G (.ix a b) sc N e=true):∃x y p,e=.Subscript x y p/\chkE G a sc N x=true/\chkE G b sc N y=true/\Ao y=true:=by
 replace h:=Xk h;obtain⟨⟨x,y⟩,h1,h⟩:=h;obtain⟨p,rfl⟩:=DV h1;replace h:=Xh h;obtain⟨h,h4⟩:=h;replace h:=Xh h;obtain⟨h2,h3⟩:=h;exact⟨x,y,p,rfl,h2,h3,h4⟩
theorem ZnM{a:IE}{lo hi:IO}(h:chkE G (.sl a lo hi) sc N e=true):∃x l u p p2,e=.Subscript x (.Slice l u none p2) p/\chkE G a sc N x=true/\chkO G lo sc N l=true/\chkO G hi sc N u=true:=by
 replace h:=Xk h;obtain⟨⟨x,y⟩,h1,h⟩:=h;obtain⟨p,rfl⟩:=DV h1;replace h:=Xk h;obtain⟨⟨l,u,st⟩,h2,h⟩:=h;obtain⟨p2,rfl⟩:=ZlT h2;replace h:=Xh h;obtain⟨h,h6⟩:=h;replace h:=Xh h;obtain⟨h,h5⟩:=h;replace h:=Xh h;obtain⟨h3,h4⟩:=h;cases st with
 |some _=>cases h6
 |none=>exact⟨x,l,u,p,p2,rfl,h3,h4,h5⟩
theorem ZiI{j:Nat}{a:IE}{es:IEs}(h:chkE G (.call j a es) sc N e=true):∃f p x xs p2,e=.Call (.Name f p) (x::xs) [] p2/\G.fns[j]?=some f/\glB sc f=true/\chkE G a sc N x=true/\chkEs G es sc N xs=true:=by
 replace h:=Xk h;obtain⟨⟨f,l,ks,p2⟩,h1,h⟩:=h;obtain rfl:=V2 h1;replace h:=Xk h;obtain⟨g,h2,h⟩:=h;obtain⟨p,rfl⟩:=Za h2;replace h:=Xk h;obtain⟨⟨x,xs⟩,h3,h⟩:=h;obtain rfl:=Vg h3;replace h:=Xh h;obtain⟨h,h8⟩:=h;replace h:=Xh h;obtain⟨h,h7⟩:=h;replace h:=Xh h;obtain⟨h,h6⟩:=h;replace h:=Xh h;obtain⟨h4,h5⟩:=h;obtain rfl:=YB h4;exact⟨g,p,x,xs,p2,rfl,XR h5,h6,h7,h8⟩
theorem ZnR{f:BI}{a:IE}{es:IEs}(h:chkE G (.bi f a es) sc N e=true):∃p x xs p2,e=.Call (.Name (f.name:Str) p) (x::xs) [] p2/\G.bl.contains (f.name:Str)=true/\glB sc (f.name:Str)=true/\chkE G a sc N x=true/\chkEs G es sc N xs=true:=by
 replace h:=Xk h;obtain⟨⟨f',l,ks,p2⟩,h1,h⟩:=h;obtain rfl:=V2 h1;replace h:=Xk h;obtain⟨g,h2,h⟩:=h;obtain⟨p,rfl⟩:=Za h2;replace h:=Xk h;obtain⟨⟨x,xs⟩,h3,h⟩:=h;obtain rfl:=Vg h3;replace h:=Xh h;obtain⟨h,h9⟩:=h;replace h:=Xh h;obtain⟨h,h8⟩:=h;replace h:=Xh h;obtain⟨h,h7⟩:=h;replace h:=Xh h;obtain⟨h,h6⟩:=h;replace h:=Xh h;obtain⟨h4,h5⟩:=h;obtain rfl:=YB h4;obtain rfl:=XR h5;exact⟨p,x,xs,p2,rfl,h6,h7,h8,h9⟩
theorem ZnS{f:B2}{a:IE}(h:chkE G (.b2 f a) sc N e=true):∃p p' x p2 p2',e=.Call (.Name (f.out:Str) p) [.Call (.Name (f.inn:Str) p') [x] [] p2'] [] p2/\G.bl.contains (f.out:Str)=true/\G.bl.contains (f.inn:Str)=true/\glB sc (f.out:Str)=true/\glB sc (f.inn:Str)=true/\chkE G a sc N x=true:=by
 replace h:=Xk h;obtain⟨⟨f',l,ks,p2⟩,h1,h⟩:=h;obtain rfl:=V2 h1;replace h:=Xk h;obtain⟨g,h2,h⟩:=h;obtain⟨p,rfl⟩:=Za h2;replace h:=Xk h;obtain⟨y,h3,h⟩:=h;obtain rfl:=Zg h3;replace h:=Xk h;obtain⟨⟨f'',l',ks',p2'⟩,h4,h⟩:=h;obtain rfl:=V2 h4;replace h:=Xk h;obtain⟨k,h5,h⟩:=h;obtain⟨p',rfl⟩:=Za h5;replace h:=Xk h;obtain⟨x,h6,h⟩:=h;obtain rfl:=Zg h6;simp only[Yp]at h;obtain⟨⟨⟨⟨⟨⟨⟨⟨a1,a2⟩,a3⟩,a4⟩,a5⟩,a6⟩,a7⟩,a8⟩,a9⟩:=h;obtain rfl:=YB a1;obtain rfl:=YB a2;obtain rfl:=XR a3;obtain rfl:=XR a4;exact⟨p,p',x,p2,p2',rfl,a5,a6,a7,a8,a9⟩
theorem Zlo{a:IE}(h:chkE G (.mxd a) sc N e=true):∃p x k0 p0 kp p2,e=.Call (.Name ("max":Str) p) [x] [⟨some ("default":Str),.Constant (.int 0) k0 p0,kp⟩] p2/\G.bl.contains ("max":Str)=true/\glB sc ("max":Str)=true/\chkE G a sc N x=true:=by
 replace h:=Xk h;obtain⟨⟨f',l,ks,p2⟩,h1,h⟩:=h;obtain rfl:=V2 h1;replace h:=Xk h;obtain⟨g,h2,h⟩:=h;obtain⟨p,rfl⟩:=Za h2;replace h:=Xk h;obtain⟨x,h3,h⟩:=h;obtain rfl:=Zg h3;replace h:=Xk h;obtain⟨⟨ka,kv,kp⟩,h4,h⟩:=h;obtain rfl:=Zg h4;simp only[isDf,Yp]at h;obtain⟨⟨⟨⟨a1,a2,a3⟩,a4⟩,a5⟩,a6⟩:=h;obtain rfl:=XR a1;obtain rfl:=XR a2;obtain⟨c,b1,b2⟩:=Xk a3;obtain rfl:=XR b2;obtain⟨k0,p0,rfl⟩:=As b1;exact⟨p,x,k0,p0,kp,p2,rfl,a4,a5,a6⟩
theorem ZnO{m:MT}{o:IE}{es:IEs}(h:chkE G (.mt m o es) sc N e=true):∃ob ap args cp,e=.Call (.Attribute ob (m.name:Str) ap) args [] cp/\(ap.endLine==cp.line)=true/\chkE G o sc N ob=true/\chkEs G es sc N args=true/\args.length<20:=by
 replace h:=Xk h;obtain⟨⟨f',args,ks,cp⟩,h1,h⟩:=h;obtain rfl:=V2 h1;replace h:=Xk h;obtain⟨⟨ob,nm,ap⟩,h2,h⟩:=h;obtain rfl:=Zjc h2;replace h:=Xh h;obtain⟨h,h8⟩:=h;replace h:=Xh h;obtain⟨h,h7⟩:=h;replace h:=Xh h;obtain⟨h,h6⟩:=h;replace h:=Xh h;obtain⟨h,h5⟩:=h;replace h:=Xh h;obtain⟨h3,h4⟩:=h;obtain rfl:=YB h3;obtain rfl:=XR h4;exact⟨ob,ap,args,cp,rfl,h5,h6,h7,XR h8⟩
theorem IJ{own:List Str}{fr:List Nat}{src:ISr}{tg:ITg}{test:IO}{elt:IE}(h:chkE G (.comp own fr src tg test elt) sc N e=true):∃x t it ifs scope p,e=.ListComp x [⟨t,it,ifs,0⟩] scope p/\Wl sc scope N own fr=true/\Ap it=true/\
  (nC own fr N).Nodup/\chkSr G src sc N it=true/\Zh (Ws scope sc) (nC own fr N) own.length false tg t=true/\chkI G test (Ws scope sc) (nC own fr N) ifs=true/\chkE G elt (Ws scope sc) (nC own fr N) x=true:=by
 replace h:=Xk h;obtain⟨⟨x,gs,scope⟩,h1,h⟩:=h;obtain⟨p,rfl⟩:=ZlV h1;replace h:=Xk h;obtain⟨⟨t,it,ifs,k⟩,h2,h⟩:=h;obtain rfl:=Zg h2;replace h:=Xh h;obtain⟨h,h9⟩:=h;replace h:=Xh h;obtain⟨h,h8⟩:=h;replace h:=Xh h;obtain⟨h,h7⟩:=h;replace h:=Xh h;obtain⟨h,h6⟩:=h;replace h:=Xh h;obtain⟨h,h5⟩:=h;replace h:=Xh h;obtain⟨h,h4⟩:=h;replace h:=Xh h;obtain⟨h2,h3⟩:=h;obtain rfl:=XR h9;exact⟨x,t,it,ifs,scope,p,rfl,h2,h3,XR h4,h5,h6,h7,h8⟩
theorem Zfq{ks:List (Option Expr)}{vs:List Expr}(h:At G .nil sc N ks vs=true):ks=[]/\vs=[]:=by
 replace h:=Xh h;exact⟨YB h.1,YB h.2⟩
theorem ZdM{k v:IE}{ps:IPs}{ks:List (Option Expr)}{vs:List Expr}(h:At G (.cons k v ps) sc N ks vs=true):∃x ks' y vs',ks=some x::ks'/\vs=y::vs'/\chkE G k sc N x=true/\chkE G v sc N y=true/\At G ps sc N ks' vs'=true:=by
 replace h:=Xk h;obtain⟨⟨o,ks'⟩,h1,h⟩:=h;replace h:=Xk h;obtain⟨⟨y,vs'⟩,h2,h⟩:=h;replace h:=Xk h;obtain⟨x,h3,h⟩:=h;replace h:=Xh h;obtain⟨h,h6⟩:=h;replace h:=Xh h;obtain⟨h4,h5⟩:=h;dsimp only at h3;subst h3;exact⟨x,ks',y,vs',Vg h1,Vg h2,h4,h5,h6⟩
theorem IK{l:List Expr}(h:chkEs G .nil sc N l=true):l=[]:=by
 exact YB h
theorem IL{a:IE}{es:IEs}{l:List Expr}(h:chkEs G (.cons a es) sc N l=true):∃x xs,l=x::xs/\chkE G a sc N x=true/\chkEs G es sc N xs=true:=by
 replace h:=Xk h;obtain⟨⟨x,xs⟩,h1,h⟩:=h;exact⟨x,xs,Vg h1,Xh h⟩
theorem Zfs{o:Option Expr}(h:chkO G .none sc N o=true):o=none:=by
 cases o with
 |none=>rfl
 |some _=>cases h
theorem Zfr{a:IE}{o:Option Expr}(h:chkO G (.some a) sc N o=true):∃x,o=some x/\chkE G a sc N x=true:=by
 exact Xk h
theorem Zfu{l:List Expr}(h:chkI G .none sc N l=true):l=[]:=by
 exact YB h
theorem Zft{a:IE}{l:List Expr}(h:chkI G (.some a) sc N l=true):∃x,l=[x]/\tok a=true/\chkE G a sc N x=true:=by
 replace h:=Xk h;obtain⟨x,h1,h⟩:=h;exact⟨x,Zg h1,Xh h⟩
theorem Zll{a:IE}(h:chkSr G (.rng a) sc N e=true):∃p x p2,e=.Call (.Name ("range":Str) p) [x] [] p2/\G.bl.contains ("range":Str)=true/\glB sc ("range":Str)=true/\chkE G a sc N x=true:=by
 replace h:=Xk h;obtain⟨⟨f',l,ks,p2⟩,h1,h⟩:=h;obtain rfl:=V2 h1;replace h:=Xk h;obtain⟨g,h2,h⟩:=h;obtain⟨p,rfl⟩:=Za h2;replace h:=Xk h;obtain⟨x,h3,h⟩:=h;obtain rfl:=Zg h3;replace h:=Xh h;obtain⟨h,h8⟩:=h;replace h:=Xh h;obtain⟨h,h7⟩:=h;replace h:=Xh h;obtain⟨h,h6⟩:=h;replace h:=Xh h;obtain⟨h4,h5⟩:=h;obtain rfl:=YB h4;obtain rfl:=XR h5;exact⟨p,x,p2,rfl,h6,h7,h8⟩
theorem ZiH{a b:IE}(h:chkSr G (.rng2 a b) sc N e=true):∃p x y p2,e=.Call (.Name ("range":Str) p) [x,y] [] p2/\G.bl.contains ("range":Str)=true/\glB sc ("range":Str)=true/\chkE G a sc N x=true/\chkE G b sc N y=true:=by
 replace h:=Xk h;obtain⟨⟨f',l,ks,p2⟩,h1,h⟩:=h;obtain rfl:=V2 h1;replace h:=Xk h;obtain⟨g,h2,h⟩:=h;obtain⟨p,rfl⟩:=Za h2;replace h:=Xk h;obtain⟨⟨x,y⟩,h3,h⟩:=h;obtain rfl:=DW h3;replace h:=Xh h;obtain⟨h,h9⟩:=h;replace h:=Xh h;obtain⟨h,h8⟩:=h;replace h:=Xh h;obtain⟨h,h7⟩:=h;replace h:=Xh h;obtain⟨h,h6⟩:=h;replace h:=Xh h;obtain⟨h4,h5⟩:=h;obtain rfl:=YB h4;obtain rfl:=XR h5;exact⟨p,x,y,p2,rfl,h6,h7,h8,h9⟩
theorem ZiG{a b c:IE}(h:chkSr G (.rng3 a b c) sc N e=true):∃p x y z p2,e=.Call (.Name ("range":Str) p) [x,y,z] [] p2/\G.bl.contains ("range":Str)=true/\glB sc ("range":Str)=true/\chkE G a sc N x=true/\chkE G b sc N y=true/\chkE G c sc N z=true:=by
 replace h:=Xk h;obtain⟨⟨f',l,ks,p2⟩,h1,h⟩:=h;obtain rfl:=V2 h1;replace h:=Xk h;obtain⟨g,h2,h⟩:=h;obtain⟨p,rfl⟩:=Za h2;replace h:=Xk h;obtain⟨⟨x,y,z⟩,h3,h⟩:=h;obtain rfl:=Zkf h3;replace h:=Xh h;obtain⟨h,h10⟩:=h;replace h:=Xh h;obtain⟨h,h9⟩:=h;replace h:=Xh h;obtain⟨h,h8⟩:=h;replace h:=Xh h;obtain⟨h,h7⟩:=h;replace h:=Xh h;obtain⟨h,h6⟩:=h;replace h:=Xh h;obtain⟨h4,h5⟩:=h;obtain rfl:=YB h4;obtain rfl:=XR h5;exact⟨p,x,y,z,p2,rfl,h6,h7,h8,h9,h10⟩
theorem DY{lim:Nat}{all:Bool}{i:Nat}(h:Zh sc N lim all (.nm i) e=true):∃x p,e=.Name x p/\N[i]?=some x/\i<lim/\(if all then locB sc x else decide (sc.names.lookup x=some .local))=true:=by
 replace h:=Xk h;obtain⟨x,h1,h⟩:=h;obtain⟨p,rfl⟩:=Za h1;replace h:=Xh h;obtain⟨h,h4⟩:=h;replace h:=Xh h;obtain⟨h2,h3⟩:=h;exact⟨x,p,rfl,XR h2,XR h3,h4⟩
theorem DZ{lim:Nat}{all:Bool}{ts:ITgs}(h:Zh sc N lim all (.tup ts) e=true):∃es k p,e=.Tuple es k p/\chkTgs sc N lim all ts es=true:=by
 replace h:=Xk h;obtain⟨es,h1,h⟩:=h;obtain⟨k,p,rfl⟩:=DU h1;exact⟨es,k,p,rfl,h⟩
theorem ZdL{lim:Nat}{all:Bool}{l:List Expr}(h:chkTgs sc N lim all .nil l=true):l=[]:=by
 exact YB h
theorem IM{lim:Nat}{all:Bool}{t:ITg}{ts:ITgs}{l:List Expr}(h:chkTgs sc N lim all (.cons t ts) l=true):∃x xs,l=x::xs/\Zh sc N lim all t x=true/\chkTgs sc N lim all ts xs=true:=by
 replace h:=Xk h;obtain⟨⟨x,xs⟩,h1,h⟩:=h;exact⟨x,xs,Vg h1,Xh h⟩
end
noncomputable def liT(K:X6)(t:TEm):TT:=λσ H Q=>∃σm M,RS K H σm σ/\RH K M H/\t σm M (λm M'=>∃b,m=.bl b/\∀H',Kp H H'->RH K M' H'->Q b H')
noncomputable def liO(K:X6)(t:Sm->MH->(Option Int->MH->Prop)->Prop):TO:=λσ H Q=>∃σm M,RS K H σm σ/\RH K M H/\t σm M (λo M'=>∀H',Kp H H'->RH K M' H'->Q o H')
section
variable{K:X6}
theorem E1{t:TEm}(m:MonE t){σ:St}{H:Hp}{Q:Bool->Hp->Prop}(h:liT K t σ H Q):liE K t σ H λx H'=>∃c,x=.bl c/\Q c H':=by
 obtain⟨σm,M,rs,rh,h⟩:=h;refine⟨σm,M,rs,rh,m (λx M1 ⟨b,e,h1⟩=>?_) h⟩;subst e;intro v H1 k1 r1 rh1;cases r1;exact⟨b,rfl,h1 H1 k1 rh1⟩
theorem IN{t:TEm}(m:MonE t){σm:Sm}{M:MH}{H H1:Hp}{Q:Bool->Hp->Prop}(k:Kp H H1)(h:t σm M λx M'=>∃b,x=.bl b/\∀H',Kp H H'->RH K M' H'->Q b H'):
  t σm M λx M'=>∃b,x=.bl b/\∀H',Kp H1 H'->RH K M' H'->Q b H':=
 m (λx M' ⟨b,e,q⟩=>⟨b,e,λH' k'=>q H' (k.trans k')⟩) h
theorem Zld{te:TEm}{t:TAm}(me:MonE te)(mt:MonA t){σ:St}{H:Hp}{Q:List V->Hp->Prop}(h:liA K (λσ M Q=>te σ M λv M1=>t σ M1 λvs M2=>Q (v::vs) M2) σ H Q):Aa (liE K te) (liA K t) σ H Q:=by
 obtain⟨σm,M,rs,rh,h⟩:=h;refine⟨σm,M,rs,rh,me (λx M1 h1=>?_) h⟩;intro v H1 k1 r1 rh1;refine⟨σm,M1,rs.mono k1,rh1,mt (λms M2 h2=>?_) h1⟩;intro vs H2 k2 r2 rh2;exact h2 (v::vs) H2 (k1.trans k2) (.cons (r1.mono k2) r2) rh2
end
noncomputable def E2(X:Cx)(H:Hp):Src->It->Prop
 |.tup xs,J=>(∃a vs,H a=some (.tup vs)/\RMs X.K H xs vs/\J=Itt X.K a)\/∃a vs,FrL X.K H a vs/\RMs X.K H xs vs/\J=Itl X.K a
 |.lst a _,J=>J=Itl X.K a
 |.rng lo n,J=>J=Itr lo n
 |.rst lo st n,J=>J=Itrs lo st n
 |.dic a o _,J=>J=Itd a o/\∀o' u',X.H₀ a≠some (.frz o' u')
 |.str x,J=>J=Its x
theorem BT{X:Cx}{H0 H:Hp}{M:MH}{S:Src}{J:It}(s:E2 X H0 S J)(rh:RH X.K M H)(ok:S.okT M):∃H',Thw X H H'/\Kp H H'/\RH X.K (S.thaw M) H':=by
 cases S with
 |tup xs=>exact⟨H,.inl rfl,Kp.refl _,rh⟩
 |lst a xs=>exact⟨H,.inl rfl,Kp.refl _,rh⟩
 |rng a xs=>exact⟨H,.inl rfl,Kp.refl _,rh⟩
 |rst a b xs=>exact⟨H,.inl rfl,Kp.refl _,rh⟩
 |str x=>exact⟨H,.inl rfl,Kp.refl _,rh⟩
 |dic a o kvs=>
  obtain⟨vs,e,r,nd⟩:=rh.fdic ok;have k:=Kp.upd e rfl (.dK vs);exact⟨_,.inr ⟨a,o,.dK vs,e,trivial,s.2,rfl⟩,k,rh.put k (o:=.dic kvs) ⟨r.mono k,nd⟩⟩
theorem IP{M:MH}{S:Src}(ok:S.ok M):S.okT M:=by
 cases S<;>first|trivial|exact ok
theorem IQ{K:X6}{H:Hp}{k:Key}{v:V}:∀{m:List (Key×MV)} {vs:List (Key×V)} {i:Nat},RKs K H m vs->vs[i]?=some (k,v)->∃x,m[i]?=some (k,x)/\RM K H x v
 |_,_,_,.nil,h=>by cases h
 |_,_,0,.cons r _,h=>by cases h;exact⟨_,rfl,r⟩
 |_,_,i+1,.cons _ t,h=>IQ (i:=i) t h
theorem IR{X:Cx}{H0 H:Hp}{M:MH}{S:Src}{J:It}(s:E2 X H0 S J)(k:Kp H0 H)(rh:RH X.K M H)(ok:S.ok M):
  (∀i,i<S.len->J.go i H/\∀x H',J.yld i H x H'->H'=H/\∃m,S.items[i]?=some m/\RM X.K H m x)/\∀i,S.len≤i->J.stop i H:=by
 have seqL:∀{a:Addr} {xs:List MV} {vs:List V},SqL X.K H a vs->RMs X.K H xs vs->(∀i,i<xs.length->(Itl X.K a).go i H/\∀x H',(Itl X.K a).yld i H x H'->H'=H/\∃m,xs[i]?=some m/\RM X.K H m x)/\∀i,xs.length≤i->(Itl X.K a).stop i H:=by
  intro a xs vs hs r;refine⟨λi hi=>⟨⟨vs,_,hs,Xc (by rw[<- r.length];exact hi)⟩,λx H' y=>?_⟩,λi hi=>⟨vs,hs,by rw[<- r.length];exact hi⟩⟩
  exact⟨y.1,r.get' (y.2 vs hs)⟩
 cases S with
 |tup xs=>
  rcases s with⟨a,vs,h,r,rfl⟩|⟨a,vs,h,r,rfl⟩
  ·have h:=SqT.of (K:=X.K) (k _ _ h rfl);have r:=r.mono k;refine⟨λi hi=>⟨⟨vs,_,h,Xc (by rw[<- r.length];exact hi)⟩,λx H' y=>?_⟩,λi hi=>⟨vs,h,by rw[<- r.length];exact hi⟩⟩
   exact⟨y.1,r.get' (y.2 vs h)⟩
  ·refine seqL (FrL.sq ?_) (r.mono k);rcases h with⟨o,h⟩|h
   ·exact .inl ⟨o,k _ _ h rfl⟩
   ·exact .inr h
 |lst a xs=>
  cases s;obtain⟨vs,h,r⟩:=rh.lst ok;exact seqL (SqL.of h) r
 |rng lo n=>
  cases s;refine⟨λi hi=>⟨hi,λx H' y=>⟨y.1,.int (lo+(i:Nat)),?_,?_⟩⟩,λi hi=>hi⟩
  ·show((XX n).map _)[i]?=_;rw[Xq,Xc (by simpa using(show i<n from hi))]
   simp
  ·rw[y.2];exact .int _
 |rst lo st n=>
  cases s;refine⟨λi hi=>⟨hi,λx H' y=>⟨y.1,.int (lo+(i:Nat)*st),?_,?_⟩⟩,λi hi=>hi⟩
  ·show((XX n).map _)[i]?=_;rw[Xq,Xc (by simpa using(show i<n from hi))]
   simp
  ·rw[y.2];exact .int _
 |str z=>
  cases s;refine⟨λi hi=>⟨hi,λx H' y=>?_⟩,λi hi=>hi⟩;obtain⟨e,c,hc,rfl⟩:=y;refine⟨e,.str ⟨#[c]⟩,?_,.str _⟩;show(z.cps.toList.map _)[i]?=_;rw[Xq,G2,hc]
  rfl
 |dic a o kvs=>
  obtain⟨rfl,_⟩:=s;obtain⟨vs,e,r,nd⟩:=rh.fdic ok;refine⟨λi hi=>⟨⟨vs,e,by rw[<- r.length];exact hi⟩,λx H' y=>?_⟩,λi hi=>⟨vs,e,by rw[<- r.length];exact hi⟩⟩
  obtain⟨rfl,y⟩:=y;obtain⟨kk,v,hv,rfl⟩:=y vs e;obtain⟨x,hx,_⟩:=IQ r hv;refine⟨rfl,kM kk,?_,?_⟩
  ·show(kvs.map λp=>kM p.1)[i]?=_;rw[Xq,hx];rfl
  ·cases kk with
   |inl i=>exact .int i
   |inr x=>exact .str x
noncomputable def liSr(X:Cx)(t:TSm):TI:=λσ H R=>∃σm M,RS X.K H σm σ/\RH X.K M H/\t σm M (λS M'=>∀J H',Kp H H'->RH X.K M' H'->E2 X H' S J->R J H')
section
variable{X:Cx}{tg:Expr}
theorem PI.weak{e:Expr}{t t':TI}(h:PI X tg e t)(i:∀σ H R,t' σ H R->t σ H R):PI X tg e t':=λpins s σ H R I q=>h pins s σ H R I (i _ _ _ q)
end
mutual
noncomputable def gOf(K:X6):ITg->TG
 |.nm i=>BC i
 |.tup ts=>gTup K (ITgs.len ts) (gsOf K ts)
noncomputable def gsOf(K:X6):ITgs->TGs
 |.nil=>gNil
 |.cons t ts=>GF (gOf K t) (gsOf K ts)
noncomputable def ITgs.len:ITgs->Nat
 |.nil=>0
 |.cons _ ts=>ts.len+1
end
mutual
theorem sTg{X:Cx}{lim:Nat}{all:Bool}(hc:X.calm=true)(hN:X.N.Nodup)(hf:all=true->∀x,X.fn x=true):∀(t:ITg) {e:Expr},Zh X.env.scope X.N lim all t e=true->PG X e (gOf X.K t)
 |.nm i,e,h=>by
  obtain⟨x,p,rfl,h1,h2,h3⟩:=DY h;cases all with
  |true=>
   rw[if_pos rfl]at h3;exact GE hN h1 (BS h3) (.inl (hf rfl _))
  |false=>
   rw[if_neg XG,decide_eq_true_eq]at h3;exact GE hN h1 (.inl h3) (.inr h3)
 |.tup ts,e,h=>by
  obtain⟨es,k,p,rfl,h⟩:=DZ h;obtain⟨h1,h2,h3⟩:=sTgs hc hN hf ts h;exact Qj hc h1 h2 h3
theorem sTgs{X:Cx}{lim:Nat}{all:Bool}(hc:X.calm=true)(hN:X.N.Nodup)(hf:all=true->∀x,X.fn x=true):∀(t:ITgs) {es:List Expr},chkTgs X.env.scope X.N lim all t es=true->PGs X es (gsOf X.K t)/\(Uv es X.env).length=t.len/\(Uv es X.env).findIdx? (·.1)=none
 |.nil,l,h=>by
  cases ZdL h;rw[gsOf,ITgs.len];exact⟨Qh,rfl,rfl⟩
 |.cons t ts,l,h=>by
  obtain⟨e,es,rfl,ha,hb⟩:=IM h;obtain⟨h1,h2,h3⟩:=sTgs hc hN hf ts hb;have h4:=sTg hc hN hf t ha;have e1:Uv (e::es) X.env=(false,assign e X.env)::Uv es X.env:=by
   cases t with
   |nm i=>obtain⟨x,p,rfl,_⟩:=DY ha;rfl
   |tup ts=>obtain⟨x,k,p,rfl,_⟩:=DZ ha;rfl
  rw[gsOf,ITgs.len];refine⟨Qi h4 h1 (by rw[e1];rfl),by rw[e1,YZ,h2],?_⟩
  rw[e1,List.findIdx?_cons,if_neg XG,h3]
  rfl
end
theorem RMs.len_tgs{K:X6}:∀{ts:ITgs} {xs:List MV} {σ:Sm} {P:Sm->Prop},wTgs ts xs σ P->xs.length=ts.len
 |.nil,xs,σ,P,h=>by rw[h.1,ITgs.len];rfl
 |.cons t ts,xs,σ,P,h=>by
  obtain⟨v,r,rfl,h⟩:=h;rw[YZ,ITgs.len];have aux:∀(t:ITg) {v:MV} {σ:Sm},wTg t v σ (λσ'=>wTgs ts r σ' P)->∃σ',wTgs ts r σ' P:=by
   have both:(∀(t:ITg) {v:MV} {σ:Sm} {P:Sm->Prop},wTg t v σ P->∃σ',P σ')/\(∀(t:ITgs) {v:List MV} {σ:Sm} {P:Sm->Prop},wTgs t v σ P->∃σ',P σ'):=by
    refine⟨λt=>?_,λt=>?_⟩
    ·exact ITg.rec (motive_1:=λt=>∀{v:MV} {σ:Sm} {P:Sm->Prop},wTg t v σ P->∃σ',P σ') (motive_2:=λt=>∀{v:List MV} {σ:Sm} {P:Sm->Prop},wTgs t v σ P->∃σ',P σ')
      (λi v σ P h=>⟨_,h⟩) (λts ih v σ P h=>by obtain⟨xs,_,h⟩:=h;exact ih h)
      (fun{v σ P} h=>⟨_,h.2⟩) (λt ts i1 i2 v σ P h=>by obtain⟨x,r,_,h⟩:=h;obtain⟨σ',h⟩:=i1 h;exact i2 h) t
    ·exact ITgs.rec (motive_1:=λt=>∀{v:MV} {σ:Sm} {P:Sm->Prop},wTg t v σ P->∃σ',P σ') (motive_2:=λt=>∀{v:List MV} {σ:Sm} {P:Sm->Prop},wTgs t v σ P->∃σ',P σ')
      (λi v σ P h=>⟨_,h⟩) (λts ih v σ P h=>by obtain⟨xs,_,h⟩:=h;exact ih h)
      (fun{v σ P} h=>⟨_,h.2⟩) (λt ts i1 i2 v σ P h=>by obtain⟨x,r,_,h⟩:=h;obtain⟨σ',h⟩:=i1 h;exact i2 h) t
   exact λt {v σ} h=>both.1 t h
  obtain⟨σ',h'⟩:=aux t h;rw[RMs.len_tgs (K:=K) h']
mutual
theorem BU{K:X6}{H:Hp}{lim:Nat}{sc:Scope}{N:List Str}{all:Bool}{Ψ:St->Prop}(hΨ:∀σ i v,i<lim->Ψ σ->Ψ (σ.set i (some v))):∀(t:ITg) {e:Expr} {mv:MV} {v:V} {σm:Sm} {σ:St} {P:Sm->Prop} {Q:St->Hp->Prop},Zh sc N lim all t e=true->
  RM K H mv v->RS K H σm σ->Ψ σ->wTg t mv σm P->(∀σm' σ',P σm'->RS K H σm' σ'->Ψ σ'->Q σ' H)->gOf K t v σ H Q
 |.nm i,e,mv,v,σm,σ,P,Q,hc,r,rs,ps,h,hq=>by
  obtain⟨x,p,rfl,_,hl,_⟩:=DY hc;exact hq _ _ h (rs.set r i) (hΨ _ _ _ hl ps)
 |.tup ts,e,mv,v,σm,σ,P,Q,hc,r,rs,ps,h,hq=>by
  obtain⟨es,k,p,rfl,hc⟩:=DZ hc;obtain⟨xs,rfl,h⟩:=h;cases r with
  |tup h1 q1=>
   exact⟨_,_,rfl,SqT.of h1,by rw[<- q1.length];exact RMs.len_tgs (K:=K) h,tgs_ok hΨ ts hc q1 rs ps h hq⟩
theorem tgs_ok{K:X6}{H:Hp}{lim:Nat}{sc:Scope}{N:List Str}{all:Bool}{Ψ:St->Prop}(hΨ:∀σ i v,i<lim->Ψ σ->Ψ (σ.set i (some v))):∀(t:ITgs) {es:List Expr} {mvs:List MV} {vs:List V} {σm:Sm} {σ:St} {P:Sm->Prop} {Q:St->Hp->Prop},chkTgs sc N lim all t es=true->
  RMs K H mvs vs->RS K H σm σ->Ψ σ->wTgs t mvs σm P->(∀σm' σ',P σm'->RS K H σm' σ'->Ψ σ'->Q σ' H)->gsOf K t vs σ H Q
 |.nil,es,mvs,vs,σm,σ,P,Q,hc,r,rs,ps,h,hq=>by
  obtain⟨rfl,h⟩:=h;cases r;rw[gsOf];exact⟨rfl,hq _ _ h rs ps⟩
 |.cons t ts,es,mvs,vs,σm,σ,P,Q,hc,r,rs,ps,h,hq=>by
  obtain⟨e,es,rfl,hc1,hc2⟩:=IM hc;obtain⟨x,rr,rfl,h⟩:=h;cases r with
  |cons r1 r2=>
   rw[gsOf];exact⟨_,_,rfl,BU hΨ t hc1 r1 rs ps h λσm' σ' h' rs' ps'=>tgs_ok hΨ ts hc2 r2 rs' ps' h' hq⟩
end
theorem Zos{K:X6}{H:Hp}{own:List Str}{fr:List Nat}{σm:Sm}{σ:St}(rs:RS K H σm σ):RS K H (sCm own fr σm) (sC own fr σ):=by
 refine⟨by simp[sCm,sC],λi m e=>?_⟩
 unfold sCm at e;unfold sC;by_cases hi:i<own.length
 ·rw[Uy (by simpa using hi),Xq]at e
  cases q:own[i]? with
  |none=>rw[q]at e;cases e
  |some z=>rw[q]at e;cases e
 ·rw[Ug (by simpa using hi),X7,Xq]at e
  rw[Ug (by simpa using hi),X7,Xq]
  cases q:fr[i - own.length]? with
  |none=>rw[q]at e;cases e
  |some j=>
   rw[q]at e;have e':σm.getD j none=some m:=Yq e;have e2:σm[j]?=some (some m):=by
    rw[Yc]at e';cases q2:σm[j]? with
    |none=>rw[q2]at e';cases e'
    |some o=>rw[q2]at e';rw[show o=some m from e']
   obtain⟨v,hv,r⟩:=rs.2 j m e2;refine⟨v,?_,r⟩;show some (σ.getD j none)=_;rw[Yc,hv]
   rfl
theorem ZiE{own:List Str}{fr:List Nat}{σ σ':St}{i:Nat}{v:V}(hi:i<own.length)(k:Keep (sC own fr σ) σ'):Keep (sC own fr σ) (σ'.set i (some v)):=by
 refine⟨by rw[Vq];exact k.1,λj w h=>?_⟩
 by_cases hij:i=j
 ·subst hij;exfalso;unfold sC at h;rw[Uy (by simpa using hi),Xq]at h
  cases q:own[i]? with
  |none=>rw[q]at h;cases h
  |some z=>rw[q]at h;cases h
 ·rw[WV,if_neg hij];exact k.2 j w h
theorem Zii{y:Expr}(h:Ao y=true):Hb y:=by
 intro o i;cases y<;>first|rfl|cases h
theorem E3{it:Expr}(h:Ap it=true)(env:Env):∀x,AY it env x=pure x:=by
 intro x;cases it<;>first|rfl|cases h
theorem Cok.comp{X:Cx}{G:GI}{Φ:List (Str×SpM)}(c:Cok X G Φ){scope:Scope}{own:List Str}{fr:List Nat}{C:Addr}{fp:List Addr}{s₃:X1}{H₃:Hp}(hk:scope.kind=.function)(nd:(nC own fr X.N).Nodup):Cok (cxC X scope own fr C fp s₃ H₃) G Φ:=
 ⟨c.room,c.calm,rfl,(by show(if scope.kind.isAnnotationScope then Gs else scope.kind)=.function;rw[hk];rfl),nd,c.bls,c.gls,c.fnn,c.mon,c.fns,c.mts,c.mks,c.cls⟩
noncomputable def ttOf(K:X6)(Φ:List (Str×SpM)):IO->TT
 |.none=>tAll
 |.some e=>liT K (wE Φ e)
theorem IT{X:Cx}{Φ:List (Str×SpM)}(hΦ:∀(j:Nat) f sp,Φ[j]?=some (f,sp)->MonW sp) {own:List Str} {fr:List Nat} {src:ISr} {tg:ITg} {test:IO} {elt:IE} {sc:Scope} {N:List Str} {t:Expr}
  (h5:Zh sc N own.length false tg t=true) {σ:St} {H:Hp} {Q:VK} (hw:liE X.K (wE Φ (.comp own fr src tg test elt)) σ H Q):DX own fr (liSr X (wSr Φ src)) (gOf X.K tg) (ttOf X.K Φ test) (liE X.K (wE Φ elt)) σ H (λv H'=>∃H2,Thw X H' H2/\Q v H2):=by
 obtain⟨σm,M,rs,rh,hw⟩:=hw;refine⟨σm,M,rs,rh,mon_sr hΦ src (λS M1 ⟨hz,q⟩=>?_) hw⟩;intro J H1 k1 rh1 sit D hD;obtain⟨Jm,j0,j1,j2,j3⟩:=q D (rh1.free hD);refine⟨λi m ys H2=>m=S.len - i/\i≤S.len/\Kp H1 H2/\∃mys M2,RH X.K M2 H2/\Jm i mys M2,⟨S.len,rfl,YD _,Kp.new hD _,[],_,rh1.put (Kp.new hD (.lst [])) (o:=.lst []) RMs.nil,j0⟩,?_⟩;rintro i m ys H2 ⟨rfl,hi,k2,mys,M2,rh2,hj⟩;obtain⟨d1,d2,d3⟩:=j1 i mys M2 hj;obtain⟨goes,stops⟩:=IR sit k2 rh2 d3;by_cases hlt:i<S.len
 ·obtain⟨go,yld⟩:=goes i hlt;refine .inr ⟨go,λys' H'=>Kp H1 H'/\∃mys M',RH X.K M' H'/\Jm (i+1) mys M',λys' H' ⟨a,mys',M',b,c⟩=>⟨S.len - (i+1),by lia,rfl,hlt,a,mys',M',b,c⟩,λx H3 y=>?_⟩
  obtain⟨e3,m,hm,rm⟩:=yld x H3 y;subst e3;have ht:=j2 i m mys M2 hm hj;refine BU (Ψ:=Keep (sC own fr σ)) (lim:=own.length) (λσ' i v hi k=>ZiE hi k) tg h5 rm (Zos (rs.mono (k1.trans k2))) ⟨rfl,λ_ _ h=>h⟩ ht λσm' σ' hP rs' keep=>⟨keep,?_⟩;have eltp:∀{M4:MH} {H5:Hp},Kp H3 H5->RH X.K M4 H5->(wE Φ elt σm' M4 λy M5=>M5 D=some (.lst mys)/\Jm (i+1) (mys++[y]) (updM M5 D (.lst (mys++[y]))))->
    liE X.K (wE Φ elt) σ' H5 λy H6=>∃zs,H6 D=some (.lst zs)/\zs.length<sizeLine/\Kp H1 (upd H6 D (.lst (zs++[y])))/\∃mys M',RH X.K M' (upd H6 D (.lst (zs++[y])))/\Jm (i+1) mys M':=fun{M4 H5} k5 rh5 q=>by
   refine⟨σm',M4,rs'.mono k5,rh5,Xd hΦ elt (λy M5 ⟨hd,hj'⟩=>?_) q⟩;intro v H6 k6 r6 rh6;obtain⟨zs,e,rz⟩:=rh6.lst hd;have ku:=Kp.upd e rfl (.lst (zs++[v]));exact⟨zs,e,by rw[<- rz.length];lia,k2.trans (k5.trans (k6.trans ku)),_,_,rh6.put ku (o:=.lst (mys++[y])) ((rz.append (.cons r6 .nil)).mono ku),hj'⟩
  cases test with
  |none=>
   rw[wI]at hP;rw[if_pos rfl]at hP;rw[ttOf];refine RW ?_;dsimp only;rw[if_pos rfl];exact eltp (Kp.refl _) rh2 hP
  |some e=>
   refine⟨σm',M2,rs',rh2,Xd hΦ e (λv M4 ⟨b,eb,q⟩=>⟨b,eb,λH5 k5 rh5=>Z1 (λq=>eltp k5 rh5 q) (λq=>⟨k2.trans k5,_,_,rh5,q⟩) q⟩) hP⟩
 ·refine .inl ⟨stops i (by lia),?_⟩
  have e:i=S.len:=by lia
  subst e;obtain⟨H',th,k3,rh3⟩:=BT sit rh2 (IP d3);exact⟨H',th,j3 mys M2 hj _ _ (k1.trans (k2.trans k3)) (.ref D) rh3⟩
theorem IU{K:X6}{Φ:List (Str×SpM)}(hΦ:∀(j:Nat) f sp,Φ[j]?=some (f,sp)->MonW sp) {op op':Yw} {a b d:IE} {σ:St} {H:Hp} {Q:VK} (hw:liE K (wE Φ (.chn op op' a b d)) σ H Q):
  Dt (li2 K (wCmp op)) (li2 K (wCmp op')) (liE K (wE Φ a)) (liE K (wE Φ b)) (liE K (wE Φ d)) σ H Q:=by
 obtain⟨σm,M,rs,rh,hw⟩:=hw;rw[Iz]at hw;refine⟨σm,M,rs,rh,Xd hΦ a (λx M1 q1=>?_) hw⟩;intro v H1 k1 r1 rh1;refine⟨σm,M1,rs.mono k1,rh1,Xd hΦ b (λy M2 q2=>?_) q1⟩;intro u H2 k2 r2 rh2;refine⟨x,y,M2,r1.mono k2,r2,rh2,Wp op (λz M3 ⟨k,e,q3⟩=>?_) q2⟩;subst e;intro z H3 k3 r3 rh3;cases r3;refine⟨k,rfl,Z1 (λq=>?_) (λq=>?_) q3⟩
 ·refine⟨σm,M3,rs.mono (k1.trans (k2.trans k3)),rh3,Xd hΦ d (λw M4 q4=>?_) q⟩;intro w' H4 k4 r4 rh4;exact⟨y,w,M4,r2.mono (k3.trans k4),r4,rh4,Wp op' (λm M' hq=>hq.on (k1.trans (k2.trans (k3.trans k4)))) q4⟩
 ·exact q _ _ (k1.trans (k2.trans k3)) (.bl _) rh3
noncomputable def trOf(K:X6)(Φ:List (Str×SpM)):IPs->List (TE×TE)
 |.nil=>[]
 |.cons k v r=>(liE K (wE Φ k),liE K (wE Φ v))::trOf K Φ r
noncomputable def aob:IE->Bool
 |.and ..=>true
 |.or ..=>true
 |_=>false
structure Snd (X:Cx) (Φ:List (Str×SpM)) (ie:IE) (e:Expr):Prop where
 pe:PE X e (liE X.K (wE Φ ie))
 pt:tok ie=true->PT X e (liT X.K (wE Φ ie))
 pw:tok ie=true->aob ie=true->PW X e (liT X.K (wE Φ ie))
theorem Snd.plain{X:Cx}{G:GI}{Φ:List (Str×SpM)}{ie:IE}{e:Expr}(c:Cok X G Φ)(pe:PE X e (liE X.K (wE Φ ie)))(he:∀whole,isTrue e X.env whole=(do let v<- whole;standAt e.pos;Uu [v] (truthy v)))(na:aob ie=false):Snd X Φ ie e:=
 ⟨pe,λ_=>(Q2 pe he).weak λσ H Q h=>E1 (t:=wE Φ ie) (Xd c.mon ie) h,λ_ h=>by rw[na]at h;cases h⟩
mutual
theorem sE{G:GI}{Φ:List (Str×SpM)}:∀(ie:IE) {X:Cx} {e:Expr},Cok X G Φ->chkE G ie X.env.scope X.N e=true->Snd X Φ ie e
 |.var i,X,e,c,h=>by
  obtain⟨x,p,rfl,h1,h2,h3,h4⟩:=Zli h;refine .plain c ?_ (λ_=>rfl) rfl;refine(GA h1 (Zmc h2) h3 h4).weak λσ H Q hw=>?_;obtain⟨σm,M,rs,rh,hw⟩:=hw;rw[Iy]at hw;obtain⟨v,e,q⟩:=hw;obtain⟨u,hu,r⟩:=rs.2 i v e;exact⟨u,hu,q _ _ (Kp.refl _) r rh⟩
 |.int i,X,e,c,h=>by
  obtain⟨k,p,rfl⟩:=Zlq h;refine .plain c ?_ (λ_=>rfl) rfl;refine pe_int.weak λσ H Q hw=>?_;obtain⟨σm,M,rs,rh,hw⟩:=hw;exact hw _ _ (Kp.refl _) (.int i) rh
 |.str i,X,e,c,h=>by
  obtain⟨k,p,rfl⟩:=Zlk h;refine .plain c ?_ (λ_=>rfl) rfl;refine pe_str.weak λσ H Q hw=>?_;obtain⟨σm,M,rs,rh,hw⟩:=hw;exact hw _ _ (Kp.refl _) (.str i) rh
 |.bl i,X,e,c,h=>by
  obtain⟨k,p,rfl⟩:=ZnQ h;refine .plain c ?_ (λ_=>rfl) rfl;refine pe_bl.weak λσ H Q hw=>?_;obtain⟨σm,M,rs,rh,hw⟩:=hw;exact hw _ _ (Kp.refl _) (.bl i) rh
 |.non,X,e,c,h=>by
  obtain⟨k,p,rfl⟩:=Zln h;refine .plain c ?_ (λ_=>rfl) rfl;refine pe_non.weak λσ H Q hw=>?_;obtain⟨σm,M,rs,rh,hw⟩:=hw;exact hw _ _ (Kp.refl _) .non rh
 |.glb x i,X,e,c,h=>by
  obtain⟨p,rfl,h1,h2⟩:=Zls h;obtain⟨g1,g2,g3⟩:=UO h2;obtain⟨tk,hm⟩:=c.gls x i h1;refine .plain c ?_ (λ_=>rfl) rfl;refine(Q0 (v:=.int i) g1 hm ⟨tk,rfl⟩ g2).weak λσ H Q hw=>?_;obtain⟨σm,M,rs,rh,hw⟩:=hw;exact hw _ _ (Kp.refl _) (.int i) rh
 |.ty t,X,e,c,h=>by
  obtain⟨p,rfl,h0,h1,h2⟩:=ZnL h;obtain⟨g1,g2,g3⟩:=UO h2;refine .plain c ?_ (λ_=>rfl) rfl;refine(Q1 (v:=.ty t.name) g1 (c.bls _ h1) (ZlQ h0) rfl g3 g2).weak λσ H Q hw=>?_;obtain⟨σm,M,rs,rh,hw⟩:=hw;exact hw _ _ (Kp.refl _) (.ty t) rh
 |.bin op a b,X,e,c,h=>by
  obtain⟨l,r,p,rfl,h1,h2⟩:=Zlw h;refine .plain c ?_ (λ_=>rfl) rfl;refine(Qu (TB op) (sE a c h1).pe (sE b c h2).pe).weak λσ H Q hw=>?_;have:wE Φ (.bin op a b)=λσ M Q=>wE Φ a σ M λx M1=>wE Φ b σ M1 λy M2=>wBin op x y M2 Q:=rfl;rw[this]at hw;exact DH (ta:=wE Φ a) (tb:=wE Φ b) (w:=wBin op) (Xd c.mon a) (Xd c.mon b) (HV op) hw
 |.neg a,X,e,c,h=>absurd h XG
 |.not a,X,e,c,h=>by
  obtain⟨l,p,rfl,h1⟩:=Zlm h;have ih:=sE a c h1;refine⟨(Q8 ih.pe).weak λσ H Q hw=>?_,λht=>(Q3 (ih.pt ht)).weak λσ H Q hw=>?_,λ_ z=>by cases z⟩
  ·obtain⟨σm,M,rs,rh,hw⟩:=hw;rw[DO]at hw;refine⟨σm,M,rs,rh,Xd c.mon a (λx M1 ⟨i,e,q⟩=>?_) hw⟩;subst e;intro v H1 k1 r1 rh1;cases r1;exact⟨i,rfl,q _ _ k1 (.bl _) rh1⟩
  ·obtain⟨σm,M,rs,rh,hw⟩:=hw;rw[DO]at hw;refine⟨σm,M,rs,rh,Xd c.mon a (λx M1 ⟨i,e,b,e2,q⟩=>⟨i,e,λH' k rh'=>?_⟩) hw⟩;cases e2;exact q H' k rh'
 |.cmp op a b,X,e,c,h=>by
  obtain⟨l,r,p,rfl,h1,h2,h3⟩:=Zlu h;have rd:∀σ H Q,liE X.K (wE Φ (.cmp op a b)) σ H Q->tOp (li2 X.K (wCmp op)) (liE X.K (wE Φ a)) (liE X.K (wE Φ b)) σ H Q:=λσ H Q hw=>by
   have:wE Φ (.cmp op a b)=λσ M Q=>wE Φ a σ M λx M1=>wE Φ b σ M1 λy M2=>wCmp op x y M2 Q:=rfl;rw[this]at hw;exact DH (ta:=wE Φ a) (tb:=wE Φ b) (w:=wCmp op) (Xd c.mon a) (Xd c.mon b) (Wp op) hw
  refine⟨(QI (Wq c.room op) (sE a c h1).pe (sE b c h2).pe h3).weak rd,λ_=>(QJ (Wq c.room op) (sE a c h1).pe (sE b c h2).pe h3).weak λσ H Q hw=>?_,λ_ z=>by cases z⟩
  exact rd σ H _ (E1 (t:=wE Φ (.cmp op a b)) (Xd c.mon _) hw)
 |.chn op op' a b d,X,e,c,h=>by
  obtain⟨l,m,r,p,rfl,h1,h2,h3,h4⟩:=Zlv h;refine⟨(QK (Wq c.room op) (Wq c.room op') (sE a c h1).pe (sE b c h2).pe (sE d c h3).pe h4).weak λσ H Q hw=>IU c.mon hw,
   λ_=>(QL (Wq c.room op) (Wq c.room op') (sE a c h1).pe (sE b c h2).pe (sE d c h3).pe h4).weak λσ H Q hw=>?_,λ_ z=>by cases z⟩
  exact IU c.mon (E1 (t:=wE Φ (.chn op op' a b d)) (Xd c.mon _) hw)
 |.and a b,X,e,c,h=>by
  obtain⟨l,r,rest,p,rfl,h1,h2⟩:=Zlx h;have ih:=sE a c h1;have hb:PE X (.BoolOp .And (r::rest) p) (liE X.K (wE Φ b)):=by
   rcases h2 with⟨rfl,h2⟩|h2
   ·exact GD (sE b c h2).pe
   ·exact(sE b c h2).pe
  have hw':tok (.and a b)=true->PW X (.BoolOp .And (l::r::rest) p) (liT X.K (wE Φ (.and a b))):=λht=>by
   have ht:(tok a&&tok b)=true:=ht;rw[Yp]at ht;have hb2:PW X (.BoolOp .And (r::rest) p) (liT X.K (wE Φ b)):=by
    rcases h2 with⟨rfl,h2⟩|h2
    ·exact pw_and1 ((sE b c h2).pt ht.2)
    ·refine(sE b c h2).pw ht.2 ?_;cases b<;>first|rfl|exact absurd h2 XG
   refine(pw_and (ih.pt ht.1) hb2).weak λσ H Q hw=>?_;obtain⟨σm,M,rs,rh,hw⟩:=hw;rw[DP]at hw;refine⟨σm,M,rs,rh,Xd c.mon a (λx M1 ⟨k,e,q⟩=>⟨k,e,λH1 k1 rh1=>?_⟩) hw⟩;refine Z1 (λq=>⟨σm,M1,rs.mono k1,rh1,IN (t:=wE Φ b) (Xd c.mon b) k1 q⟩) (λq=>let⟨b,e,q⟩:=q;MV.noConfusion e λeb=>eb▸q H1 k1 rh1) q
  refine⟨(Q6 ih.pe hb).weak λσ H Q hw=>?_,λht=>(hw' ht).pt,λht _=>hw' ht⟩;obtain⟨σm,M,rs,rh,hw⟩:=hw;rw[DP]at hw;refine⟨σm,M,rs,rh,Xd c.mon a (λx M1 ⟨k,e,q⟩=>?_) hw⟩;subst e;intro v H1 k1 r1 rh1;cases r1;refine⟨k,rfl,Z1 (λq=>⟨σm,M1,rs.mono k1,rh1,Xd c.mon b (λm M' hq=>hq.on k1) q⟩) (λq=>q _ _ k1 (.bl _) rh1) q⟩
 |.or a b,X,e,c,h=>by
  obtain⟨l,r,rest,p,rfl,h1,h2⟩:=ZnN h;have ih:=sE a c h1;have hb:PE X (.BoolOp .Or (r::rest) p) (liE X.K (wE Φ b)):=by
   rcases h2 with⟨rfl,h2⟩|h2
   ·exact GD (sE b c h2).pe
   ·exact(sE b c h2).pe
  have hw':tok (.or a b)=true->PW X (.BoolOp .Or (l::r::rest) p) (liT X.K (wE Φ (.or a b))):=λht=>by
   have ht:(tok a&&tok b)=true:=ht;rw[Yp]at ht;have hb2:PW X (.BoolOp .Or (r::rest) p) (liT X.K (wE Φ b)):=by
    rcases h2 with⟨rfl,h2⟩|h2
    ·exact pw_or1 ((sE b c h2).pt ht.2)
    ·refine(sE b c h2).pw ht.2 ?_;cases b<;>first|rfl|exact absurd h2 XG
   refine(pw_or (ih.pt ht.1) hb2).weak λσ H Q hw=>?_;obtain⟨σm,M,rs,rh,hw⟩:=hw;rw[x_or]at hw;refine⟨σm,M,rs,rh,Xd c.mon a (λx M1 ⟨k,e,q⟩=>⟨k,e,λH1 k1 rh1=>?_⟩) hw⟩;refine Z1 (λq=>let⟨b,e,q⟩:=q;MV.noConfusion e λeb=>eb▸q H1 k1 rh1) (λq=>⟨σm,M1,rs.mono k1,rh1,IN (t:=wE Φ b) (Xd c.mon b) k1 q⟩) q
  refine⟨(Q7 ih.pe hb).weak λσ H Q hw=>?_,λht=>(hw' ht).pt,λht _=>hw' ht⟩;obtain⟨σm,M,rs,rh,hw⟩:=hw;rw[x_or]at hw;refine⟨σm,M,rs,rh,Xd c.mon a (λx M1 ⟨k,e,q⟩=>?_) hw⟩;subst e;intro v H1 k1 r1 rh1;cases r1;refine⟨k,rfl,Z1 (λq=>q _ _ k1 (.bl _) rh1) (λq=>⟨σm,M1,rs.mono k1,rh1,Xd c.mon b (λm M' hq=>hq.on k1) q⟩) q⟩
 |.ife d a b,X,e,c,h=>by
  obtain⟨t,x,y,p,rfl,h0,h1,h2,h3⟩:=Zlr h;refine⟨(Q9 ((sE d c h1).pt h0) (sE a c h2).pe (sE b c h3).pe).weak λσ H Q hw=>?_,λz=>(by cases z),λz _=>(by cases z)⟩
  obtain⟨σm,M,rs,rh,hw⟩:=hw;rw[IA]at hw;refine⟨σm,M,rs,rh,Xd c.mon d (λx M1 ⟨k,e,q⟩=>⟨k,e,λH1 k1 rh1=>?_⟩) hw⟩;exact Z1 (λq=>⟨σm,M1,rs.mono k1,rh1,Xd c.mon a (λm M' hq=>hq.on k1) q⟩) (λq=>⟨σm,M1,rs.mono k1,rh1,Xd c.mon b (λm M' hq=>hq.on k1) q⟩) q
 |.tup es,X,e,c,h=>by
  obtain⟨xs,k,p,rfl,h1⟩:=Zlj h;refine .plain c ?_ (λ_=>rfl) rfl;refine(QT (sA es c h1)).weak λσ H Q hw=>?_;obtain⟨σm,M,rs,rh,hw⟩:=hw;refine⟨σm,M,rs,rh,mon_es c.mon es (λms M1 ⟨hz,q⟩=>?_) hw⟩;intro vs H1 k1 r1 rh1;refine⟨by rw[<- r1.length];exact hz,λp hp=>?_⟩
  have k2:=Kp.new hp (.tup vs);exact q _ _ (k1.trans k2) (.tup UG (r1.mono k2)) (rh1.kept hp _)
 |.lst es,X,e,c,h=>by
  obtain⟨xs,p,rfl,h1⟩:=Zlp h;refine .plain c ?_ (λ_=>rfl) rfl;refine(QU (sA es c h1)).weak λσ H Q hw=>?_;obtain⟨σm,M,rs,rh,hw⟩:=hw;refine⟨σm,M,rs,rh,mon_es c.mon es (λms M1 ⟨hz,q⟩=>?_) hw⟩;intro vs H1 k1 r1 rh1;refine⟨by rw[<- r1.length];exact hz,λp hp=>?_⟩
  have k2:=Kp.new hp (.lst vs);exact q p (rh1.free hp) _ _ (k1.trans k2) (.ref p) (rh1.put k2 (r1.mono k2))
 |.dic,X,e,c,h=>by
  obtain⟨p,rfl⟩:=Zlt h;refine .plain c ?_ (λ_=>rfl) rfl;refine pe_dnewK.weak λσ H Q hw=>?_;obtain⟨σm,M,rs,rh,hw⟩:=hw;intro p hp;have k2:=Kp.new hp (.dK []);exact hw p (rh.free hp) _ _ k2 (.ref p) (rh.put k2 ⟨.nil,D0⟩)
 |.ix a b,X,e,c,h=>by
  obtain⟨l,r,p,rfl,h1,h2,h3⟩:=ZnP h;refine .plain c ?_ (λ_=>rfl) rfl;refine(Rg (TF (by have:=c.room;lia)) (sE a c h1).pe (sE b c h2).pe (Zii h3)).weak λσ H Q hw=>?_
  have:wE Φ (.ix a b)=λσ M Q=>wE Φ a σ M λx M1=>wE Φ b σ M1 λy M2=>wIx x y M2 Q:=rfl;rw[this]at hw;exact DH (ta:=wE Φ a) (tb:=wE Φ b) (w:=wIx) (Xd c.mon a) (Xd c.mon b) Ij hw
 |.sl a lo hi,X,e,c,h=>by
  obtain⟨x,l,u,p,p2,rfl,h1,h2,h3⟩:=ZnM h;refine .plain c ?_ (λ_=>rfl) rfl;refine(Re TH (sE a c h1).pe (sO lo c h2) (sO hi c h3)).weak λσ H Q hw=>?_;obtain⟨σm,M,rs,rh,hw⟩:=hw;refine⟨σm,M,rs,rh,Xd c.mon a (λx M1 q1=>?_) hw⟩;intro v H1 k1 r1 rh1;refine⟨σm,M1,rs.mono k1,rh1,mon_o c.mon lo (λl M2 q2=>?_) q1⟩;intro H2 k2 rh2;refine⟨σm,M2,rs.mono (k1.trans k2),rh2,mon_o c.mon hi (λu M3 q3=>?_) q2⟩;intro H3 k3 rh3;exact⟨x,M3,r1.mono (k2.trans k3),rh3,Il (λm M' hq=>hq.on (k1.trans (k2.trans k3))) q3⟩
 |.call j a es,X,e,c,h=>by
  obtain⟨f,p,x,xs,p2,rfl,h1,h2,h3,h4⟩:=ZiI h;obtain⟨g1,g2,g3⟩:=UO h2;obtain⟨sp,hj⟩:=c.fnn j f h1;obtain⟨k,fa,fd,ps,hr,F,hm,hk,hb⟩:=c.fns j f sp h1 hj;have ha:PA X (x::xs) (Aa (liE X.K (wE Φ a)) (liA X.K (wEs Φ es))):=UH (sE a c h3).pe (sA es c h4) (XY h3);refine .plain c ?_ (λ_=>rfl) rfl;refine(QX (E:=E0) F hr g1 hm hk hb .nil RN ha g2 (XY h3) (Au (Wt (pos:=p2) h4)).2).weak λσ H Q hw=>?_;obtain⟨σm,M,rs,rh,hw⟩:=hw;rw[IB]at hw;refine⟨σm,M,rs,rh,Xd c.mon a (λv M1 q1=>?_) hw⟩;intro u H1 k1 r1 rh1;refine⟨σm,M1,rs.mono k1,rh1,mon_es c.mon es (λvs M2 ⟨f',sp',e,q2⟩=>?_) q1⟩;rw[hj]at e;cases e;intro us H2 k2 r2 rh2;refine⟨v::vs,M2,?_,rh2,c.mon j f sp hj (λm M' hq=>hq.on (k1.trans k2)) q2⟩;rw[Bc];exact .cons (r1.mono k2) r2
 |.bi f a es,X,e,c,h=>by
  obtain⟨p,x,xs,p2,rfl,h1,h2,h3,h4⟩:=ZnR h;obtain⟨g1,g2,g3⟩:=UO h2;have ha:PA X (x::xs) (Aa (liE X.K (wE Φ a)) (liA X.K (wEs Φ es))):=UH (sE a c h3).pe (sA es c h4) (XY h3);have hv:=ZlR f;have hcall:=TL (X:=X) c.calm f;have hp:PE X (.Call (.Name (f.name:Str) p) (x::xs) [] p2) (tCB (liW X.K (wBi f)) (Aa (liE X.K (wE Φ a)) (liA X.K (wEs Φ es)))):=by
   cases hf:f.val<;>rw[hf]at hv hcall<;>first
    |exact R0 hcall g1 (c.bls _ h1) hv ha g3 g2 (XY h3) (Au (Wt (pos:=p2) h4)).2
    |exact R1 hcall g1 (c.bls _ h1) hv ha g3 g2 (XY h3) (Au (Wt (pos:=p2) h4)).2
    |(cases f<;>cases hf)
  refine .plain c ?_ (λ_=>rfl) rfl;refine hp.weak λσ H Q hw=>?_;obtain⟨σm,M,rs,rh,hw⟩:=hw;refine⟨σm,M,rs,rh,Xd c.mon a (λv M1 q1=>?_) hw⟩;intro u H1 k1 r1 rh1;refine⟨σm,M1,rs.mono k1,rh1,mon_es c.mon es (λvs M2 q2=>?_) q1⟩;intro us H2 k2 r2 rh2;exact⟨v::vs,M2,.cons (r1.mono k2) r2,rh2,Io f (λm M' hq=>hq.on (k1.trans k2)) q2⟩
 |.b2 f a,X,e,c,h=>by
  obtain⟨p,p',x,p2,p2',rfl,h1,h2,h3,h4,h5⟩:=ZnS h;obtain⟨g1,g2,g3⟩:=UO h3;obtain⟨k1,k2,k3⟩:=UO h4;have hv:YE (f.out:Str)=some f.outV:=by cases f<;>decide+kernel
  have hv':YE (f.inn:Str)=some (.type f.inn):=by cases f<;>decide+kernel
  have hp:PE X (.Call (.Name (f.out:Str) p) [.Call (.Name (f.inn:Str) p') [x] [] p2'] [] p2) (λσ H Q=>liE X.K (wE Φ a) σ H λv H1=>li1 X.K (wB2 f) v H1 Q):=by
   have hc:=TN (X:=X) c.calm f;cases f with
   |lrng=>exact To (p:=p) (p':=p') (pos:=p2) (pos':=p2') hc g1 (c.bls _ h1) hv k1 (c.bls _ h2) hv' (sE a c h5).pe g3 g2 k3 k2 (XY h5)
   |ssrt=>exact HL (p:=p) (p':=p') (pos:=p2) (pos':=p2') hc g1 (c.bls _ h1) hv k1 (c.bls _ h2) hv' (sE a c h5).pe g3 g2 k3 k2 (XY h5)
   |lset=>exact HL (p:=p) (p':=p') (pos:=p2) (pos':=p2') hc g1 (c.bls _ h1) hv k1 (c.bls _ h2) hv' (sE a c h5).pe g3 g2 k3 k2 (XY h5)
  refine .plain c ?_ (λ_=>rfl) rfl;refine hp.weak λσ H Q hw=>?_;obtain⟨σm,M,rs,rh,hw⟩:=hw;refine⟨σm,M,rs,rh,Xd c.mon a (λv M1 q1=>?_) hw⟩;intro u H1 k1 r1 rh1;exact⟨v,M1,r1,rh1,Iq f (λm M' hq=>hq.on k1) q1⟩
 |.mxd a,X,e,c,h=>by
  obtain⟨p,x,k0,p0,kp,p2,rfl,h1,h2,h3⟩:=Zlo h;obtain⟨g1,g2,g3⟩:=UO h2;refine .plain c ?_ (λ_=>rfl) rfl;refine(Tz c.calm g1 (c.bls _ h1) (sE a c h3).pe pe_int (XY h3)).weak λσ H Q hw=>?_;obtain⟨σm,M,rs,rh,hw⟩:=hw;refine⟨σm,M,rs,rh,Xd c.mon a (λv M1 q1=>?_) hw⟩;intro u H1 k1 r1 rh1;obtain⟨b,ns,rfl,hb,q⟩:=q1;cases r1;obtain⟨vs,e,q1⟩:=rh1.lst hb;have:=q1.ints_of;subst this;exact⟨_,ns,rfl,SqL.of e,λm hm=>q m hm _ _ k1 (.int _) rh1⟩
 |.mt m o es,X,e,c,h=>by
  obtain⟨ob,ap,args,cp,rfl,h1,h2,h3,h4⟩:=ZnO h;have slot:PySem.Slot m.ty (m.name:Str) m.id/\typeOf (.builtin m.id)=pure (.type "method_descriptor"):=by
   cases m
   ·exact⟨PySem.F.slot_list_append,PySem.F.type_list_append⟩
   ·exact⟨PySem.F.slot_list_extend,PySem.F.type_list_extend⟩
   ·exact⟨PySem.F.slot_list_reverse,PySem.F.type_list_reverse⟩
   ·exact⟨PySem.F.slot_list_clear,PySem.F.type_list_clear⟩
   ·exact⟨G8,G9⟩
   ·exact⟨G8,G9⟩
   ·exact⟨G6,PySem.F.type_dict_clear⟩
   ·exact⟨Ga,Gb⟩
   ·exact⟨Ga,Gb⟩
   ·exact⟨PySem.F.slot_str_join,PySem.F.type_str_join⟩
   ·exact⟨PySem.F.slot_list_remove,PySem.F.type_list_remove⟩
  have plain:PlainAttrs m.ty:=by
   cases m<;>first|exact PySem.F.plainAttrs_list|exact PySem.F.plainAttrs_dict|exact PySem.F.plainAttrs_str
  have hu1:X.A.units+1<cLine:=by have:=c.room;lia
  have tyL:∀{H1:Hp} {M1:MH} {mx:MV} {v:V},RH X.K M1 H1->RM X.K H1 mx v->mtOk m mx M1->tyV X.K m.ty v H1:=by
   intro H1 M1 mx v rh r hm;cases m
   case join=>
    obtain⟨z,rfl⟩:=hm;cases r;exact rfl
   case dclear|dget|dgetD=>
    obtain⟨a,kvs,rfl,hm⟩:=hm;cases r;obtain⟨vs,e,_⟩:=rh.dic hm;exact .inr (.inr (.inl ⟨rfl,.inl ⟨vs,e⟩⟩))
   all_goals
    obtain⟨a,xs,rfl,hm⟩:=hm;cases r;obtain⟨vs,e,_⟩:=rh.lst hm;exact .inl ⟨rfl,vs,SqL.of e⟩
  refine .plain c ?_ (λ_=>rfl) rfl;cases args with
  |nil=>
   refine(Rp plain slot.1 slot.2 (Iv hu1 m) (sE o c h2).pe (IH h2) h1).weak λσ H Q hw=>?_;obtain⟨σm,M,rs,rh,hw⟩:=hw;refine⟨σm,M,rs,rh,Xd c.mon o (λv M1 ⟨q0,q1⟩=>?_) hw⟩;intro u H1 k1 r1 rh1;cases es with
   |cons _ _=>exact absurd h3 XG
   |nil=>
    exact⟨tyL rh1 r1 q0,v,[],M1,r1,.nil,rh1,DN (λm M' hq=>hq.on k1) q1⟩
  |cons x xs=>
   cases es with
   |nil=>cases IK h3
   |cons a es=>
    have h3':=h3;obtain⟨x',xs',e',h3⟩:=IL h3;cases e';have ha:=sA (.cons a es) c h3';have hall:=Au (pos:=cp) (Wt (env:=X.env) (pos:=cp) h3');refine(Rq plain slot.1 slot.2 (Iv hu1 m) (sE o c h2).pe ha (IH h2) ?_ h1 (XY h3.1) (Au (Wt (pos:=cp) h3.2)).2).weak λσ H Q hw=>?_
    ·rw[hall.1];simp only[Bool.true_and,Yp,decide_eq_true_eq];refine⟨rfl,?_⟩;simp at h4 ⊢;lia
    obtain⟨σm,M,rs,rh,hw⟩:=hw;refine⟨σm,M,rs,rh,Xd c.mon o (λv M1 ⟨q0,q1⟩=>?_) hw⟩;intro u H1 k1 r1 rh1;refine⟨tyL rh1 r1 q0,σm,M1,rs.mono k1,rh1,mon_es c.mon (.cons a es) (λvs M2 q2=>?_) q1⟩;intro us H2 k2 r2 rh2;exact⟨v,vs,M2,r1.mono k2,r2,rh2,DN (λm M' hq=>hq.on (k1.trans k2)) q2⟩
 |.comp own fr src tg test elt,X,e,c,h=>by
  obtain⟨x,t,it,ifs,scope,p,rfl,h1,h2,h3,h4,h5,h6,h7⟩:=IJ h;refine .plain c ?_ (λ_=>rfl) rfl;refine(Zio own fr (g:=gOf X.K tg) (te:=liE X.K (wE Φ elt)) (λe s h=>by rw[c.nox]at h;exact h) c.calm h1 (sSr src (tg:=t) c h4) (λC fp s₃ H₃=>sTg (X:=cxC X scope own fr C fp s₃ H₃) (lim:=own.length) (all:=false) c.calm h3 (λz=>by cases z) tg h5) (tt:=ttOf X.K Φ test) (λC fp s₃ H₃=>sI (X:=cxC X scope own fr C fp s₃ H₃) test (c.comp (Wm h1).kind h3) h6)
   (λC fp s₃ H₃=>(sE (X:=cxC X scope own fr C fp s₃ H₃) elt (c.comp (Wm h1).kind h3) h7).pe) (E3 h2 _)).thaw.weak λσ H Q hw=>?_
  exact IT c.mon h5 hw
 |.fld cn o f,X,e,c,h=>absurd h XG
 |.mcall j cn m o es,X,e,c,h=>absurd h XG
 |.make j cn a es,X,e,c,h=>absurd h XG
 |.disp ps,X,e,c,h=>absurd h XG
theorem sP{G:GI}{Φ:List (Str×SpM)}:∀(ps:IPs) {X:Cx} {pos:Pos} {ks:List (Option Expr)} {vs:List Expr},Cok X G Φ->At G ps X.env.scope X.N ks vs=true->PPs X pos ks vs (trOf X.K Φ ps)
 |.nil,X,pos,ks,vs,c,h=>by
  obtain⟨rfl,rfl⟩:=Zfq h;exact RE
 |.cons k v r,X,pos,ks,vs,c,h=>by
  obtain⟨x,ks',y,vs',rfl,rfl,h1,h2,h3⟩:=ZdM h;exact RF (sE k c h1).pe (sE v c h2).pe (sP r c h3)
theorem sA{G:GI}{Φ:List (Str×SpM)}:∀(ies:IEs) {X:Cx} {es:List Expr},Cok X G Φ->chkEs G ies X.env.scope X.N es=true->PA X es (liA X.K (wEs Φ ies))
 |.nil,X,es,c,h=>by
  cases es with
  |cons _ _=>cases IK h
  |nil=>
   refine pa_nil.weak λσ H Q hw=>?_;obtain⟨σm,M,rs,rh,hw⟩:=hw;exact hw _ _ (Kp.refl _) .nil rh
 |.cons a as,X,es,c,h=>by
  cases es with
  |nil=>cases h
  |cons x xs=>
   obtain⟨x',xs',e',h⟩:=IL h;cases e';refine(UH (sE a c h.1).pe (sA as c h.2) (XY h.1)).weak λσ H Q hw=>?_;have:wEs Φ (.cons a as)=λσ M Q=>wE Φ a σ M λv M1=>wEs Φ as σ M1 λvs M2=>Q (v::vs) M2:=rfl;rw[this]at hw;exact Zld (te:=wE Φ a) (t:=wEs Φ as) (Xd c.mon a) (mon_es c.mon as) hw
theorem sO{G:GI}{Φ:List (Str×SpM)}:∀(io:IO) {X:Cx} {e:Option Expr},Cok X G Φ->chkO G io X.env.scope X.N e=true->PO X e (liO X.K (wO Φ io))
 |.none,X,e,c,h=>by
  cases e with
  |some _=>cases Zfs h
  |none=>
   intro pins s σ H Q I hw;refine Rb pins s σ H Q I ?_;obtain⟨σm,M,rs,rh,hw⟩:=hw;exact hw _ (Kp.refl _) rh
 |.some a,X,e,c,h=>by
  cases e with
  |none=>exact absurd h XG
  |some x=>
   obtain⟨x',e',h⟩:=Zfr h;cases e';intro pins s σ H Q I hw;refine Rc (sE a c h).pe pins s σ H Q I ?_;obtain⟨σm,M,rs,rh,hw⟩:=hw;refine⟨σm,M,rs,rh,Xd c.mon a (λv M1 ⟨i,e,q⟩=>?_) hw⟩;subst e;intro u H1 k1 r1 rh1;cases r1;exact⟨i,rfl,q H1 k1 rh1⟩
theorem sI{G:GI}{Φ:List (Str×SpM)}:∀(io:IO) {X:Cx} {es:List Expr},Cok X G Φ->chkI G io X.env.scope X.N es=true->PTs X es (ttOf X.K Φ io)
 |.none,X,es,c,h=>by
  cases es with
  |cons _ _=>cases Zfu h
  |nil=>exact .inl ⟨rfl,rfl⟩
 |.some a,X,es,c,h=>by
  obtain⟨x,rfl,h1,h2⟩:=Zft h;exact .inr ⟨x,rfl,(sE a c h2).pt h1⟩
theorem sSr{G:GI}{Φ:List (Str×SpM)}:∀(s:ISr) {X:Cx} {tg e:Expr},Cok X G Φ->chkSr G s X.env.scope X.N e=true->PI X tg e (liSr X (wSr Φ s))
 |.seq a,X,tg,e,c,h=>by
  refine(T0 (sE a c h).pe).weak λσ H R hw=>?_;obtain⟨σm,M,rs,rh,hw⟩:=hw;refine⟨σm,M,rs,rh,Xd c.mon a (λv M1 q=>?_) hw⟩;intro u H1 k1 r1 rh1;rcases q with⟨xs,e,q⟩|⟨b,xs,e,hb,q⟩|⟨b,kvs,e,hb,q⟩|⟨z,e,q⟩
  ·rcases e with e|e
   ·subst e;cases r1 with
    |tup h1 q1=>exact .inl ⟨_,rfl,.inr (.inl ⟨_,SqT.of h1,q _ _ k1 rh1 (.inl ⟨_,_,h1,q1,rfl⟩)⟩)⟩
   ·subst e;cases r1 with
    |frl h1 q1=>exact .inl ⟨_,rfl,.inl ⟨_,h1.sq,q _ _ k1 rh1 (.inr ⟨_,_,h1,q1,rfl⟩)⟩⟩
  ·subst e;cases r1;obtain⟨vs,e2,_⟩:=rh1.lst hb;exact .inl ⟨_,rfl,.inl ⟨_,SqL.of e2,q _ _ k1 rh1 rfl⟩⟩
  ·subst e;cases r1;obtain⟨vs,e2,r2,nd⟩:=rh1.dic hb;refine .inl ⟨_,rfl,.inr (.inr ⟨vs,e2,λo nf=>?_⟩)⟩;have k:=Kp.upd e2 rfl (.frz o (.dK vs));exact q o _ _ (k1.trans k) (rh1.put k (o:=.fdic o kvs) ⟨rfl,r2.mono k,nd⟩) ⟨rfl,nf⟩
  ·subst e;cases r1;exact .inr ⟨z,rfl,q _ _ k1 rh1 rfl⟩
 |.rng a,X,tg,e,c,h=>by
  obtain⟨p,x,p2,rfl,h2,h3,h4⟩:=Zll h;refine(Qq (UO h3).1 (c.bls _ h2) (UH (sE a c h4).pe pa_nil (XY h4)) (XY h4)).weak λσ H R hw=>?_;obtain⟨σm,M,rs,rh,hw⟩:=hw;refine⟨σm,M,rs,rh,Xd c.mon a (λv M1 ⟨j,e,q1,q2,q⟩=>?_) hw⟩;subst e;intro u H1 k1 r1 rh1;cases r1;exact⟨j,rfl,q1,q2,q _ _ k1 rh1 rfl⟩
 |.rng2 a b,X,tg,e,c,h=>by
  obtain⟨p,x,y,p2,rfl,h2,h3,h4,h5⟩:=ZiH h;refine(Qr (UO h3).1 (c.bls _ h2) (UH (sE a c h4).pe (UH (sE b c h5).pe pa_nil (XY h5)) (XY h4)) (by rw[XY h4,XY h5];rfl) (XY h5)).weak λσ H R hw=>?_
  obtain⟨σm,M,rs,rh,hw⟩:=hw;refine⟨σm,M,rs,rh,Xd c.mon a (λv M1 q1=>?_) hw⟩;intro u H1 k1 r1 rh1;refine⟨σm,M1,rs.mono k1,rh1,Xd c.mon b (λw M2 ⟨i,j,e1,e2,hb,q⟩=>?_) q1⟩;subst e1 e2;intro u2 H2 k2 r2 rh2;cases r1;cases r2;exact⟨i,j,rfl,hb,q _ _ (k1.trans k2) rh2 rfl⟩
 |.rng3 a b d,X,tg,e,c,h=>by
  obtain⟨p,x,y,z,p2,rfl,h2,h3,h4,h5,h6⟩:=ZiG h;refine(Tu (UO h3).1 (c.bls _ h2) (UH (sE a c h4).pe (UH (sE b c h5).pe (UH (sE d c h6).pe pa_nil (XY h6)) (XY h5)) (XY h4)) (by rw[XY h4,XY h5,XY h6];rfl) (by rw[XY h5,XY h6];rfl)).weak λσ H R hw=>?_
  obtain⟨σm,M,rs,rh,hw⟩:=hw;refine⟨σm,M,rs,rh,Xd c.mon a (λv M1 q1=>?_) hw⟩;intro u H1 k1 r1 rh1;refine⟨σm,M1,rs.mono k1,rh1,Xd c.mon b (λw M2 q2=>?_) q1⟩;intro u2 H2 k2 r2 rh2;refine⟨σm,M2,rs.mono (k1.trans k2),rh2,Xd c.mon d (λw2 M3 ⟨i,j,e1,e2,e3,hb,q⟩=>?_) q2⟩;subst e1 e2 e3;intro u3 H3 k3 r3 rh3;cases r1;cases r2;cases r3;exact⟨i,j,rfl,hb,q _ _ (k1.trans (k2.trans k3)) rh3 rfl⟩
end
end L2
namespace L2
set_option genInjectivity false
open PySem PySem.Spec PyProof.Rows
mutual
inductive IS where
 |pass|brk|cnt|never
 |ret (e:IE)|retN
 |set (i:Nat) (e:IE)
 |asg (t:ITgs) (e:IE)
 |put (o i e:IE)
 |fset (c:Str) (o:IE) (f:Str) (e:IE)
 |expr (e:IE)
 |ite (c:IE) (a b:ISs)
 |for_ (t:ITg) (s:ISr) (b:ISs)
 |while_ (c:IE) (b:ISs)
inductive ISs where|nil|cons (s:IS) (r:ISs)
end
structure EndM where
 nx:Sm->MH->Prop
 rt:QM
 bk:Sm->MH->Prop:=λ_ _=>False
 ct:Sm->MH->Prop:=λ_ _=>False
mutual
noncomputable def wS(Φ:List (Str×SpM)):IS->EndM->Sm->MH->Prop
 |.pass,D,σ,M=>D.nx σ M
 |.brk,D,σ,M=>D.bk σ M
 |.cnt,D,σ,M=>D.ct σ M
 |.never,_,_,_=>False
 |.ret e,D,σ,M=>wE Φ e σ M D.rt
 |.retN,D,_,M=>D.rt .non M
 |.set i e,D,σ,M=>wE Φ e σ M λv M1=>D.nx (σ.set i (some v)) M1
 |.asg t e,D,σ,M=>wE Φ e σ M λv M1=>∃xs,v=.tup xs/\wTgs t xs σ λσ'=>D.nx σ' M1
 |.put o i e,D,σ,M=>wE Φ e σ M λv M1=>wE Φ o σ M1 λx M2=>wE Φ i σ M2 λy M3=>wPut x y v M3 λM4=>D.nx σ M4
 |.fset c o f e,D,σ,M=>wE Φ e σ M λv M1=>wE Φ o σ M1 λx M2=>∃a fs,x=.ref a/\M2 a=some (.ins c fs)/\fs.length<1000/\D.nx σ (updM M2 a (.ins c (putM fs f v)))
 |.expr e,D,σ,M=>wE Φ e σ M λ_ M1=>D.nx σ M1
 |.ite c a b,D,σ,M=>wE Φ c σ M λx M1=>onB x λk=>(if k=true then wSs Φ a D σ M1 else wSs Φ b D σ M1)
 |.for_ t s b,D,σ,M=>wSr Φ s σ M λS M1=>∃J:Nat->Sm->MH->Prop,J 0 σ M1/\(∀i σ M,J i σ M->S.ok M)/\
   (∀i x σ M,S.items[i]?=some x->J i σ M->wTg t x σ λσ2=>wSs Φ b {nx:=J (i+1),rt:=λv M=>S.okT M/\D.rt v (S.thaw M),bk:=λσ M=>S.okT M/\D.nx σ (S.thaw M),ct:=J (i+1)} σ2 M)/\∀σ M,J S.len σ M->D.nx σ (S.thaw M)
 |.while_ c b,D,σ,M=>∃J:Nat->Sm->MH->Prop,(∃m,J m σ M)/\∀m σ M,J m σ M->wE Φ c σ M λx M1=>∃k,x=.bl k/\
   (if k=true then wSs Φ b {nx:=λσ' M'=>∃m',m'<m/\J m' σ' M',rt:=D.rt,bk:=D.nx,ct:=λσ' M'=>∃m',m'<m/\J m' σ' M'} σ M1 else D.nx σ M1)
noncomputable def wSs(Φ:List (Str×SpM)):ISs->EndM->Sm->MH->Prop
 |.nil,D,σ,M=>D.nx σ M
 |.cons s r,D,σ,M=>wS Φ s {nx:=λσ M=>wSs Φ r D σ M,rt:=D.rt,bk:=D.bk,ct:=D.ct} σ M
end
theorem IV{Φ:List (Str×SpM)}{c:IE}{a b:ISs}{D:EndM}{σ:Sm}{M:MH}:wS Φ (.ite c a b) D σ M=wE Φ c σ M λx M1=>∃k,x=.bl k/\(if k=true then wSs Φ a D σ M1 else wSs Φ b D σ M1):=by rw[wS];simp only[Wr]
structure EndM.Le (D D':EndM):Prop where
 nx:∀σ M,D.nx σ M->D'.nx σ M
 rt:∀v M,D.rt v M->D'.rt v M
 bk:∀σ M,D.bk σ M->D'.bk σ M
 ct:∀σ M,D.ct σ M->D'.ct σ M
mutual
theorem IW{Φ:List (Str×SpM)}(hΦ:∀(j:Nat) f sp,Φ[j]?=some (f,sp)->MonW sp):∀(s:IS) {D D':EndM} {σ:Sm} {M:MH},D.Le D'->wS Φ s D σ M->wS Φ s D' σ M
 |.pass,D,D',σ,M,l,h=>by exact l.nx _ _ h
 |.brk,D,D',σ,M,l,h=>by exact l.bk _ _ h
 |.cnt,D,D',σ,M,l,h=>by exact l.ct _ _ h
 |.never,D,D',σ,M,l,h=>h.elim
 |.ret e,D,D',σ,M,l,h=>by exact Xd hΦ e l.rt h
 |.retN,D,D',σ,M,l,h=>by exact l.rt _ _ h
 |.set i e,D,D',σ,M,l,h=>by exact Xd hΦ e (λv M1 h1=>l.nx _ _ h1) h
 |.asg t e,D,D',σ,M,l,h=>by exact Xd hΦ e (λv M1 ⟨xs,e,h1⟩=>⟨xs,e,mon_tgs t (λσ' h2=>l.nx _ _ h2) h1⟩) h
 |.put o i e,D,D',σ,M,l,h=>by
  exact Xd hΦ e (λv M1 h1=>Xd hΦ o (λx M2 h2=>Xd hΦ i (λy M3 h3=>Iw (λM4 h4=>l.nx _ _ h4) h3) h2) h1) h
 |.fset c o f e,D,D',σ,M,l,h=>by
  exact Xd hΦ e (λv M1 h1=>Xd hΦ o (λx M2 ⟨a,fs,e1,e2,e3,h2⟩=>⟨a,fs,e1,e2,e3,l.nx _ _ h2⟩) h1) h
 |.expr e,D,D',σ,M,l,h=>by exact Xd hΦ e (λv M1 h1=>l.nx _ _ h1) h
 |.ite c a b,D,D',σ,M,l,h=>by
  rw[IV]at h ⊢;exact Xd hΦ c (λx M1 ⟨k,e,h1⟩=>⟨k,e,Z1 (mon_ss hΦ a l) (mon_ss hΦ b l) h1⟩) h
 |.for_ t s b,D,D',σ,M,l,h=>by
  refine mon_sr hΦ s (λS M1 ⟨J,j0,j1,j2,j3⟩=>⟨J,j0,j1,λi x σ M hx hj=>?_,λσ M hj=>l.nx _ _ (j3 σ M hj)⟩) h;exact UN t (λσ2 h2=>by refine mon_ss hΦ b ?_ h2;exact⟨λ_ _ z=>z,λ_ _ z=>⟨z.1,l.rt _ _ z.2⟩,λ_ _ z=>⟨z.1,l.nx _ _ z.2⟩,λ_ _ z=>z⟩) (j2 i x σ M hx hj)
 |.while_ c b,D,D',σ,M,l,h=>by
  obtain⟨J,j0,j1⟩:=h;refine⟨J,j0,λm σ M hj=>Xd hΦ c (λx M1 ⟨k,e,h1⟩=>⟨k,e,Z1 (λz=>by refine mon_ss hΦ b ?_ z;exact⟨λ_ _ z=>z,l.rt,l.nx,λ_ _ z=>z⟩) (l.nx _ _) h1⟩) (j1 m σ M hj)⟩
theorem mon_ss{Φ:List (Str×SpM)}(hΦ:∀(j:Nat) f sp,Φ[j]?=some (f,sp)->MonW sp):∀(s:ISs) {D D':EndM} {σ:Sm} {M:MH},D.Le D'->wSs Φ s D σ M->wSs Φ s D' σ M
 |.nil,D,D',σ,M,l,h=>by exact l.nx _ _ h
 |.cons s r,D,D',σ,M,l,h=>by
  refine IW hΦ s ?_ h;exact⟨λσ M h1=>mon_ss hΦ r l h1,l.rt,l.bk,l.ct⟩
end
noncomputable def IX:Expr->Bool
 |.Tuple ..=>false|_=>true
noncomputable def Av:Expr->Bool
 |.ListComp ..=>false|.SetComp ..=>false|.DictComp ..=>false|_=>true
noncomputable def IY:Stmt->Option (Option Expr)|.Return v _=>some v|_=>none
noncomputable def BV:Stmt->Option (List Expr×Expr)|.Assign ts v _=>some (ts,v)|_=>none
noncomputable def asEx:Stmt->Option Expr|.Expr v _=>some v|_=>none
noncomputable def IZ:Stmt->Option (Expr×List Stmt×List Stmt)|.If t x y _=>some (t,x,y)|_=>none
noncomputable def J0:Stmt->Option (Expr×Expr×List Stmt×List Stmt)|.For t i b r _=>some (t,i,b,r)|_=>none
section
variable{e:Stmt}
theorem Zj4{x:Option Expr}(h:IY e=some x):∃p,e=.Return x p:=by cases e<;>cases h;exact⟨_,rfl⟩
theorem E4{x:List Expr×Expr}(h:BV e=some x):∃p,e=.Assign x.1 x.2 p:=by cases e<;>cases h;exact⟨_,rfl⟩
theorem ZlX{x:Expr}(h:asEx e=some x):∃p,e=.Expr x p:=by cases e<;>cases h;exact⟨_,rfl⟩
theorem Zj6{x:Expr×List Stmt×List Stmt}(h:IZ e=some x):∃p,e=.If x.1 x.2.1 x.2.2 p:=by cases e<;>cases h;exact⟨_,rfl⟩
theorem Zj7{x:Expr×Expr×List Stmt×List Stmt}(h:J0 e=some x):∃p,e=.For x.1 x.2.1 x.2.2.1 x.2.2.2 p:=by cases e<;>cases h;exact⟨_,rfl⟩
end
mutual
noncomputable def chkS(G:GI)(sc:Scope)(N:List Str):IS->Stmt->Bool
 |.pass,_=>false
 |.brk,_=>false
 |.cnt,_=>false
 |.never,_=>true
 |.ret e,s=>(IY s).any λo=>o.any λx=>chkE G e sc N x
 |.retN,_=>false
 |.set i e,s=>(BV s).any λq=>(the1 q.1).any λt=>(YS t).any λx=>decide (N[i]?=some x)&&locB sc x&&chkE G e sc N q.2
 |.asg t e,s=>(BV s).any λq=>(the1 q.1).any λg=>(Aq g).any λes=>chkTgs sc N N.length true t es&&chkE G e sc N q.2&&IX q.2
 |.put o i e,s=>(BV s).any λq=>(the1 q.1).any λt=>(Ar t).any λa=>chkE G o sc N a.1&&chkE G i sc N a.2&&Ao a.2&&chkE G e sc N q.2
 |.fset c o f e,_=>false
 |.expr e,s=>(asEx s).any λv=>chkE G e sc N v&&Av v
 |.ite c a b,s=>(IZ s).any λq=>tok c&&chkE G c sc N q.1&&chkSs G sc N a q.2.1&&chkSs G sc N b q.2.2
 |.for_ t r b,s=>(J0 s).any λq=>Zh sc N N.length true t q.1&&chkSr G r sc N q.2.1&&Ap q.2.1&&chkSs G sc N b q.2.2.1&&non0 q.2.2.2
 |.while_ c b,_=>false
noncomputable def chkSs(G:GI)(sc:Scope)(N:List Str):ISs->List Stmt->Bool
 |.nil,l=>non0 l
 |.cons s r,l=>(hd1 l).any λq=>chkS G sc N s q.1&&chkSs G sc N r q.2
end
noncomputable def liD(K:X6)(H:Hp)(D:Ends):EndM where
 nx:=λσm M=>∀σ H',Kp H H'->RS K H' σm σ->RH K M H'->D.nx σ H'
 rt:=Dn K H D.rt
 bk:=λσm M=>∀σ H',Kp H H'->RS K H' σm σ->RH K M H'->D.bk σ H'
 ct:=λσm M=>∀σ H',Kp H H'->RS K H' σm σ->RH K M H'->D.ct σ H'
theorem liD.on{K:X6}{H H1:Hp}{D:Ends}(k:Kp H H1):(liD K H D).Le (liD K H1 D):=
 ⟨λ_ _ h σ H' k'=>h σ H' (k.trans k'),λ_ _ h=>h.on k,λ_ _ h σ H' k'=>h σ H' (k.trans k'),λ_ _ h σ H' k'=>h σ H' (k.trans k')⟩
noncomputable def liSt(K:X6)(t:EndM->Sm->MH->Prop):TS:=λD σ H=>∃σm M,RS K H σm σ/\RH K M H/\t (liD K H D) σm M
theorem Zg0{e:Expr}{x:Str}{p:Pos}{ln:Nat}{env:Env}(h:Av e=true):V7 e (some (.Name x p)) ln env=pure false:=by cases e<;>first|rfl|cases h
theorem ZfZ{e:Expr}{ln:Nat}{env:Env}(h:Av e=true):V7 e none ln env=pure false:=by cases e<;>first|rfl|cases h
theorem Zi4{e:Expr}{es:List Expr}{k:Nat}{p:Pos}{ln:Nat}{env:Env}:V7 e (some (.Tuple es k p)) ln env=pure false:=by cases e<;>rfl
theorem Zi5{e a b:Expr}{p:Pos}{ln:Nat}{env:Env}:V7 e (some (.Subscript a b p)) ln env=pure false:=by cases e<;>rfl
theorem Zg1{elt:Expr}{gs:List Comprehension}{scope:Scope}{pos p:Pos}{x:Str}{ln:Nat}{env:Env}:∃b:Bool,V7 (.ListComp elt gs scope pos) (some (.Name x p)) ln env=pure b:=⟨_,rfl⟩
theorem ZlJ{G:GI}{ie:IE}{sc:Scope}{N:List Str}{e:Expr}(h:chkE G ie sc N e=true):Av e=true\/∃own fr src tg test elt,ie=.comp own fr src tg test elt:=by
 cases e<;>first
  |exact .inl rfl
  |(cases ie<;>first
    |exact .inr ⟨_,_,_,_,_,_,rfl⟩
    |exact absurd h XG)
section
variable{G:GI}{sc:Scope}{N:List Str}{st:Stmt}
theorem ZiK{e:IE}(h:chkS G sc N (.ret e) st=true):∃x p,st=.Return (some x) p/\chkE G e sc N x=true:=by
 replace h:=Xk h;obtain⟨o,h1,h⟩:=h;obtain⟨p,rfl⟩:=Zj4 h1;replace h:=Xk h;obtain⟨x,rfl,h⟩:=h;exact⟨x,p,rfl,h⟩
theorem ZiJ{i:Nat}{e:IE}(h:chkS G sc N (.set i e) st=true):∃x px v p,st=.Assign [.Name x px] v p/\N[i]?=some x/\locB sc x=true/\chkE G e sc N v=true:=by
 replace h:=Xk h;obtain⟨⟨ts,v⟩,h1,h⟩:=h;obtain⟨p,rfl⟩:=E4 h1;replace h:=Xk h;obtain⟨t,h2,h⟩:=h;obtain rfl:=Zg h2;replace h:=Xk h;obtain⟨x,h3,h⟩:=h;obtain⟨px,rfl⟩:=Za h3;replace h:=Xh h;obtain⟨h,h6⟩:=h;replace h:=Xh h;obtain⟨h4,h5⟩:=h;exact⟨x,px,v,p,rfl,XR h4,h5,h6⟩
theorem ZiO{t:ITgs}{e:IE}(h:chkS G sc N (.asg t e) st=true):∃es k pt v p,st=.Assign [.Tuple es k pt] v p/\chkTgs sc N N.length true t es=true/\chkE G e sc N v=true/\IX v=true:=by
 replace h:=Xk h;obtain⟨⟨ts,v⟩,h1,h⟩:=h;obtain⟨p,rfl⟩:=E4 h1;replace h:=Xk h;obtain⟨g,h2,h⟩:=h;obtain rfl:=Zg h2;replace h:=Xk h;obtain⟨es,h3,h⟩:=h;obtain⟨k,pt,rfl⟩:=DU h3;replace h:=Xh h;obtain⟨h,h6⟩:=h;replace h:=Xh h;obtain⟨h4,h5⟩:=h;exact⟨es,k,pt,v,p,rfl,h4,h5,h6⟩
theorem ZiL{o i e:IE}(h:chkS G sc N (.put o i e) st=true):∃a b pt v p,st=.Assign [.Subscript a b pt] v p/\chkE G o sc N a=true/\chkE G i sc N b=true/\Ao b=true/\chkE G e sc N v=true:=by
 replace h:=Xk h;obtain⟨⟨ts,v⟩,h1,h⟩:=h;obtain⟨p,rfl⟩:=E4 h1;replace h:=Xk h;obtain⟨g,h2,h⟩:=h;obtain rfl:=Zg h2;replace h:=Xk h;obtain⟨⟨a,b⟩,h3,h⟩:=h;obtain⟨pt,rfl⟩:=DV h3;replace h:=Xh h;obtain⟨h,h7⟩:=h;replace h:=Xh h;obtain⟨h,h6⟩:=h;replace h:=Xh h;obtain⟨h4,h5⟩:=h;exact⟨a,b,pt,v,p,rfl,h4,h5,h6,h7⟩
theorem Zh4{e:IE}(h:chkS G sc N (.expr e) st=true):∃v p,st=.Expr v p/\chkE G e sc N v=true/\Av v=true:=by
 replace h:=Xk h;obtain⟨v,h1,h⟩:=h;obtain⟨p,rfl⟩:=ZlX h1;exact⟨v,p,rfl,Xh h⟩
theorem ZiM{c:IE}{a b:ISs}(h:chkS G sc N (.ite c a b) st=true):∃t x y p,st=.If t x y p/\tok c=true/\chkE G c sc N t=true/\chkSs G sc N a x=true/\chkSs G sc N b y=true:=by
 replace h:=Xk h;obtain⟨⟨t,x,y⟩,h1,h⟩:=h;obtain⟨p,rfl⟩:=Zj6 h1;replace h:=Xh h;obtain⟨h,h5⟩:=h;replace h:=Xh h;obtain⟨h,h4⟩:=h;replace h:=Xh h;obtain⟨h2,h3⟩:=h;exact⟨t,x,y,p,rfl,h2,h3,h4,h5⟩
theorem ZiN{t:ITg}{s:ISr}{b:ISs}(h:chkS G sc N (.for_ t s b) st=true):∃tg it body p,st=.For tg it body [] p/\Zh sc N N.length true t tg=true/\chkSr G s sc N it=true/\Ap it=true/\chkSs G sc N b body=true:=by
 replace h:=Xk h;obtain⟨⟨tg,it,body,els⟩,h1,h⟩:=h;obtain⟨p,rfl⟩:=Zj7 h1;replace h:=Xh h;obtain⟨h,h6⟩:=h;replace h:=Xh h;obtain⟨h,h5⟩:=h;replace h:=Xh h;obtain⟨h,h4⟩:=h;replace h:=Xh h;obtain⟨h2,h3⟩:=h;obtain rfl:=YB h6;exact⟨tg,it,body,p,rfl,h2,h3,h4,h5⟩
theorem Zh3{sts:List Stmt}(h:chkSs G sc N .nil sts=true):sts=[]:=by
 exact YB h
theorem Zfv{s:IS}{r:ISs}{sts:List Stmt}(h:chkSs G sc N (.cons s r) sts=true):∃x xs,sts=x::xs/\chkS G sc N s x=true/\chkSs G sc N r xs=true:=by
 replace h:=Xk h;obtain⟨⟨x,xs⟩,h1,h⟩:=h;exact⟨x,xs,Vg h1,Xh h⟩
end
mutual
theorem sS{G:GI}{Φ:List (Str×SpM)}:∀(is:IS) {X:Cx} {st:Stmt},Cok X G Φ->(∀x,X.fn x=true)->chkS G X.env.scope X.N is st=true->PS X st (liSt X.K (wS Φ is))
 |.pass,X,st,c,hf,h=>absurd h XG
 |.brk,X,st,c,hf,h=>absurd h XG
 |.cnt,X,st,c,hf,h=>absurd h XG
 |.never,X,st,c,hf,h=>by
  refine ps_never.weak λD σ H hw=>?_;obtain⟨σm,M,rs,rh,hw⟩:=hw;exact hw
 |.ret e,X,st,c,hf,h=>by
  obtain⟨v,p,rfl,h⟩:=ZiK h;refine(Qe (sE e c h).pe).weak λD σ H hw=>?_;obtain⟨σm,M,rs,rh,hw⟩:=hw;exact⟨σm,M,rs,rh,hw⟩
 |.retN,X,st,c,hf,h=>absurd h XG
 |.set i e,X,st,c,hf,h=>by
   obtain⟨x,px,v,p,rfl,h1,h2,h3⟩:=ZiJ h;have rd:∀D σ H,liSt X.K (wS Φ (.set i e)) D σ H->liE X.K (wE Φ e) σ H λv H1=>D.nx (σ.set i (some v)) H1:=λD σ H hw=>by
    obtain⟨σm,M,rs,rh,hw⟩:=hw;refine⟨σm,M,rs,rh,Xd c.mon e (λv M1 q=>?_) hw⟩;intro u H1 k1 r1 rh1;exact q _ _ k1 ((rs.mono k1).set r1 i) rh1
   rcases ZlJ h3 with hn|⟨own,fr,src,tg,test,elt,rfl⟩
   ·exact(GH c.nd h1 (BS h2) (sE e c h3).pe (Zg0 hn) (.inl (hf _))).weak rd
   ·obtain⟨y,t,it,ifs,scope,p3,rfl,i1,i2,i3,i4,i5,i6,i7⟩:=IJ h3;obtain⟨b,hb⟩:=Zg1 (elt:=y) (gs:=[⟨t,it,ifs,0⟩]) (scope:=scope) (pos:=p3) (p:=px) (x:=x) (ln:=p.line) (env:=X.env);cases b with
    |false=>exact(GH c.nd h1 (BS h2) (sE _ c h3).pe hb (.inl (hf _))).weak rd
    |true=>
     refine(Zdq own fr (g:=gOf X.K tg) (te:=liE X.K (wE Φ elt)) (tt:=ttOf X.K Φ test) c.nd h1 (BS h2) (λe s h=>by rw[c.nox]at h;exact h) c.calm i1 (sSr src (tg:=t) c i4)
      (λC fp s₃ H₃=>sTg (X:=cxC X scope own fr C fp s₃ H₃) (lim:=own.length) (all:=false) c.calm i3 (λz=>by cases z) tg i5) (λC fp s₃ H₃=>sI (X:=cxC X scope own fr C fp s₃ H₃) test (c.comp (Wm i1).kind i3) i6)
      (λC fp s₃ H₃=>(sE (X:=cxC X scope own fr C fp s₃ H₃) elt (c.comp (Wm i1).kind i3) i7).pe) hb (E3 i2 _) (.inl (hf _))).thaw.weak λD σ H hw=>?_
     exact IT c.mon i5 (rd D σ H hw)
 |.asg t e,X,st,c,hf,h=>by
   obtain⟨es,k,pt,v,p,rfl,h1,h2,h3⟩:=ZiO h;have hT:Zh X.env.scope X.N X.N.length true (.tup t) (.Tuple es k pt)=true:=h1;refine(GG (sE e c h2).pe (sTg (lim:=X.N.length) (all:=true) c.calm c.nd (λ_=>hf) (.tup t) hT) (Zi4 (e:=v) (es:=es) (k:=k) (p:=pt) (ln:=p.line) (env:=X.env)) (by cases v<;>first|rfl|cases h3) rfl).weak λD σ H hw=>?_
   obtain⟨σm,M,rs,rh,hw⟩:=hw;refine⟨σm,M,rs,rh,Xd c.mon e (λv M1 ⟨xs,e,q⟩=>?_) hw⟩;intro u H1 k1 r1 rh1;refine BU (Ψ:=λ_=>True) (lim:=X.N.length) (λ_ _ _ _ z=>z) (.tup t) hT r1 (rs.mono k1) trivial (P:=λσ'=>(liD X.K H D).nx σ' M1) ⟨xs,e,q⟩ λσm' σ' q' rs' _=>?_;exact q' _ _ k1 rs' rh1
 |.put o i e,X,st,c,hf,h=>by
   obtain⟨a,b,pt,v,p,rfl,h1,h2,h3,h4⟩:=ZiL h;have hg:PG X (.Subscript a b pt) (gSub (liE X.K (wE Φ o)) (liE X.K (wE Φ i)) (Ix X.K)):=Qk (sE o c h1).pe (sE i c h2).pe (TW (by have:=c.room;lia)) (by intro v;cases b<;>first|rfl|cases h3)
   refine(GG (sE e c h4).pe hg (Zi5 (e:=v) (a:=a) (b:=b) (p:=pt) (ln:=p.line) (env:=X.env)) rfl rfl).weak λD σ H hw=>?_;obtain⟨σm,M,rs,rh,hw⟩:=hw;refine⟨σm,M,rs,rh,Xd c.mon e (λv M1 q1=>?_) hw⟩;intro u H1 k1 r1 rh1;refine⟨σm,M1,rs.mono k1,rh1,Xd c.mon o (λx M2 q2=>?_) q1⟩;intro u2 H2 k2 r2 rh2;refine⟨σm,M2,rs.mono (k1.trans k2),rh2,Xd c.mon i (λy M3 q3=>?_) q2⟩;intro u3 H3 k3 r3 rh3;refine⟨x,y,v,M3,r2.mono k3,r3,r1.mono (k2.trans k3),rh3,Iw (λM4 q4=>?_) q3⟩;intro H4 k4 rh4;have kk:=k1.trans (k2.trans (k3.trans k4));exact q4 _ _ kk (rs.mono kk) rh4
 |.fset cn o f e,X,st,c,hf,h=>absurd h XG
 |.expr e,X,st,c,hf,h=>by
  obtain⟨v,p,rfl,h1,h2⟩:=Zh4 h;refine(Qd (sE e c h1).pe (ZfZ h2)).weak λD σ H hw=>?_;obtain⟨σm,M,rs,rh,hw⟩:=hw;refine⟨σm,M,rs,rh,Xd c.mon e (λv M1 q=>?_) hw⟩;intro u H1 k1 r1 rh1;exact q _ _ k1 (rs.mono k1) rh1
 |.ite d a b,X,st,c,hf,h=>by
  obtain⟨t,x,y,p,rfl,h1,h2,h3,h4⟩:=ZiM h;refine(Qf ((sE d c h2).pt h1) (sSs a c hf h3) (sSs b c hf h4)).weak λD σ H hw=>?_;obtain⟨σm,M,rs,rh,hw⟩:=hw;rw[IV]at hw;refine⟨σm,M,rs,rh,Xd c.mon d (λx M1 ⟨k,e,q⟩=>⟨k,e,λH1 k1 rh1=>?_⟩) hw⟩;exact Z1 (λq=>⟨σm,M1,rs.mono k1,rh1,mon_ss c.mon a (liD.on k1) q⟩) (λq=>⟨σm,M1,rs.mono k1,rh1,mon_ss c.mon b (liD.on k1) q⟩) q
 |.for_ t s b,X,st,c,hf,h=>by
   obtain⟨tg,it,body,p,rfl,h1,h2,h3,h4⟩:=ZiN h;refine(Qt (by rw[c.nox];exact PassesOwn.never) c.calm (sSr s (tg:=tg) c h2) (sTg (lim:=X.N.length) (all:=true) c.calm c.nd (λ_=>hf) t h1) (sSs b c hf h4) (E3 h3 _)).thaw.weak λD σ H hw=>?_
   obtain⟨σm,M,rs,rh,hw⟩:=hw;refine⟨σm,M,rs,rh,mon_sr c.mon s (λS M1 ⟨J,j0,j1,j2,j3⟩=>?_) hw⟩;intro I H1 k1 rh1 sit;refine⟨λi m σ' H'=>m=S.len - i/\i≤S.len/\Kp H1 H'/\∃σm' M',RS X.K H' σm' σ'/\RH X.K M' H'/\J i σm' M',⟨_,rfl,YD _,Kp.refl _,σm,M1,rs.mono k1,rh1,j0⟩,?_⟩;rintro i m σ2 H2 ⟨rfl,hi,k2,σm2,M2,rs2,rh2,hj⟩;obtain⟨goes,stops⟩:=IR sit k2 rh2 (j1 i σm2 M2 hj);by_cases hlt:i<S.len
   ·obtain⟨go,yld⟩:=goes i hlt;refine .inr ⟨go,λσ' H'=>Kp H1 H'/\∃σm' M',RS X.K H' σm' σ'/\RH X.K M' H'/\J (i+1) σm' M',λσ' H' ⟨a,z⟩=>⟨S.len - (i+1),by lia,rfl,hlt,a,z⟩,λx H' y=>?_⟩
    obtain⟨e,m,hm,rm⟩:=yld x H' y;subst e;refine BU (Ψ:=λ_=>True) (lim:=X.N.length) (λ_ _ _ _ z=>z) t h1 rm rs2 trivial (j2 i m σm2 M2 hm hj) λσm3 σ3 q rs3 _=>?_;refine⟨σm3,M2,rs3,rh2,?_⟩;refine mon_ss c.mon b ?_ q;refine⟨λσ' M' z σv H3 k3 rs' rh'=>⟨k2.trans k3,σ',M',rs',rh',z⟩,λv M' z u H3 k3 r3 rh'=>?_,λσ' M' z σv H3 k3 rs' rh'=>?_,λσ' M' z σv H3 k3 rs' rh'=>⟨k2.trans k3,σ',M',rs',rh',z⟩⟩
    ·obtain⟨H4,th,k4,rh4⟩:=BT sit rh' z.1;exact⟨H4,th,z.2 u H4 (k1.trans (k2.trans (k3.trans k4))) (r3.mono k4) rh4⟩
    ·obtain⟨H4,th,k4,rh4⟩:=BT sit rh' z.1;exact⟨H4,th,z.2 σv H4 (k1.trans (k2.trans (k3.trans k4))) (rs'.mono k4) rh4⟩
   ·have e:i=S.len:=by lia
    subst e;obtain⟨H4,th,k4,rh4⟩:=BT sit rh2 (IP (j1 _ σm2 M2 hj));exact .inl ⟨stops _ (Xl _),H4,th,j3 σm2 M2 hj _ _ (k1.trans (k2.trans k4)) (rs2.mono k4) rh4⟩
 |.while_ d b,X,st,c,hf,h=>absurd h XG
theorem sSs{G:GI}{Φ:List (Str×SpM)}:∀(is:ISs) {X:Cx} {sts:List Stmt},Cok X G Φ->(∀x,X.fn x=true)->chkSs G X.env.scope X.N is sts=true->PSs X sts (liSt X.K (wSs Φ is))
 |.nil,X,sts,c,hf,h=>by
   cases Zh3 h;refine pss_nil.weak λD σ H hw=>?_;obtain⟨σm,M,rs,rh,hw⟩:=hw;exact hw σ H (Kp.refl _) rs rh
 |.cons s r,X,sts,c,hf,h=>by
   obtain⟨x,xs,rfl,h1,h2⟩:=Zfv h;refine(Qb (sS s c hf h1) (sSs r c hf h2)).weak λD σ H hw=>?_;obtain⟨σm,M,rs,rh,hw⟩:=hw;refine⟨σm,M,rs,rh,?_⟩;refine IW c.mon s ?_ hw;refine⟨λσ' M' z σv H1 k1 rs' rh'=>?_,λv M' z=>z,λσ' M' z=>z,λσ' M' z=>z⟩;exact⟨σ',M',rs',rh',mon_ss c.mon r (liD.on k1) z⟩
end
end L2
namespace L2
open PySem PySem.Spec PyProof.Rows
structure Fts (P:Xn) (w:Xj) (K:X6) (mg:Str->Option X0) (base:Heap) (k:Nat) (G:GI) (Φ:List (Str×SpM)):Prop where
 bls:∀x,G.bl.contains x=true->mg x=none
 gls:∀x i,G.gl.lookup x=some i->∃tk,mg x=some (.int i tk)
 fnn:∀(j:Nat) f,G.fns[j]?=some f->∃sp,Φ[j]?=some (f,sp)
 mon:∀(j:Nat) f sp,Φ[j]?=some (f,sp)->MonW sp
 fns:∀(j:Nat) f sp,G.fns[j]?=some f->Φ[j]?=some (f,sp)->∃fa fd ps,FnOk P w K mg base CX0 k fa fd ps (liSp K sp)/\mg f=some (.ref fa)/\Xr K (.ref fa)=true/\Binds K fd ps []
 mts:∀(j:Nat) c m,G.mts.contains (j,c,m)=true->∃f sp,Φ[j]?=some (f,sp)/\∃C fa fd ps,FnOk P w K mg base CX0 k fa fd ps (liSp K sp)/\Xi K Xf c=some (some (.ref C))/\Cls K C/\Meth K C m fa/\Binds K fd ps []
 mks:∀(j:Nat) c,G.mks.contains (j,c)=true->∃f sp,Φ[j]?=some (f,sp)/\∃k' C fa fd ps,k'+1≤k/\FnOk P w K mg base CX0 k' fa fd ps (liSp K sp)/\Xi K Xf c=some (some (.ref C))/\mg c=some (.ref C)/\Mk K C fa/\Binds K fd ps []
 cls:∀c f,G.cls.contains (c,f)=true->∃C,Xi K Xf c=some (some (.ref C))/\Cls K C/\Du K C f
noncomputable def Aw(n:Nat)(vs:List MV):Sm:=vs.map some++Ze (n - vs.length) none
theorem Zi6{K:X6}{H:Hp}{N:List Str}{ms:List MV}{vs:List V}(r:RMs K H ms vs):RS K H (Aw N.length ms) (UI N vs):=by
 unfold Aw UI;have hl:=r.length;refine⟨by simp[hl],λi m e=>?_⟩
 by_cases hi:i<ms.length
 ·rw[Uy (by simpa using hi),Xq]at e
  cases q:ms[i]? with
  |none=>rw[q]at e;cases e
  |some x=>
   rw[q]at e;have ex:x=m:=Yq (Yq e);subst ex;obtain⟨u,hu,ru⟩:=r.get q;exact⟨u,by rw[Uy (by simpa [<- hl]using hi),Xq,hu];rfl,ru⟩
 ·rw[Ug (by simpa using hi),FY]at e
  split at e<;>cases e
theorem Fun.okM{P:Xn}{w:Xj}{K:X6}{mg:Str->Option X0}{base:Heap}{G:GI}{Φ:List (Str×SpM)}{x qual:Str}{st:Stmt}{f:Addr}{fd:Xm}{N ps:List Str}{k:Nat}{sp:SpM}
  (F:Fun K x qual st f fd) (S:FnScope N ps (X2 st)) (T:Fts P w K mg base k G Φ) (ir:ISs) (hc:chkSs G (X2 st) N ir (X5 st)=true)
  (len:∀vs M Q,sp vs M Q->vs.length=ps.length) (h:∀vs M Q,sp vs M Q->wSs Φ ir {nx:=λ_ M'=>Q .non M',rt:=Q} (Aw N.length vs) M):FnOk P w K mg base CX0 (k+1) f fd ps (liSp K sp):=by
 refine F.ok S (λvs H Q E hs=>?_) λcdv A outer s H vs Q E hr hs=>?_
 ·obtain⟨ms,M,r,rh,q⟩:=hs;rw[<- r.length];exact len _ _ _ q
 obtain⟨ms,M,r,rh,q⟩:=hs;have c:Cok (cxOf CX0 P w K mg base N qual (X2 st) f cdv A outer s H E).nox G Φ:=
  ⟨(by have:=hr.un;show(A.deeper _).units+70<cLine;lia),rfl,rfl,(by show(if(X2 st).kind.isAnnotationScope then Gs else(X2 st).kind)=.function;rw[S.kind];rfl),S.nd,T.bls,T.gls,T.fnn,T.mon,
   (λj f sp hg hj=>let⟨fa,fd,ps,F,hm,hk,hb⟩:=T.fns j f sp hg hj;⟨k,fa,fd,ps,hr,F,hm,hk,hb⟩),
   (λj c m h=>let⟨f,sp,hj,C,fa,fd,ps,F,hC,cl,hm,hb⟩:=T.mts j c m h;⟨f,sp,hj,k,C,fa,fd,ps,hr,F,hC,cl,hm,hb⟩),
   (λj c h=>let⟨f,sp,hj,k',C,fa,fd,ps,hk,F,hC,hm,mk1,hb⟩:=T.mks j c h;⟨f,sp,hj,k',C,fa,fd,ps,hr.mono hk,F,hC,hm,mk1,hb⟩),T.cls⟩
 refine⟨_,sSs ir c (λ_=>rfl) hc,Aw N.length ms,M,Zi6 r,rh,?_⟩;refine mon_ss T.mon ir ?_ (h ms M _ q);exact⟨λσ M' z σv H' k1 rs' rh'=>z _ _ k1 .non rh',λv M' z=>z,λ_ _ z=>z.elim,λ_ _ z=>z.elim⟩
noncomputable def J1:SpM:=λvs M Q=>∃ns:List Int,vs=[.frl (ns.map .int)]/\ns.length≤63/\∀M',Q (.bl true) M'
noncomputable def BW(K:X6):Sp:=λvs H Q _=>∃(a:Addr) (ns:List Int),vs=[.ref a]/\FrL K H a (ns.map V.int)/\ns.length≤63/\∀H',Q (.bl true) H'
theorem Zle{K:X6}{P:Xn}{w:Xj}{mg:Str->Option X0}{base:Heap}{k:Nat}{f:Addr}{fd:Xm}{ps:List Str}(F:FnOk P w K mg base CX0 k f fd ps (liSp K J1)):FnOk P w K mg base CX0 k f fd ps (BW K):=
 F.imp λvs H Q E ⟨a,ns,e,hs,hl,q⟩=>by
  subst e;refine⟨[.frl (ns.map .int)],λ_=>none,.cons (.frl hs (RMs.ints ns)) .nil,λ_ _ z=>(by cases z),ns,rfl,hl,λM'=>?_⟩
  intro v H' k r rh;cases r;exact q _
theorem ZnX{K:X6}{H:Hp}{a:Addr}{vs:List V}(o:Only H)(h:SqL K H a vs):FrL K H a vs:=by
 rcases h with(h|⟨ob,h⟩)|h
 ·rcases o a with z|⟨ob,xs,z⟩
  ·rw[h]at z;cases z
  ·rw[h]at z;cases z
 ·exact .inl ⟨ob,h⟩
 ·exact .inr h
theorem Zny{P:Xn}{w:Xj}{K:X6}{mg:Str->Option X0}{base:Heap}{k:Nat}{G:GI}{Φ Ψ:List (Str×SpM)}(hb:∀x∈G.bl,mg x=none)(hg:∀p∈G.gl,∃tk,mg p.1=some (.int p.2 tk))(hf:Φ.map (·.1)=G.fns)
  (hm:∀p∈Φ++Ψ,MonW p.2) (hF:∀p∈Φ,∃fa fd ps,FnOk P w K mg base CX0 k fa fd ps (liSp K p.2)/\mg p.1=some (.ref fa)/\Xr K (.ref fa)=true/\Binds K fd ps [])
  (ht:∀q∈G.mts,∃f sp,(Φ++Ψ)[q.1]?=some (f,sp)/\∃C fa fd ps,FnOk P w K mg base CX0 k fa fd ps (liSp K sp)/\Xi K Xf q.2.1=some (some (.ref C))/\Cls K C/\Meth K C q.2.2 fa/\Binds K fd ps [])
  (hk:∀q∈G.mks,∃f sp,(Φ++Ψ)[q.1]?=some (f,sp)/\∃k' C fa fd ps,k'+1≤k/\FnOk P w K mg base CX0 k' fa fd ps (liSp K sp)/\Xi K Xf q.2=some (some (.ref C))/\mg q.2=some (.ref C)/\Mk K C fa/\Binds K fd ps [])
  (hc:∀q∈G.cls,∃C,Xi K Xf q.1=some (some (.ref C))/\Cls K C/\Du K C q.2):Fts P w K mg base k G (Φ++Ψ)where
 bls:=λx h=>hb x (by simpa using h)
 gls:=λx i h=>hg (x,i) (Wf h)
 fnn:=λj f h=>by
  rw[<- hf,Xq]at h;cases e:Φ[j]? with
  |none=>rw[e]at h;cases h
  |some p=>rw[e]at h;cases h;exact⟨p.2,by rw[Uy (XE.mp e).1,e]⟩
 mon:=λj f sp h=>hm (f,sp) (XI h)
 fns:=λj f sp hj h=>by
  rw[<- hf,Xq]at hj;cases e:Φ[j]? with
  |none=>rw[e]at hj;cases hj
  |some p=>
   rw[Uy (XE.mp e).1,e]at h;cases h;exact hF (f,sp) (XI e)
 mts:=λj c m h=>ht (j,c,m) (by simpa using h)
 mks:=λj c h=>hk (j,c) (by simpa using h)
 cls:=λc f h=>hc (c,f) (by simpa using h)
theorem Xw{P:Xn}{w:Xj}{K:X6}{mg:Str->Option X0}{base:Heap}{k:Nat}{G:GI}{Φ:List (Str×SpM)}(hb:∀x∈G.bl,mg x=none)(hg:∀p∈G.gl,∃tk,mg p.1=some (.int p.2 tk))(hf:Φ.map (·.1)=G.fns)
  (hm:∀p∈Φ,MonW p.2) (hF:∀p∈Φ,∃fa fd ps,FnOk P w K mg base CX0 k fa fd ps (liSp K p.2)/\mg p.1=some (.ref fa)/\Xr K (.ref fa)=true/\Binds K fd ps []) (h1:G.mts=[]:=by rfl) (h2:G.mks=[]:=by rfl) (h3:G.cls=[]:=by rfl):Fts P w K mg base k G Φ:=by
 have:=Zny (Ψ:=[]) hb hg hf (by rw[Bc];exact hm) hF (by rw[h1];exact λ_ z=>nomatch z) (by rw[h2];exact λ_ z=>nomatch z) (by rw[h3];exact λ_ z=>nomatch z)
 rwa [Bc]at this
theorem us0{p:List X0->Prop}(h:p [])(us:List X0)(hl:us.length=0):p us:=by cases us with|nil=>exact h|cons _ _=>cases hl
theorem us1{p:List X0->Prop}(h:∀a0,p [a0])(us:List X0)(hl:us.length=1):p us:=by cases us with|nil=>cases hl|cons a r=>exact us0 (p:=λr=>p (a::r)) (h a) r (A9 hl)
theorem us2{p:List X0->Prop}(h:∀a0 a1,p [a0,a1])(us:List X0)(hl:us.length=2):p us:=by cases us with|nil=>cases hl|cons a r=>exact us1 (p:=λr=>p (a::r)) (h a) r (A9 hl)
theorem us3{p:List X0->Prop}(h:∀a0 a1 a2,p [a0,a1,a2])(us:List X0)(hl:us.length=3):p us:=by cases us with|nil=>cases hl|cons a r=>exact us2 (p:=λr=>p (a::r)) (h a) r (A9 hl)
theorem us4{p:List X0->Prop}(h:∀a0 a1 a2 a3,p [a0,a1,a2,a3])(us:List X0)(hl:us.length=4):p us:=by cases us with|nil=>cases hl|cons a r=>exact us3 (p:=λr=>p (a::r)) (h a) r (A9 hl)
theorem us5{p:List X0->Prop}(h:∀a0 a1 a2 a3 a4,p [a0,a1,a2,a3,a4])(us:List X0)(hl:us.length=5):p us:=by cases us with|nil=>cases hl|cons a r=>exact us4 (p:=λr=>p (a::r)) (h a) r (A9 hl)
section
variable{M:MH}{Q:QM}{i j:Int}{x y:MV}{a b:Addr}
theorem Zpo:wBin .Add (.int i) (.int j) M Q=Q (.int (i+j)) M:=rfl
theorem ZoK:wBin .Sub (.int i) (.int j) M Q=Q (.int (i - j)) M:=rfl
theorem Zpa:wBin .Mult (.int i) (.int j) M Q=(CMul i j/\Q (.int (i*j)) M):=rfl
theorem ZmY:wBin .FloorDiv (.int i) (.int j) M Q=(Ag i j/\Q (.int (i/j)) M):=rfl
theorem Zpb:wBin .Mod (.int i) (.int j) M Q=(0<j/\Q (.int (i%j)) M):=rfl
theorem ZoW:wBin .Pow (.int i) (.int j) M Q=(CPow i j/\Q (.int (i^j.toNat)) M):=rfl
theorem Zn2{x y:Str}:wBin .Add (.str x) (.str y) M Q=(x.length+y.length≤sizeLine/\Q (.str (x++y)) M):=rfl
theorem ZmJ{x:Str}:wBin .Mult (.str x) (.int i) M Q=(x.length≤16/\ -1000≤i/\i≤1000/\Q (.str (Txt.mul x i)) M):=rfl
theorem q_lt:wCmp .Lt (.int i) (.int j) M Q=Q (.bl (decide (i<j))) M:=propext ⟨fun⟨_,_,e,f,h⟩=>by cases e;cases f;exact h,λh=>⟨i,j,rfl,rfl,h⟩⟩
theorem q_le:wCmp .LtE (.int i) (.int j) M Q=Q (.bl (decide (i≤j))) M:=propext ⟨λh=>Or.elim h (fun⟨_,_,e,f,h⟩=>by cases e;cases f;exact h) (fun⟨_,_,e,_⟩=>nomatch e),λh=>Or.inl ⟨i,j,rfl,rfl,h⟩⟩
theorem Zpc{x y:Str}:wCmp .LtE (.str x) (.str y) M Q=Q (.bl (!decide (y.cps.toList<x.cps.toList))) M:=propext ⟨λh=>Or.elim h (fun⟨_,_,e,_⟩=>nomatch e) (fun⟨_,_,e,f,h⟩=>by cases e;cases f;exact h),λh=>Or.inr ⟨x,y,rfl,rfl,h⟩⟩
theorem q_gt:wCmp .Gt (.int i) (.int j) M Q=Q (.bl (decide (j<i))) M:=propext ⟨fun⟨_,_,e,f,h⟩=>by cases e;cases f;exact h,λh=>⟨i,j,rfl,rfl,h⟩⟩
theorem Zpk:wCmp .Eq (.int i) (.int j) M Q=Q (.bl (decide (i=j))) M:=rfl
theorem Zp7:wCmp .NotEq (.int i) (.int j) M Q=Q (.bl (!decide (i=j))) M:=rfl
theorem Zpi{x y:Str}:wCmp .Eq (.str x) (.str y) M Q=Q (.bl (decide (x=y))) M:=rfl
theorem Zp5{x y:Str}:wCmp .NotEq (.str x) (.str y) M Q=Q (.bl (!decide (x=y))) M:=rfl
theorem Zpl{x y:Bool}:wCmp .Eq (.bl x) (.bl y) M Q=Q (.bl (decide (x=y))) M:=rfl
theorem Zp8{x y:Bool}:wCmp .NotEq (.bl x) (.bl y) M Q=Q (.bl (!decide (x=y))) M:=rfl
theorem ZkC:wCmp .IsNot x .non M Q=Q (.bl (!Zf x)) M:=propext ⟨λh=>Or.elim h (λh=>h.2) (fun⟨_,e,_⟩=>nomatch e),λh=>Or.inl ⟨rfl,h⟩⟩
theorem Zpj{y:MV}:wCmp .Eq (.ref a) y M Q=wEq (.ref a) y M λb=>Q (.bl b) M:=rfl
theorem Zp6{y:MV}:wCmp .NotEq (.ref a) y M Q=wEq (.ref a) y M λb=>Q (.bl (!b)) M:=rfl
theorem Zph{xs:List MV}{y:MV}:wCmp .Eq (.tup xs) y M Q=wEq (.tup xs) y M λb=>Q (.bl b) M:=rfl
theorem Zp4{xs:List MV}{y:MV}:wCmp .NotEq (.tup xs) y M Q=wEq (.tup xs) y M λb=>Q (.bl (!b)) M:=rfl
theorem q_in:wCmp .In x y M Q=wIn x y M λb=>Q (.bl b) M:=rfl
theorem Zp3:wCmp .NotIn x y M Q=wIn x y M λb=>Q (.bl (!b)) M:=rfl
theorem E5{xs:List MV}{k:Bool->Prop}(h:M a=some (.lst xs))(hb:M b=some (.lst []))(q:k xs.isEmpty):wEq (.ref a) (.ref b) M k:=.inr (.inl ⟨a,b,xs,rfl,rfl,h,hb,q⟩)
theorem J3{k:Bool->Prop}{m:Nat}(n:eqS x y=none)(h:Alike M m x y)(le:m≤60)(q:k true):wEq x y M k:=by
 unfold wEq;rw[n];exact .inl ⟨m,le,h,q⟩
theorem Alike.flat{x:MV}(n:Nat)(f:Yu x=true):Alike M n x x:=by
 cases n<;>rw[Alike]
 ·exact⟨f,rfl⟩
 ·exact .inl ⟨f,rfl⟩
theorem Alike.tup{xs ys:List MV}{n:Nat}(e:xs.length=ys.length)(h:∀(i:Nat) u v,xs[i]?=some u->ys[i]?=some v->Alike M n u v):Alike M (n+1) (.tup xs) (.tup ys):=by
 rw[Alike];exact .inr (.inl ⟨xs,ys,rfl,rfl,e,h⟩)
theorem Alike.two{a b a' b':MV}{n:Nat}(h1:Alike M n a a')(h2:Alike M n b b'):Alike M (n+1) (.tup [a,b]) (.tup [a',b']):=by
 refine .tup rfl λi u v h h'=>?_
 match i with
 |0=>cases h;cases h';exact h1
 |1=>cases h;cases h';exact h2
 |i+2=>cases h
theorem Alike.lst{x y:MV}{xs ys:List MV}{n:Nat}(h1:LstM M x xs)(h2:LstM M y ys)(e:xs.length=ys.length)(h:∀(i:Nat) u v,xs[i]?=some u->ys[i]?=some v->Alike M n u v):Alike M (n+1) x y:=by
 rw[Alike];exact .inr (.inr (.inl ⟨xs,ys,h1,h2,e,h⟩))
theorem Alike.dic{a b:Addr}{ka kb:List (Key×MV)}{n:Nat}(h1:M a=some (.dic ka))(h2:M b=some (.dic kb))(e:ka.length=kb.length)(h:∀k u,(k,u)∈ka->∃v,valM kb k=some v/\Alike M n u v):Alike M (n+1) (.ref a) (.ref b):=by
 rw[Alike];exact .inr (.inr (.inr ⟨a,b,ka,kb,rfl,rfl,h1,h2,e,h⟩))
noncomputable def ixO(o:Option MO)(y:MV)(M:MH)(Q:QM):Prop:=match o with
 |some (.lst xs)=>∃i v,y=.int i/\atI xs i=some v/\Q v M
 |some (.dic kvs)=>∃kk v,keyM y=some kk/\valM kvs kk=some v/\Q v M
 |some (.fdic _ kvs)=>∃kk v,keyM y=some kk/\valM kvs kk=some v/\Q v M
 |_=>False
theorem J4:wIx (.ref a) y M Q=ixO (M a) y M Q:=propext ⟨λh=>by
  rcases h with⟨xs,i,v,e,r⟩|⟨kvs,kk,v,e,r⟩|⟨o,kvs,kk,v,e,r⟩
  ·rw[e];exact⟨i,v,r⟩
  ·rw[e];exact⟨kk,v,r⟩
  ·rw[e];exact⟨kk,v,r⟩,λh=>by
  cases e:M a with
  |none=>rw[e]at h;exact h.elim
  |some o=>
   rw[e]at h;cases o with
   |lst xs=>obtain⟨i,v,r⟩:=h;exact .inl ⟨xs,i,v,e,r⟩
   |dic kvs=>obtain⟨kk,v,r⟩:=h;exact .inr (.inl ⟨kvs,kk,v,e,r⟩)
   |ins _ _=>exact h.elim
   |fdic o kvs=>obtain⟨kk,v,r⟩:=h;exact .inr (.inr ⟨o,kvs,kk,v,e,r⟩)⟩
theorem J5{xs:List MV}:ixO (some (.lst xs)) (.int i) M Q=∃v,atI xs i=some v/\Q v M:=propext ⟨fun⟨_,v,e,h⟩=>by cases e;exact⟨v,h⟩,fun⟨v,h⟩=>⟨i,v,rfl,h⟩⟩
theorem ZkA{kvs:List (Key×MV)}{x:Str}:ixO (some (.dic kvs)) (.str x) M Q=∃v,valM kvs (Xv x)=some v/\Q v M:=propext ⟨fun⟨_,v,e,h⟩=>by cases e;exact⟨v,h⟩,fun⟨v,h⟩=>⟨_,v,rfl,h⟩⟩
theorem Zkz{o:Obj}{kvs:List (Key×MV)}{x:Str}:ixO (some (.fdic o kvs)) (.str x) M Q=∃v,valM kvs (Xv x)=some v/\Q v M:=propext ⟨fun⟨_,v,e,h⟩=>by cases e;exact⟨v,h⟩,fun⟨v,h⟩=>⟨_,v,rfl,h⟩⟩
theorem J7{xs:List MV}:wIx (.tup xs) (.int i) M Q=∃v,atI xs i=some v/\Q v M:=propext ⟨fun⟨_,v,e,h⟩=>by cases e;exact⟨v,h⟩,fun⟨v,h⟩=>⟨i,v,rfl,h⟩⟩
theorem Zpe{xs:List MV}:wIx (.frl xs) (.int i) M Q=∃v,atI xs i=some v/\Q v M:=propext ⟨fun⟨_,v,e,h⟩=>by cases e;exact⟨v,h⟩,fun⟨v,h⟩=>⟨i,v,rfl,h⟩⟩
theorem Zpd{z:Str}:wIx (.str z) (.int i) M Q=(z.length≤sizeLine/\∃c,atI z.cps.toList i=some c/\Q (.str ⟨#[c]⟩) M):=propext ⟨fun⟨_,c,e,h1,h2⟩=>by cases e;exact⟨h1,c,h2⟩,fun⟨h1,c,h2⟩=>⟨i,c,rfl,h1,h2⟩⟩
noncomputable def slO(o:Option MO)(lo hi:Option Int)(M:MH)(Q:QM):Prop:=match o with
 |some (.lst xs)=>∀p,M p=none->Q (.ref p) (updM M p (.lst (cutM xs lo hi)))
 |_=>False
theorem ZmC{lo hi:Option Int}{xs:List MV}:slO (some (.lst xs)) lo hi M Q=∀p,M p=none->Q (.ref p) (updM M p (.lst (cutM xs lo hi))):=rfl
theorem ZoQ{lo hi:Option Int}{xs:List MV}:wSl (.frl xs) lo hi M Q=∀p,M p=none->Q (.ref p) (updM M p (.lst (cutM xs lo hi))):=rfl
theorem ZoP{lo hi:Option Int}{z:Str}:wSl (.str z) lo hi M Q=(z.length≤sizeLine/\Q (.str (cutS z lo hi)) M):=rfl
theorem ZoO{lo hi:Option Int}{xs:List MV}:wSl (.tup xs) lo hi M Q=(¬(HT.sIx xs.length 0 lo=0/\HT.sIx xs.length xs.length hi=xs.length)/\Q (.tup (cutM xs lo hi)) M):=rfl
theorem ZmO{xs:List MV}:wBi .len [.tup xs] M Q=Q (.int xs.length) M:=rfl
theorem ZmR{xs:List MV}:wBi .len [.frl xs] M Q=Q (.int xs.length) M:=rfl
theorem ZmP{z:Str}:wBi .len [.str z] M Q=(z.length≤sizeLine/\Q (.int z.length) M):=rfl
noncomputable def lenO(o:Option MO)(M:MH)(Q:QM):Prop:=match o with
 |some (.lst xs)=>Q (.int xs.length) M
 |some (.dic kvs)=>Q (.int kvs.length) M
 |_=>False
theorem ZmQ:wBi .len [.ref a] M Q=lenO (M a) M Q:=propext ⟨λh=>by
  rcases h with⟨xs,e,h⟩|⟨kvs,e,h⟩<;>(rw[e];exact h),λh=>by
  cases e:M a with
  |none=>rw[e]at h;exact h.elim
  |some o=>
   rw[e]at h;cases o with
   |lst xs=>exact .inl ⟨xs,e,h⟩
   |dic kvs=>exact .inr ⟨kvs,e,h⟩
   |ins _ _=>exact h.elim
   |fdic _ _=>exact h.elim⟩
theorem Zkx{xs:List MV}:lenO (some (.lst xs)) M Q=Q (.int xs.length) M:=rfl
theorem Zky{kvs:List (Key×MV)}:lenO (some (.dic kvs)) M Q=Q (.int kvs.length) M:=rfl
noncomputable def isO(o:Option Ty7)(c:Ty7)(M:MH)(Q:QM):Prop:=match o with
 |some T=>c≠.none/\Q (.bl (isTy T c)) M
 |none=>False
theorem Zpf{c:Ty7}:wBi .isinst [x,.ty c] M Q=isO (tyM M x) c M Q:=propext (by
 have e:wBi .isinst [x,.ty c] M Q=∃T,tyM M x=some T/\c≠.none/\Q (.bl (isTy T c)) M:=by cases x<;>rfl
 rw[e];exact⟨fun⟨T,e,h⟩=>by rw[e];exact h,λh=>by
  cases e:tyM M x with
  |none=>rw[e]at h;exact h.elim
  |some T=>rw[e]at h;exact⟨T,rfl,h⟩⟩)
noncomputable def isO2(o:Option Ty7)(c d:Ty7)(M:MH)(Q:QM):Prop:=match o with
 |some T=>c≠.none/\d≠.none/\Q (.bl (isTy T c||isTy T d)) M
 |none=>False
theorem ZmV{c d:Ty7}:wBi .isinst [x,.tup [.ty c,.ty d]] M Q=isO2 (tyM M x) c d M Q:=propext (by
 have e:wBi .isinst [x,.tup [.ty c,.ty d]] M Q=∃T,tyM M x=some T/\c≠.none/\d≠.none/\Q (.bl (isTy T c||isTy T d)) M:=by cases x<;>rfl
 rw[e];exact⟨fun⟨T,e,h⟩=>by rw[e];exact h,λh=>by
  cases e:tyM M x with
  |none=>rw[e]at h;exact h.elim
  |some T=>rw[e]at h;exact⟨T,rfl,h⟩⟩)
theorem ZkB{T c d:Ty7}:isO2 (some T) c d M Q=(c≠.none/\d≠.none/\Q (.bl (isTy T c||isTy T d)) M):=rfl
theorem ZmU{T c:Ty7}:isO (some T) c M Q=(c≠.none/\Q (.bl (isTy T c)) M):=rfl
theorem Zoz:tyM M (.int i)=some .int:=rfl
theorem ZoA{k:Bool}:tyM M (.bl k)=some .bool:=rfl
theorem Zow{k:Str}:tyM M (.str k)=some .str:=rfl
theorem Zoy:tyM M .non=some .none:=rfl
theorem Zov{xs:List MV}:tyM M (.tup xs)=some .tuple:=rfl
noncomputable def tyO:Option MO->Option Ty7
 |some (.lst _)=>some .list
 |some (.dic _)=>some .dict
 |_=>none
theorem Zox:tyM M (.ref a)=tyO (M a):=by
 cases e:M a with
 |none=>simp[tyM,tyO,e]
 |some o=>cases o<;>simp[tyM,tyO,e]
theorem Zmw{xs:List MV}:tyO (some (.lst xs))=some .list:=rfl
theorem Zmx{kvs:List (Key×MV)}:tyO (some (.dic kvs))=some .dict:=rfl
theorem ZmN:wBi .max [.ref a] M Q=∃ns:List Int,M a=some (.lst (ns.map MV.int))/\0<ns.length/\∀m,m∈ns->(∀x∈ns,x≤m)->Q (.int m) M:=rfl
theorem ZmL:wBi .min [.ref a] M Q=∃ns:List Int,M a=some (.lst (ns.map MV.int))/\0<ns.length/\∀m,m∈ns->(∀x∈ns,m≤x)->Q (.int m) M:=rfl
theorem Zpn:wBi .all [.ref a] M Q=∃bs:List Bool,M a=some (.lst (bs.map MV.bl))/\Q (.bl (bs.all id)) M:=rfl
theorem ZkE:wBi .dictL [.ref a] M Q=∃ps:List (Key×MV),M a=some (.lst (ps.map prM))/\∀p,M p=none->Q (.ref p) (updM M p (.dic (UM ps))):=rfl
theorem Zku{xs:List MV}:wBi .list [.tup xs] M Q=∀p,M p=none->Q (.ref p) (updM M p (.lst xs)):=rfl
theorem Zkw{xs:List MV}:wBi .list [.frl xs] M Q=∀p,M p=none->Q (.ref p) (updM M p (.lst xs)):=rfl
theorem Zkv:wBi .list [.ref a] M Q=∃xs,M a=some (.lst xs)/\∀p,M p=none->Q (.ref p) (updM M p (.lst xs)):=rfl
theorem Zmy{xs:List MV}:wBi .tuple [.tup xs] M Q=Q (.tup xs) M:=rfl
theorem Zmz:wBi .tuple [.ref a] M Q=∃xs,M a=some (.lst xs)/\Q (.tup xs) M:=rfl
theorem ZkD{xs:List MV}:wBi .dict [.tup xs] M Q=∃ps:List (Key×MV),xs=ps.map prM/\∀p,M p=none->Q (.ref p) (updM M p (.dic (UM ps))):=rfl
theorem ZmZ:wBi .dict [.ref a] M Q=∃kvs,M a=some (.dic kvs)/\∀p,M p=none->Q (.ref p) (updM M p (.dic kvs)):=rfl
noncomputable def apO(o:Option MO)(a:Addr)(y:MV)(M:MH)(Q:QM):Prop:=match o with
 |some (.lst xs)=>xs.length<sizeLine/\Q .non (updM M a (.lst (xs++[y])))
 |_=>False
theorem Zpm:wMts .append (.ref a) [y] M Q=apO (M a) a y M Q:=propext ⟨fun⟨xs,e,h⟩=>by rw[e];exact h,λh=>by
  cases e:M a with
  |none=>rw[e]at h;exact h.elim
  |some o=>
   rw[e]at h;cases o with
   |lst xs=>exact⟨xs,e,h⟩
   |dic kvs=>exact h.elim
   |ins _ _=>exact h.elim
   |fdic _ _=>exact h.elim⟩
theorem Zn1{xs:List MV}:apO (some (.lst xs)) a y M Q=(xs.length<sizeLine/\Q .non (updM M a (.lst (xs++[y])))):=rfl
theorem Zpg:wMts .extend (.ref a) [.ref b] M Q=∃xs,M a=some (.lst xs)/\∃ys,M b=some (.lst ys)/\xs.length+ys.length≤sizeLine/\Q .non (updM M a (.lst (xs++ys))):=rfl
theorem ZmH:mtOk .append x M=(∃a xs,x=.ref a/\M a=some (.lst xs)):=rfl
theorem ZmG:mtOk .extend x M=(∃a xs,x=.ref a/\M a=some (.lst xs)):=rfl
theorem ZmF:mtOk .remove x M=(∃a xs,x=.ref a/\M a=some (.lst xs)):=rfl
theorem ZoU{z:Str}:wMts .remove (.ref a) [.str z] M Q=∃xs,M a=some (.lst xs)/\∃zs:List Str,xs=zs.map MV.str/\z∈zs/\Q .non (updM M a (.lst ((zs.erase z).map MV.str))):=rfl
theorem ZmI:mtOk .dclear (.ref a) M=(∃kvs,M a=some (.dic kvs)):=propext ⟨fun⟨_,kvs,e,h⟩=>by cases e;exact⟨kvs,h⟩,fun⟨kvs,h⟩=>⟨a,kvs,rfl,h⟩⟩
theorem Zn0:wMts .dclear (.ref a) [] M Q=(∃kvs,M a=some (.dic kvs)/\Q .non (updM M a (.dic []))):=propext ⟨fun⟨_,kvs,e,h,_,q⟩=>by cases e;exact⟨kvs,h,q⟩,fun⟨kvs,h,q⟩=>⟨a,kvs,rfl,h,rfl,q⟩⟩
noncomputable def puO(o:Option MO)(a:Addr)(i v:MV)(M:MH)(Q:MH->Prop):Prop:=match o with
 |some (.lst xs)=>∃k j,i=.int k/\ixN xs.length k=some j/\Q (updM M a (.lst (xs.set j v)))
 |some (.dic kvs)=>∃kk,keyM i=some kk/\kvs.length<sizeLine/\Q (updM M a (.dic (putM kvs kk v)))
 |_=>False
theorem ZoV{v:MV}{R:MH->Prop}:wPut (.ref a) x v M R=puO (M a) a x v M R:=propext ⟨λh=>by
  rcases h with⟨xs,k,j,e,r⟩|⟨kvs,kk,e,r⟩
  ·rw[e];exact⟨k,j,r⟩
  ·rw[e];exact⟨kk,r⟩,λh=>by
  cases e:M a with
  |none=>rw[e]at h;exact h.elim
  |some o=>
   rw[e]at h;cases o with
   |lst xs=>obtain⟨k,j,r⟩:=h;exact .inl ⟨xs,k,j,e,r⟩
   |dic kvs=>obtain⟨kk,r⟩:=h;exact .inr ⟨kvs,kk,e,r⟩
   |ins _ _=>exact h.elim
   |fdic _ _=>exact h.elim⟩
theorem Zkt{kvs:List (Key×MV)}{z:Str}{v:MV}{R:MH->Prop}:puO (some (.dic kvs)) a (.str z) v M R=(kvs.length<sizeLine/\R (updM M a (.dic (putM kvs (Xv z) v)))):=propext ⟨fun⟨_,e,h⟩=>by cases e;exact h,λh=>⟨_,rfl,h⟩⟩
noncomputable def srO(o:Option MO)(a:Addr)(M:MH)(Q:Src->MH->Prop):Prop:=match o with
 |some (.lst xs)=>Q (.lst a xs) M
 |some (.dic kvs)=>∀o,Q (.dic a o kvs) (updM M a (.fdic o kvs))
 |_=>False
noncomputable def srV(v:MV)(M:MH)(Q:Src->MH->Prop):Prop:=(∃xs,(v=.tup xs\/v=.frl xs)/\Q (.tup xs) M)\/(∃a xs,v=.ref a/\M a=some (.lst xs)/\Q (.lst a xs) M)\/(∃a kvs,v=.ref a/\M a=some (.dic kvs)/\∀o,Q (.dic a o kvs) (updM M a (.fdic o kvs)))\/∃z,v=.str z/\Q (.str z) M
theorem ZoR{Φ:List (Str×SpM)}{e:IE}{σ:Sm}{R:Src->MH->Prop}:wSr Φ (.seq e) σ M R=wE Φ e σ M λv M1=>srV v M1 R:=rfl
theorem ZoN{R:Src->MH->Prop}:srV (.ref a) M R=srO (M a) a M R:=propext ⟨λh=>by
  rcases h with⟨xs,e,h⟩|⟨b,xs,e,f,h⟩|⟨b,xs,e,f,h⟩|⟨z,e,_⟩
  ·rcases e with e|e<;>cases e
  ·cases e;rw[f];exact h
  ·cases e;rw[f];exact h
  ·exact(nomatch e),λh=>by
  cases e:M a with
  |none=>rw[e]at h;exact h.elim
  |some o=>
   rw[e]at h;cases o with
   |lst xs=>exact .inr (.inl ⟨a,xs,rfl,e,h⟩)
   |dic kvs=>exact .inr (.inr (.inl ⟨a,kvs,rfl,e,h⟩))
   |ins _ _=>exact h.elim
   |fdic _ _=>exact h.elim⟩
theorem ZmB{kvs:List (Key×MV)}{R:Src->MH->Prop}:srO (some (.dic kvs)) a M R=∀o,R (.dic a o kvs) (updM M a (.fdic o kvs)):=rfl
theorem ZoM{z:Str}{R:Src->MH->Prop}:srV (.str z) M R=R (.str z) M:=propext ⟨λh=>by
  rcases h with⟨xs,e,h⟩|⟨_,_,e,_⟩|⟨_,_,e,_⟩|⟨_,e,h⟩
  ·rcases e with e|e<;>exact(nomatch e)
  ·exact(nomatch e)
  ·exact(nomatch e)
  ·cases e;exact h,λh=>.inr (.inr (.inr ⟨z,rfl,h⟩))⟩
theorem ZoC{x:Str}:Src.thaw M (.str x)=M:=rfl
theorem ZoY{x:Str}:Src.okT M (.str x)=True:=rfl
theorem ZoG{xs:List MV}:Src.thaw M (.tup xs)=M:=rfl
theorem ZoF{xs:List MV}:Src.thaw M (.lst a xs)=M:=rfl
theorem ZoE{n:Nat}:Src.thaw M (.rng i n)=M:=rfl
theorem ZoD{o:Obj}{kvs:List (Key×MV)}:Src.thaw M (.dic a o kvs)=updM M a (.dic kvs):=rfl
theorem Zp2{xs:List MV}:Src.okT M (.tup xs)=True:=rfl
theorem Zp1{xs:List MV}:Src.okT M (.lst a xs)=True:=rfl
theorem Zp0{n:Nat}:Src.okT M (.rng i n)=True:=rfl
theorem ZoZ{o:Obj}{kvs:List (Key×MV)}:Src.okT M (.dic a o kvs)=(M a=some (.fdic o kvs)):=rfl
theorem ZmA{xs:List MV}{R:Src->MH->Prop}:srO (some (.lst xs)) a M R=R (.lst a xs) M:=rfl
theorem ZoL{zs:List MV}{R:Src->MH->Prop}:srV (.tup zs) M R=R (.tup zs) M:=propext ⟨λh=>by
  rcases h with⟨xs,e,h⟩|h
  ·rcases e with e|e
   ·cases e;exact h
   ·exact nomatch e
  ·rcases h with⟨_,_,e,_⟩|⟨_,_,e,_⟩|⟨_,e,_⟩<;>exact(nomatch e),λh=>.inl ⟨zs,.inl rfl,h⟩⟩
noncomputable def rgV(v:MV)(M:MH)(Q:Src->MH->Prop):Prop:=∃j,v=.int j/\ -(2^62)≤j/\j<2^62/\Q (.rng 0 j.toNat) M
theorem ZoS{Φ:List (Str×SpM)}{e:IE}{σ:Sm}{R:Src->MH->Prop}:wSr Φ (.rng e) σ M R=wE Φ e σ M λv M1=>rgV v M1 R:=rfl
theorem ZoT{R:Src->MH->Prop}:rgV (.int i) M R=(-(2^62)≤i/\i<2^62/\R (.rng 0 i.toNat) M):=propext ⟨fun⟨_,e,h⟩=>by cases e;exact h,λh=>⟨i,rfl,h⟩⟩
noncomputable def rgV2(x y:MV)(M:MH)(Q:Src->MH->Prop):Prop:=∃i j,x=.int i/\y=.int j/\(-(2^62)≤i/\i<2^62/\ -(2^62)≤j/\j<2^62)/\Q (.rng i (j - i).toNat) M
theorem ZmD{Φ:List (Str×SpM)}{e f g:IE}{σ:Sm}{R:Src->MH->Prop}:wSr Φ (.rng3 e f g) σ M R=wE Φ e σ M λx M1=>wE Φ f σ M1 λy M2=>wE Φ g σ M2 λz M3=>∃i j,x=.int i/\y=.int j/\z=.int 2/\(0≤i/\i<2^60/\0≤j/\j<2^60)/\R (.rst i 2 (len2 i j)) M3:=rfl
theorem ZoB{n:Nat}{st:Int}:Src.thaw M (.rst i st n)=M:=rfl
theorem ZoX{n:Nat}{st:Int}:Src.okT M (.rst i st n)=True:=rfl
theorem ZmE{Φ:List (Str×SpM)}{e f:IE}{σ:Sm}{R:Src->MH->Prop}:wSr Φ (.rng2 e f) σ M R=wE Φ e σ M λx M1=>wE Φ f σ M1 λy M2=>rgV2 x y M2 R:=rfl
theorem ZmM:wBi .max [.int i,.int j] M Q=Q (.int (if j>i then j else i)) M:=rfl
theorem ZmK:wBi .min [.int i,.int j] M Q=Q (.int (if j<i then j else i)) M:=rfl
theorem ZmW:wBi .int [.int i] M Q=Q (.int i) M:=rfl
theorem ZmX{k:Bool}:wBi .int [.bl k] M Q=Q (.int (if k then 1 else 0)) M:=rfl
end
theorem v_s{v:MV}{k:MV->Prop}:onV (some (some v)) k=k v:=rfl
theorem b_0{b:Bool}{k:Bool->Prop}:onB (.bl b) k=k b:=rfl
theorem f_s{f:Str}{sp:SpM}{k:SpM->Prop}:onF (some (f,sp)) k=k sp:=rfl
theorem ZpJ{Φ:List (Str×SpM)}{σ:Sm}{M:MH}{Q:QM}{i:Nat}:wE Φ (.var i) σ M Q=onV σ[i]? (λv=>Q v M):=rfl
theorem ZpQ{Φ:List (Str×SpM)}{σ:Sm}{M:MH}{Q:QM}{i:Int}:wE Φ (.int i) σ M Q=(Q (.int i) M):=rfl
theorem ZpL{Φ:List (Str×SpM)}{σ:Sm}{M:MH}{Q:QM}{x:Str}:wE Φ (.str x) σ M Q=(Q (.str x) M):=rfl
theorem e_bl{Φ:List (Str×SpM)}{σ:Sm}{M:MH}{Q:QM}{b:Bool}:wE Φ (.bl b) σ M Q=(Q (.bl b) M):=rfl
theorem ZpN{Φ:List (Str×SpM)}{σ:Sm}{M:MH}{Q:QM}:wE Φ (.non) σ M Q=(Q .non M):=rfl
theorem ZpS{Φ:List (Str×SpM)}{σ:Sm}{M:MH}{Q:QM}{x:Str}{i:Int}:wE Φ (.glb x i) σ M Q=(Q (.int i) M):=rfl
theorem e_ty{Φ:List (Str×SpM)}{σ:Sm}{M:MH}{Q:QM}{c:Ty7}:wE Φ (.ty c) σ M Q=(Q (.ty c) M):=rfl
theorem ZpW{Φ:List (Str×SpM)}{σ:Sm}{M:MH}{Q:QM}{op:UT}{a b:IE}:wE Φ (.bin op a b) σ M Q=(wE Φ a σ M λx M1=>wE Φ b σ M1 λy M2=>wBin op x y M2 Q):=rfl
theorem ZpM{Φ:List (Str×SpM)}{σ:Sm}{M:MH}{Q:QM}{a:IE}:wE Φ (.not a) σ M Q=(wE Φ a σ M λx M1=>onB x λb=>Q (.bl (!b)) M1):=rfl
theorem ZpU{Φ:List (Str×SpM)}{σ:Sm}{M:MH}{Q:QM}{op:Yw}{a b:IE}:wE Φ (.cmp op a b) σ M Q=(wE Φ a σ M λx M1=>wE Φ b σ M1 λy M2=>wCmp op x y M2 Q):=rfl
theorem ZpV{Φ:List (Str×SpM)}{σ:Sm}{M:MH}{Q:QM}{op op':Yw}{a b c:IE}:wE Φ (.chn op op' a b c) σ M Q=(wE Φ a σ M λx M1=>wE Φ b σ M1 λy M2=>wCmp op x y M2 λz M3=>onB z λk=>(if k=true then wE Φ c σ M3 λw M4=>wCmp op' y w M4 Q else Q (.bl false) M3)):=rfl
theorem ZpX{Φ:List (Str×SpM)}{σ:Sm}{M:MH}{Q:QM}{a b:IE}:wE Φ (.and a b) σ M Q=(wE Φ a σ M λx M1=>onB x λc=>(if c=true then wE Φ b σ M1 Q else Q (.bl false) M1)):=rfl
theorem e_or{Φ:List (Str×SpM)}{σ:Sm}{M:MH}{Q:QM}{a b:IE}:wE Φ (.or a b) σ M Q=(wE Φ a σ M λx M1=>onB x λc=>(if c=true then Q (.bl true) M1 else wE Φ b σ M1 Q)):=rfl
theorem ZpR{Φ:List (Str×SpM)}{σ:Sm}{M:MH}{Q:QM}{a b c:IE}:wE Φ (.ife c a b) σ M Q=(wE Φ c σ M λx M1=>onB x λk=>(if k=true then wE Φ a σ M1 Q else wE Φ b σ M1 Q)):=rfl
theorem ZpK{Φ:List (Str×SpM)}{σ:Sm}{M:MH}{Q:QM}{es:IEs}:wE Φ (.tup es) σ M Q=(wEs Φ es σ M λvs M1=>vs.length≤sizeLine/\Q (.tup vs) M1):=rfl
theorem ZpP{Φ:List (Str×SpM)}{σ:Sm}{M:MH}{Q:QM}{es:IEs}:wE Φ (.lst es) σ M Q=(wEs Φ es σ M λvs M1=>vs.length≤sizeLine/\∀p,M1 p=none->Q (.ref p) (updM M1 p (.lst vs))):=rfl
theorem ZpT{Φ:List (Str×SpM)}{σ:Sm}{M:MH}{Q:QM}:wE Φ (.dic) σ M Q=(∀p,M p=none->Q (.ref p) (updM M p (.dic []))):=rfl
theorem e_ix{Φ:List (Str×SpM)}{σ:Sm}{M:MH}{Q:QM}{a b:IE}:wE Φ (.ix a b) σ M Q=(wE Φ a σ M λx M1=>wE Φ b σ M1 λy M2=>wIx x y M2 Q):=rfl
theorem e_sl{Φ:List (Str×SpM)}{σ:Sm}{M:MH}{Q:QM}{a:IE}{lo hi:IO}:wE Φ (.sl a lo hi) σ M Q=(wE Φ a σ M λx M1=>wO Φ lo σ M1 λl M2=>wO Φ hi σ M2 λh M3=>wSl x l h M3 Q):=rfl
theorem ZnZ{Φ:List (Str×SpM)}{σ:Sm}{M:MH}{Q:QM}{j:Nat}{e:IE}{es:IEs}:wE Φ (.call j e es) σ M Q=(wE Φ e σ M λv M1=>wEs Φ es σ M1 λvs M2=>onF Φ[j]? λsp=>sp (v::vs) M2 Q):=rfl
theorem e_b2{Φ:List (Str×SpM)}{σ:Sm}{M:MH}{Q:QM}{f:B2}{e:IE}:wE Φ (.b2 f e) σ M Q=(wE Φ e σ M λv M1=>wB2 f v M1 Q):=rfl
theorem ZpO{Φ:List (Str×SpM)}{σ:Sm}{M:MH}{Q:QM}{e:IE}:wE Φ (.mxd e) σ M Q=(wE Φ e σ M λv M1=>wMxd v M1 Q):=rfl
theorem Zp9{a:Addr}{M:MH}{Q:QM}:wMxd (.ref a) M Q=(∃ns:List Int,M a=some (.lst (ns.map MV.int))/\∀m,(ns=[]/\m=0\/m∈ns/\∀i∈ns,i≤m)->Q (.int m) M):=propext ⟨fun⟨_,ns,e,h⟩=>by cases e;exact⟨ns,h⟩,fun⟨ns,h⟩=>⟨a,ns,rfl,h⟩⟩
theorem e_bi{Φ:List (Str×SpM)}{σ:Sm}{M:MH}{Q:QM}{f:BI}{e:IE}{es:IEs}:wE Φ (.bi f e es) σ M Q=(wE Φ e σ M λv M1=>wEs Φ es σ M1 λvs M2=>wBi f (v::vs) M2 Q):=rfl
theorem e_mt{Φ:List (Str×SpM)}{σ:Sm}{M:MH}{Q:QM}{m:MT}{o:IE}{es:IEs}:wE Φ (.mt m o es) σ M Q=(wE Φ o σ M λx M1=>mtOk m x M1/\wEs Φ es σ M1 λvs M2=>wMts m x vs M2 Q):=rfl
theorem Ax{Φ:List (Str×SpM)}{σ:Sm}{M:MH}{Q:QM}{own:List Str}{fr:List Nat}{src:ISr}{tg:ITg}{test:IO}{elt:IE}:wE Φ (.comp own fr src tg test elt) σ M Q=(wSr Φ src σ M λS M1=>S.len<sizeLine/\∀D,M1 D=none->∃J:Nat->List MV->MH->Prop,J 0 [] (updM M1 D (.lst []))/\
   (∀i ys M2,J i ys M2->M2 D=some (.lst ys)/\ys.length≤i/\S.ok M2)/\
   (∀i x ys M2,S.items[i]?=some x->J i ys M2->wTg tg x (sCm own fr σ) λσ2=>wI Φ test σ2 M2 λb M4=>
    if b=true then wE Φ elt σ2 M4 λy M5=>M5 D=some (.lst ys)/\J (i+1) (ys++[y]) (updM M5 D (.lst (ys++[y])))else J (i+1) ys M4)/\
   ∀ys M2,J S.len ys M2->Q (.ref D) (S.thaw M2)):=rfl
theorem BX{M M':MH}{S:Src}(h:S.okF M):S.thaw M'=M':=by
 cases S<;>first|rfl|exact h.elim
theorem UP{Φ:List (Str×SpM)}{own:List Str}{fr:List Nat}{src:ISr}{tg:ITg}{elt:IE}{σ:Sm}{M:MH}{Q:QM}{α:Type}(xs:List α)(f g:α->MV)
  (hs:wSr Φ src σ M λS M1=>S.items=xs.map f/\xs.length<sizeLine/\S.okF M1/\M1=M)
  (ht:∀x∈xs,∀M',(∀a o,M a=some o->M' a=some o)->wTg tg (f x) (sCm own fr σ) λσ2=>wE Φ elt σ2 M' λy M2=>y=g x/\M2=M')
  (hΦ:∀(j:Nat) f sp,Φ[j]?=some (f,sp)->MonW sp) (q:∀D,M D=none->Q (.ref D) (updM M D (.lst (xs.map g)))):wE Φ (.comp own fr src tg .none elt) σ M Q:=by
 rw[Ax];refine mon_sr hΦ src (λS M1 ⟨h1,h2,h3,h4⟩=>?_) hs;subst h4;have hl:S.len=xs.length:=by rw[<- S.items_len,h1,X7]
 refine⟨by rw[hl];exact h2,λD hD=>⟨λi ys M2=>M2=updM M1 D (.lst ys)/\ys=(xs.take i).map g,⟨rfl,by simp⟩,?_,?_,?_⟩⟩
 ·rintro i ys M2 ⟨rfl,rfl⟩;refine⟨Xg,by rw[X7,Yz];lia,?_⟩
  cases S with
  |tup _=>trivial
  |rng _ _=>trivial
  |rst _ _ _=>trivial
  |dic _ _ _=>exact h3.elim
  |str _=>trivial
  |lst a zs=>
   have:a≠D:=by intro e;subst e;have h3:M1 a=some (.lst zs):=h3;rw[h3]at hD;cases hD
   show updM M1 D _ a=_;rw[Xp this];exact h3
 ·rintro i x ys M2 hx ⟨rfl,rfl⟩;rw[h1]at hx;have hi:i<xs.length:=by have:=(XE.mp hx).1;rw[X7]at this;exact this
  rw[Xq,Xc hi]at hx;cases hx;refine UN tg (λσ2 h=>?_) (ht xs[i] (XV hi) (updM M1 D (.lst ((xs.take i).map g))) (λa o e=>by
   rw[Xp (by intro z;subst z;rw[e]at hD;cases hD)];exact e))
  rw[wI,if_pos rfl];refine Xd hΦ elt (λy M2 ⟨e1,e2⟩=>?_) h;subst e1 e2;refine⟨Xg,BO,?_⟩;rw[YN,Xc hi,Y6]
  rfl
 ·rintro ys M2 ⟨rfl,rfl⟩;rw[hl,WU (Xl _),BX h3];exact q D hD
theorem J8{Φ:List (Str×SpM)}{own:List Str}{fr:List Nat}{src:ISr}{tg:ITg}{elt:IE}{σ:Sm}{M:MH}{Q:QM}{α:Type}(xs:List α)(f g:α->MV)
  (hs:wSr Φ src σ M λS M1=>S.items=xs.map f/\xs.length<sizeLine/\S.okF M1/\∀a o,M a=some o->M1 a=some o)
  (ht:∀x∈xs,∀M',(∀a o,M a=some o->M' a=some o)->wTg tg (f x) (sCm own fr σ) λσ2=>wE Φ elt σ2 M' λy M2=>y=g x/\∀a o,M' a=some o->M2 a=some o)
  (hΦ:∀(j:Nat) f sp,Φ[j]?=some (f,sp)->MonW sp) (q:∀D M',M D=none->(∀a o,M a=some o->M' a=some o)->M' D=some (.lst (xs.map g))->Q (.ref D) M'):wE Φ (.comp own fr src tg .none elt) σ M Q:=by
 rw[Ax];refine mon_sr hΦ src (λS M1 ⟨h1,h2,h3,h4⟩=>?_) hs;have hl:S.len=xs.length:=by rw[<- S.items_len,h1,X7]
 have fre:∀D,M1 D=none->M D=none:=λD hD=>by
  cases e:M D with
  |none=>rfl
  |some o=>rw[h4 _ _ e]at hD;cases hD
 have ne:∀{a D:Addr} {o:MO},M1 a=some o->M1 D=none->a≠D:=λh h' z=>by subst z;rw[h]at h';cases h'
 refine⟨by rw[hl];exact h2,λD hD=>⟨λi ys M2=>(∀a o,M1 a=some o->M2 a=some o)/\M2 D=some (.lst ys)/\ys=(xs.take i).map g,⟨λa o e=>by rw[Xp (ne e hD)];exact e,Xg,by simp⟩,?_,?_,?_⟩⟩
 ·rintro i ys M2 ⟨s2,d2,rfl⟩;refine⟨d2,by rw[X7,Yz];lia,?_⟩
  cases S with
  |tup _=>trivial
  |rng _ _=>trivial
  |rst _ _ _=>trivial
  |dic _ _ _=>exact h3.elim
  |str _=>trivial
  |lst a zs=>exact s2 _ _ h3
 ·rintro i x ys M2 hx ⟨s2,d2,rfl⟩;rw[h1]at hx;have hi:i<xs.length:=by have:=(XE.mp hx).1;rw[X7]at this;exact this
  rw[Xq,Xc hi]at hx;cases hx;refine UN tg (λσ2 h=>?_) (ht xs[i] (XV hi) M2 (λa o e=>s2 _ _ (h4 _ _ e)));rw[wI,if_pos rfl];refine Xd hΦ elt (λy M3 ⟨e1,e2⟩=>?_) h;subst e1;refine⟨e2 _ _ d2,λa o e=>by rw[Xp (ne e hD)];exact e2 _ _ (s2 _ _ e),Xg,?_⟩
  rw[YN,Xc hi,Y6]
  rfl
 ·rintro ys M2 ⟨s2,d2,rfl⟩;rw[hl,WU (Xl _)]at d2;rw[BX h3];exact q D M2 (fre D hD) (λa o e=>s2 _ _ (h4 _ _ e)) d2
theorem ZoJ{i:Nat}{v:MV}{σ:Sm}{R:Sm->Prop}:wTg (.nm i) v σ R=R (σ.set i (some v)):=rfl
theorem ZoI{t:ITg}{ts:ITgs}{v:MV}{r:List MV}{σ:Sm}{R:Sm->Prop}:wTgs (.cons t ts) (v::r) σ R=wTg t v σ λσ'=>wTgs ts r σ' R:=by
 exact propext ⟨fun⟨_,_,e,h⟩=>by cases e;exact h,λh=>⟨_,_,rfl,h⟩⟩
theorem ZoH{σ:Sm}{R:Sm->Prop}:wTgs .nil [] σ R=R σ:=propext ⟨λh=>h.2,λh=>⟨rfl,h⟩⟩
theorem J9{κ:Type} [DecidableEq κ] {k:κ}{v:MV}:∀{kvs:List (κ×MV)},(kvs.map (·.1)).Nodup->(k,v)∈kvs->valM kvs k=some v
 |(j,u)::r,nd,h=>by
  rw[XC,YO]at nd;unfold valM;rcases Xt.mp h with e|h
  ·cases e;rw[if_pos rfl]
  ·rw[if_neg (λe=>nd.1 (by subst e;exact XN.mpr ⟨(j,v),h,rfl⟩)),J9 nd.2 h]
section
variable{M:MH}
theorem Alike.dicFlat{a b:Addr}{kvs:List (Key×MV)}(n:Nat)(h1:M a=some (.dic kvs))(h2:M b=some (.dic kvs))(nd:(kvs.map (·.1)).Nodup)(f:∀p∈kvs,Yu p.2=true):Alike M (n+1) (.ref a) (.ref b):=
 .dic h1 h2 rfl λk u m=>⟨u,J9 nd m,.flat n (f _ m)⟩
theorem Alike.lstFlat{x y:MV}{xs:List MV}(n:Nat)(h1:LstM M x xs)(h2:LstM M y xs)(f:∀v∈xs,Yu v=true):Alike M (n+1) x y:=
 .lst h1 h2 rfl λi u v e e'=>by
  rw[e]at e';cases e';exact .flat n (f u (XI e))
end
section
variable{Φ:List (Str×SpM)}{D:EndM}{σ:Sm}{M:MH}
theorem Zom:wSs Φ .nil D σ M=D.nx σ M:=rfl
theorem Zmp{s:IS}{r:ISs}:wSs Φ (.cons s r) D σ M=wS Φ s {nx:=λσ M=>wSs Φ r D σ M,rt:=D.rt,bk:=D.bk,ct:=D.ct} σ M:=rfl
theorem Zmn:wS Φ .pass D σ M=D.nx σ M:=rfl
theorem Zoq:wS Φ .brk D σ M=D.bk σ M:=rfl
theorem Zop:wS Φ .cnt D σ M=D.ct σ M:=rfl
theorem Zko:wS Φ .never D σ M=False:=rfl
theorem Zok{e:IE}:wS Φ (.ret e) D σ M=wE Φ e σ M D.rt:=rfl
theorem Zmm:wS Φ .retN D σ M=D.rt .non M:=rfl
theorem Zoj{i:Nat}{e:IE}:wS Φ (.set i e) D σ M=wE Φ e σ M λv M1=>D.nx (σ.set i (some v)) M1:=rfl
theorem Zor{t:ITgs}{e:IE}:wS Φ (.asg t e) D σ M=wE Φ e σ M λv M1=>∃xs,v=.tup xs/\wTgs t xs σ λσ'=>D.nx σ' M1:=rfl
theorem Zol{o i e:IE}:wS Φ (.put o i e) D σ M=wE Φ e σ M λv M1=>wE Φ o σ M1 λx M2=>wE Φ i σ M2 λy M3=>wPut x y v M3 λM4=>D.nx σ M4:=rfl
theorem Zmo{e:IE}:wS Φ (.expr e) D σ M=wE Φ e σ M λ_ M1=>D.nx σ M1:=rfl
theorem Zon{c:IE}{a b:ISs}:wS Φ (.ite c a b) D σ M=wE Φ c σ M λx M1=>onB x λk=>(if k=true then wSs Φ a D σ M1 else wSs Φ b D σ M1):=rfl
theorem Zoo{t:ITg}{s:ISr}{b:ISs}:wS Φ (.for_ t s b) D σ M=wSr Φ s σ M λS M1=>∃J:Nat->Sm->MH->Prop,J 0 σ M1/\(∀i σ M,J i σ M->S.ok M)/\
   (∀i x σ M,S.items[i]?=some x->J i σ M->wTg t x σ λσ2=>wSs Φ b {nx:=J (i+1),rt:=λv M=>S.okT M/\D.rt v (S.thaw M),bk:=λσ M=>S.okT M/\D.nx σ (S.thaw M),ct:=J (i+1)} σ2 M)/\∀σ M,J S.len σ M->D.nx σ (S.thaw M):=rfl
theorem Zns{Q:Option Int->MH->Prop}:wO Φ .none σ M Q=Q none M:=rfl
theorem Znr{e:IE}{Q:Option Int->MH->Prop}:wO Φ (.some e) σ M Q=wE Φ e σ M λv M1=>∃i,v=.int i/\Q (some i) M1:=rfl
theorem ZnV{Q:Bool->MH->Prop}:wI Φ .none σ M Q=Q true M:=rfl
theorem ZnU{e:IE}{Q:Bool->MH->Prop}:wI Φ (.some e) σ M Q=wE Φ e σ M λv M1=>∃b,v=.bl b/\Q b M1:=rfl
theorem ZnY{Q:List MV->MH->Prop}:wEs Φ .nil σ M Q=Q [] M:=rfl
theorem ZlF{e:IE}{es:IEs}{Q:List MV->MH->Prop}:wEs Φ (.cons e es) σ M Q=wE Φ e σ M λv M1=>wEs Φ es σ M1 λvs M2=>Q (v::vs) M2:=rfl
theorem Zn6{Q:List (Key×MV)->MH->Prop}:wPs Φ .nil σ M Q=Q [] M:=rfl
theorem ZkH{k v:IE}{r:IPs}{Q:List (Key×MV)->MH->Prop}:wPs Φ (.cons k v r) σ M Q=wE Φ k σ M λx M1=>∃kk,keyM x=some kk/\wE Φ v σ M1 λy M2=>wPs Φ r σ M2 λl M3=>Q ((kk,y)::l) M3:=rfl
end
section
variable{Φ:List (Str×SpM)}{σ σ':Sm}{M M':MH}{Q:QM}{x x' y y' z z':MV}{o o':Option MO}{vs vs':List MV}
end
end L2
namespace My
open PySem L2
noncomputable def top(i:Nat):Stmt:=PySem.Challenge.pw_bellferry_k63_bounds_told.main.body.getD i (.Pass ⟨0,0,0,0⟩)
noncomputable abbrev Zi:Stmt:=top 2
noncomputable abbrev Zj:Stmt:=top 3
noncomputable abbrev Zk:Stmt:=top 4
noncomputable abbrev Zl:Stmt:=top 5
noncomputable abbrev Zm:Stmt:=top 6
noncomputable abbrev Zn:Stmt:=top 8
noncomputable abbrev Zo:Stmt:=top 9
noncomputable abbrev Zp:Stmt:=top 10
noncomputable abbrev Zq:Stmt:=top 11
noncomputable abbrev Zr:Stmt:=top 12
noncomputable abbrev Zs:Stmt:=top 13
noncomputable abbrev Zt:Stmt:=top 15
noncomputable abbrev Zu:Stmt:=top 16
noncomputable abbrev Zv:Stmt:=top 17
noncomputable abbrev Zw:Stmt:=top 18
noncomputable abbrev Zx:Stmt:=top 39
noncomputable abbrev Zy:Stmt:=top 40
noncomputable abbrev Zz:Stmt:=top 41
noncomputable abbrev ZA:Stmt:=top 42
noncomputable abbrev ZB:Stmt:=top 43
noncomputable abbrev ZC:Stmt:=top 44
noncomputable abbrev ZD:Stmt:=top 45
noncomputable abbrev ZE:Stmt:=top 46
noncomputable abbrev ZF:Stmt:=top 47
noncomputable abbrev ZG:Stmt:=top 48
noncomputable abbrev ZH:Stmt:=top 49
noncomputable abbrev ZI:Stmt:=top 50
noncomputable abbrev ZJ:Stmt:=top 51
noncomputable abbrev ZK:Stmt:=top 52
noncomputable abbrev ZL:Stmt:=top 53
noncomputable abbrev ZM:Stmt:=top 54
noncomputable abbrev ZN:Stmt:=top 55
noncomputable abbrev ZO:Stmt:=top 57
noncomputable abbrev ZP:Stmt:=top 58
noncomputable abbrev ZQ:Stmt:=top 59
noncomputable abbrev ZR:Stmt:=top 60
noncomputable abbrev ZS:Stmt:=top 61
noncomputable abbrev ZT:Stmt:=top 62
noncomputable abbrev ZU:Stmt:=top 64
noncomputable abbrev ZV:Stmt:=top 65
noncomputable abbrev ZW:Stmt:=top 66
noncomputable abbrev ZX:Stmt:=top 67
noncomputable abbrev ZY:Stmt:=top 68
noncomputable abbrev ZZ:Stmt:=top 70
noncomputable abbrev U0:Stmt:=top 71
noncomputable abbrev U1:Stmt:=top 72
noncomputable abbrev U2:Stmt:=top 73
noncomputable abbrev U3:Stmt:=top 74
noncomputable abbrev U4:Stmt:=top 75
noncomputable abbrev U5:Stmt:=top 76
noncomputable abbrev U6:Stmt:=top 77
noncomputable abbrev U7:Stmt:=top 78
noncomputable abbrev U8:Stmt:=top 79
noncomputable abbrev YT:Stmt:=top 80
set_option genInjectivity false in
set_option genSizeOf false in
structure Adr where
 f_is_whole:Addr
 d_is_whole:Xm
 f_is_width:Addr
 d_is_width:Xm
 f_two_to:Addr
 d_two_to:Xm
 f_fits:Addr
 d_fits:Xm
 f_cut:Addr
 d_cut:Xm
 f_parts_within:Addr
 d_parts_within:Xm
 f_size_of:Addr
 d_size_of:Xm
 f_names_read:Addr
 d_names_read:Xm
 f_vars_in:Addr
 d_vars_in:Xm
 f_worth_of_two:Addr
 d_worth_of_two:Xm
 f_worth:Addr
 d_worth:Xm
 f_wish:Addr
 d_wish:Xm
 f_number_after:Addr
 d_number_after:Xm
 f_words_after:Addr
 d_words_after:Xm
 f_after:Addr
 d_after:Xm
 f_is_name:Addr
 d_is_name:Xm
 f_refuse_name:Addr
 d_refuse_name:Xm
 f_refuse_unknown:Addr
 d_refuse_unknown:Xm
 f_refuse_ferry_names:Addr
 d_refuse_ferry_names:Xm
 f_refuse_variables:Addr
 d_refuse_variables:Xm
 f_refuse_term:Addr
 d_refuse_term:Xm
 f_refuse_step:Addr
 d_refuse_step:Xm
 f_refuse_island:Addr
 d_refuse_island:Xm
 f_refuse_islands:Addr
 d_refuse_islands:Xm
 f_refuse_ferry:Addr
 d_refuse_ferry:Xm
 f_refuse_wrong_end:Addr
 d_refuse_wrong_end:Xm
 f_refuse_wrong_ends:Addr
 d_refuse_wrong_ends:Xm
 f_frozen:Addr
 d_frozen:Xm
 f_made:Addr
 d_made:Xm
 f_one_called:Addr
 d_one_called:Xm
 f_island_of:Addr
 d_island_of:Xm
 f_ferry_of:Addr
 d_ferry_of:Xm
 f_first_stand:Addr
 d_first_stand:Xm
 f_copy_of:Addr
 d_copy_of:Xm
 f_wish_of:Addr
 d_wish_of:Xm
 f_can_be:Addr
 d_can_be:Xm
 f_do_step:Addr
 d_do_step:Xm
 f_round_of:Addr
 d_round_of:Xm
 f_stretches:Addr
 d_stretches:Xm
 f_track:Addr
 d_track:Xm
 f_steps_behind:Addr
 d_steps_behind:Xm
 f_stretches_a_round:Addr
 d_stretches_a_round:Xm
 f_bounds:Addr
 d_bounds:Xm
 f__law_cell_at:Addr
 d__law_cell_at:Xm
 f__law_whole:Addr
 d__law_whole:Xm
 f__law_name:Addr
 d__law_name:Xm
 f__law_term:Addr
 d__law_term:Xm
 f__law_step:Addr
 d__law_step:Xm
 f__law_island:Addr
 d__law_island:Xm
 f__law_things:Addr
 d__law_things:Xm
 f__law_rings:Addr
 d__law_rings:Xm
 f__law_steps:Addr
 d__law_steps:Xm
 f__law_are:Addr
 d__law_are:Xm
 f_law:Addr
 d_law:Xm
structure Txt (K:X6) (mg:Str->Option X0) (t:Adr):Prop where
 F_is_whole:Fun K "is_whole" "is_whole" Zi t.f_is_whole t.d_is_whole
 b_is_whole:Binds K t.d_is_whole ["value"] []
 m_is_whole:mg "is_whole"=some (.ref t.f_is_whole)
 F_is_width:Fun K "is_width" "is_width" Zj t.f_is_width t.d_is_width
 b_is_width:Binds K t.d_is_width ["number"] []
 m_is_width:mg "is_width"=some (.ref t.f_is_width)
 F_two_to:Fun K "two_to" "two_to" Zk t.f_two_to t.d_two_to
 b_two_to:Binds K t.d_two_to ["exponent"] []
 m_two_to:mg "two_to"=some (.ref t.f_two_to)
 F_fits:Fun K "fits" "fits" Zl t.f_fits t.d_fits
 b_fits:Binds K t.d_fits ["width","number"] []
 m_fits:mg "fits"=some (.ref t.f_fits)
 F_cut:Fun K "cut" "cut" Zm t.f_cut t.d_cut
 b_cut:Binds K t.d_cut ["width","number"] []
 m_cut:mg "cut"=some (.ref t.f_cut)
 F_parts_within:Fun K "parts_within" "parts_within" Zn t.f_parts_within t.d_parts_within
 b_parts_within:Binds K t.d_parts_within ["T"] []
 m_parts_within:mg "parts_within"=some (.ref t.f_parts_within)
 F_size_of:Fun K "size_of" "size_of" Zo t.f_size_of t.d_size_of
 b_size_of:Binds K t.d_size_of ["T"] []
 m_size_of:mg "size_of"=some (.ref t.f_size_of)
 F_names_read:Fun K "names_read" "names_read" Zp t.f_names_read t.d_names_read
 b_names_read:Binds K t.d_names_read ["T"] []
 m_names_read:mg "names_read"=some (.ref t.f_names_read)
 F_vars_in:Fun K "vars_in" "vars_in" Zq t.f_vars_in t.d_vars_in
 b_vars_in:Binds K t.d_vars_in ["T"] []
 m_vars_in:mg "vars_in"=some (.ref t.f_vars_in)
 F_worth_of_two:Fun K "worth_of_two" "worth_of_two" Zr t.f_worth_of_two t.d_worth_of_two
 b_worth_of_two:Binds K t.d_worth_of_two ["form","left","right","width"] []
 m_worth_of_two:mg "worth_of_two"=some (.ref t.f_worth_of_two)
 F_worth:Fun K "worth" "worth" Zs t.f_worth t.d_worth
 b_worth:Binds K t.d_worth ["T","width","words"] []
 m_worth:mg "worth"=some (.ref t.f_worth)
 F_wish:Fun K "wish" "wish" Zt t.f_wish t.d_wish
 b_wish:Binds K t.d_wish ["width","steps","number","words"] []
 m_wish:mg "wish"=some (.ref t.f_wish)
 F_number_after:Fun K "number_after" "number_after" Zu t.f_number_after t.d_number_after
 b_number_after:Binds K t.d_number_after ["width","steps","number","words"] []
 m_number_after:mg "number_after"=some (.ref t.f_number_after)
 F_words_after:Fun K "words_after" "words_after" Zv t.f_words_after t.d_words_after
 b_words_after:Binds K t.d_words_after ["width","step","words","word"] []
 m_words_after:mg "words_after"=some (.ref t.f_words_after)
 F_after:Fun K "after" "after" Zw t.f_after t.d_after
 b_after:Binds K t.d_after ["width","steps","number","words","word"] []
 m_after:mg "after"=some (.ref t.f_after)
 F_is_name:Fun K "is_name" "is_name" Zx t.f_is_name t.d_is_name
 b_is_name:Binds K t.d_is_name ["text"] []
 m_is_name:mg "is_name"=some (.ref t.f_is_name)
 F_refuse_name:Fun K "refuse_name" "refuse_name" Zy t.f_refuse_name t.d_refuse_name
 b_refuse_name:Binds K t.d_refuse_name ["text","earlier"] []
 m_refuse_name:mg "refuse_name"=some (.ref t.f_refuse_name)
 F_refuse_unknown:Fun K "refuse_unknown" "refuse_unknown" Zz t.f_refuse_unknown t.d_refuse_unknown
 b_refuse_unknown:Binds K t.d_refuse_unknown ["name","known"] []
 m_refuse_unknown:mg "refuse_unknown"=some (.ref t.f_refuse_unknown)
 F_refuse_ferry_names:Fun K "refuse_ferry_names" "refuse_ferry_names" ZA t.f_refuse_ferry_names t.d_refuse_ferry_names
 b_refuse_ferry_names:Binds K t.d_refuse_ferry_names ["ferries"] []
 m_refuse_ferry_names:mg "refuse_ferry_names"=some (.ref t.f_refuse_ferry_names)
 F_refuse_variables:Fun K "refuse_variables" "refuse_variables" ZB t.f_refuse_variables t.d_refuse_variables
 b_refuse_variables:Binds K t.d_refuse_variables ["width","pairs"] []
 m_refuse_variables:mg "refuse_variables"=some (.ref t.f_refuse_variables)
 F_refuse_term:Fun K "refuse_term" "refuse_term" ZC t.f_refuse_term t.d_refuse_term
 b_refuse_term:Binds K t.d_refuse_term ["T","known"] []
 m_refuse_term:mg "refuse_term"=some (.ref t.f_refuse_term)
 F_refuse_step:Fun K "refuse_step" "refuse_step" ZD t.f_refuse_step t.d_refuse_step
 b_refuse_step:Binds K t.d_refuse_step ["step","known","count","ferry_names"] []
 m_refuse_step:mg "refuse_step"=some (.ref t.f_refuse_step)
 F_refuse_island:Fun K "refuse_island" "refuse_island" ZE t.f_refuse_island t.d_refuse_island
 b_refuse_island:Binds K t.d_refuse_island ["width","island","ferry_names"] []
 m_refuse_island:mg "refuse_island"=some (.ref t.f_refuse_island)
 F_refuse_islands:Fun K "refuse_islands" "refuse_islands" ZF t.f_refuse_islands t.d_refuse_islands
 b_refuse_islands:Binds K t.d_refuse_islands ["width","islands","ferry_names"] []
 m_refuse_islands:mg "refuse_islands"=some (.ref t.f_refuse_islands)
 F_refuse_ferry:Fun K "refuse_ferry" "refuse_ferry" ZG t.f_refuse_ferry t.d_refuse_ferry
 b_refuse_ferry:Binds K t.d_refuse_ferry ["ferry","island_names"] []
 m_refuse_ferry:mg "refuse_ferry"=some (.ref t.f_refuse_ferry)
 F_refuse_wrong_end:Fun K "refuse_wrong_end" "refuse_wrong_end" ZH t.f_refuse_wrong_end t.d_refuse_wrong_end
 b_refuse_wrong_end:Binds K t.d_refuse_wrong_end ["name","step","givers","takers"] []
 m_refuse_wrong_end:mg "refuse_wrong_end"=some (.ref t.f_refuse_wrong_end)
 F_refuse_wrong_ends:Fun K "refuse_wrong_ends" "refuse_wrong_ends" ZI t.f_refuse_wrong_ends t.d_refuse_wrong_ends
 b_refuse_wrong_ends:Binds K t.d_refuse_wrong_ends ["islands","ferries"] []
 m_refuse_wrong_ends:mg "refuse_wrong_ends"=some (.ref t.f_refuse_wrong_ends)
 F_frozen:Fun K "frozen" "frozen" ZJ t.f_frozen t.d_frozen
 b_frozen:Binds K t.d_frozen ["value"] []
 m_frozen:mg "frozen"=some (.ref t.f_frozen)
 F_made:Fun K "made" "made" ZK t.f_made t.d_made
 b_made:Binds K t.d_made ["width","islands","ferries"] []
 m_made:mg "made"=some (.ref t.f_made)
 F_one_called:Fun K "one_called" "one_called" ZL t.f_one_called t.d_one_called
 b_one_called:Binds K t.d_one_called ["row","name"] []
 m_one_called:mg "one_called"=some (.ref t.f_one_called)
 F_island_of:Fun K "island_of" "island_of" ZM t.f_island_of t.d_island_of
 b_island_of:Binds K t.d_island_of ["world","name"] []
 m_island_of:mg "island_of"=some (.ref t.f_island_of)
 F_ferry_of:Fun K "ferry_of" "ferry_of" ZN t.f_ferry_of t.d_ferry_of
 b_ferry_of:Binds K t.d_ferry_of ["world","name"] []
 m_ferry_of:mg "ferry_of"=some (.ref t.f_ferry_of)
 F_first_stand:Fun K "first_stand" "first_stand" ZO t.f_first_stand t.d_first_stand
 b_first_stand:Binds K t.d_first_stand ["world"] []
 m_first_stand:mg "first_stand"=some (.ref t.f_first_stand)
 F_copy_of:Fun K "copy_of" "copy_of" ZP t.f_copy_of t.d_copy_of
 b_copy_of:Binds K t.d_copy_of ["stand"] []
 m_copy_of:mg "copy_of"=some (.ref t.f_copy_of)
 F_wish_of:Fun K "wish_of" "wish_of" ZQ t.f_wish_of t.d_wish_of
 b_wish_of:Binds K t.d_wish_of ["world","stand","name"] []
 m_wish_of:mg "wish_of"=some (.ref t.f_wish_of)
 F_can_be:Fun K "can_be" "can_be" ZR t.f_can_be t.d_can_be
 b_can_be:Binds K t.d_can_be ["world","stand","asked"] []
 m_can_be:mg "can_be"=some (.ref t.f_can_be)
 F_do_step:Fun K "do_step" "do_step" ZS t.f_do_step t.d_do_step
 b_do_step:Binds K t.d_do_step ["world","stand","name","asked","behind"] []
 m_do_step:mg "do_step"=some (.ref t.f_do_step)
 F_round_of:Fun K "round_of" "round_of" ZT t.f_round_of t.d_round_of
 b_round_of:Binds K t.d_round_of ["world","stand"] []
 m_round_of:mg "round_of"=some (.ref t.f_round_of)
 F_stretches:Fun K "stretches" "stretches" ZU t.f_stretches t.d_stretches
 b_stretches:Binds K t.d_stretches ["world","names"] []
 m_stretches:mg "stretches"=some (.ref t.f_stretches)
 F_track:Fun K "track" "track" ZV t.f_track t.d_track
 b_track:Binds K t.d_track ["world","n"] []
 m_track:mg "track"=some (.ref t.f_track)
 F_steps_behind:Fun K "steps_behind" "steps_behind" ZW t.f_steps_behind t.d_steps_behind
 b_steps_behind:Binds K t.d_steps_behind ["world","n"] []
 m_steps_behind:mg "steps_behind"=some (.ref t.f_steps_behind)
 F_stretches_a_round:Fun K "stretches_a_round" "stretches_a_round" ZX t.f_stretches_a_round t.d_stretches_a_round
 b_stretches_a_round:Binds K t.d_stretches_a_round ["world"] []
 m_stretches_a_round:mg "stretches_a_round"=some (.ref t.f_stretches_a_round)
 F_bounds:Fun K "bounds" "bounds" ZY t.f_bounds t.d_bounds
 b_bounds:Binds K t.d_bounds ["world","names"] []
 m_bounds:mg "bounds"=some (.ref t.f_bounds)
 F__law_cell_at:Fun K "_law_cell_at" "_law_cell_at" ZZ t.f__law_cell_at t.d__law_cell_at
 b__law_cell_at:Binds K t.d__law_cell_at ["script","k"] []
 m__law_cell_at:mg "_law_cell_at"=some (.ref t.f__law_cell_at)
 F__law_whole:Fun K "_law_whole" "_law_whole" U0 t.f__law_whole t.d__law_whole
 b__law_whole:Binds K t.d__law_whole ["found"] []
 m__law_whole:mg "_law_whole"=some (.ref t.f__law_whole)
 F__law_name:Fun K "_law_name" "_law_name" U1 t.f__law_name t.d__law_name
 b__law_name:Binds K t.d__law_name ["number","k"] []
 m__law_name:mg "_law_name"=some (.ref t.f__law_name)
 F__law_term:Fun K "_law_term" "_law_term" U2 t.f__law_term t.d__law_term
 b__law_term:Binds K t.d__law_term ["number","names"] []
 m__law_term:mg "_law_term"=some (.ref t.f__law_term)
 F__law_step:Fun K "_law_step" "_law_step" U3 t.f__law_step t.d__law_step
 b__law_step:Binds K t.d__law_step ["number","name","names","ferries","many"] []
 m__law_step:mg "_law_step"=some (.ref t.f__law_step)
 F__law_island:Fun K "_law_island" "_law_island" U4 t.f__law_island t.d__law_island
 b__law_island:Binds K t.d__law_island ["number","k","naming","ferries","around"] []
 m__law_island:mg "_law_island"=some (.ref t.f__law_island)
 F__law_things:Fun K "_law_things" "_law_things" U5 t.f__law_things t.d__law_things
 b__law_things:Binds K t.d__law_things ["script","around"] []
 m__law_things:mg "_law_things"=some (.ref t.f__law_things)
 F__law_rings:Fun K "_law_rings" "_law_rings" U6 t.f__law_rings t.d__law_rings
 b__law_rings:Binds K t.d__law_rings ["cells","islands"] []
 m__law_rings:mg "_law_rings"=some (.ref t.f__law_rings)
 F__law_steps:Fun K "_law_steps" "_law_steps" U7 t.f__law_steps t.d__law_steps
 b__law_steps:Binds K t.d__law_steps ["world","islands","rounds"] []
 m__law_steps:mg "_law_steps"=some (.ref t.f__law_steps)
 F__law_are:Fun K "_law_are" "_law_are" U8 t.f__law_are t.d__law_are
 b__law_are:Binds K t.d__law_are ["found","due"] []
 m__law_are:mg "_law_are"=some (.ref t.f__law_are)
 F_law:Fun K "law" "law" YT t.f_law t.d_law
 b_law:Binds K t.d_law ["script"] []
 m_law:mg "law"=some (.ref t.f_law)
 z_all:mg "all"=none
 z_bool:mg "bool"=none
 z_dict:mg "dict"=none
 z_int:mg "int"=none
 z_isinstance:mg "isinstance"=none
 z_len:mg "len"=none
 z_list:mg "list"=none
 z_max:mg "max"=none
 z_min:mg "min"=none
 z_range:mg "range"=none
 z_set:mg "set"=none
 z_sorted:mg "sorted"=none
 z_tuple:mg "tuple"=none
 c_MOST_WIDTH:∃tk,mg "MOST_WIDTH"=some (.int 64 tk)
 c_MOST_LETTERS:∃tk,mg "MOST_LETTERS"=some (.int 8 tk)
 c_MOST_ISLANDS:∃tk,mg "MOST_ISLANDS"=some (.int 5 tk)
 c_MOST_FERRIES:∃tk,mg "MOST_FERRIES"=some (.int 6 tk)
 c_MOST_VARS:∃tk,mg "MOST_VARS"=some (.int 6 tk)
 c_MOST_STEPS:∃tk,mg "MOST_STEPS"=some (.int 12 tk)
 c_MOST_PARTS:∃tk,mg "MOST_PARTS"=some (.int 30 tk)
 c_MOST_DEPTH:∃tk,mg "MOST_DEPTH"=some (.int 8 tk)
 c_MOST_K:∃tk,mg "MOST_K"=some (.int 3 tk)
 c_MOST_STAGES:∃tk,mg "MOST_STAGES"=some (.int 3 tk)
theorem Zdn:FnScope ["value"] ["value"] (X2 Zi):=mkSc
theorem Zdm:FnScope ["number"] ["number"] (X2 Zj):=mkSc
theorem Zgc:FnScope ["exponent","answer","k"] ["exponent"] (X2 Zk):=mkSc
theorem Zkn:FnScope ["width","number"] ["width","number"] (X2 Zl):=mkSc
theorem Zml:FnScope ["width","number"] ["width","number"] (X2 Zm):=mkSc
theorem Z97:FnScope ["T"] ["T"] (X2 Zn):=mkSc
theorem Zf5:FnScope ["T","parts","deepest","part","size"] ["T"] (X2 Zo):=mkSc
theorem Zbr:FnScope ["T","names","part"] ["T"] (X2 Zp):=mkSc
theorem Zf4:FnScope ["T"] ["T"] (X2 Zq):=mkSc
theorem Z94:FnScope ["form","left","right","width"] ["form","left","right","width"] (X2 Zr):=mkSc
theorem Zia:FnScope ["T","width","words","first"] ["T","width","words"] (X2 Zs):=mkSc
theorem Zkl:FnScope ["width","steps","number","words","step"] ["width","steps","number","words"] (X2 Zt):=mkSc
theorem Z98:FnScope ["width","steps","number","words","step"] ["width","steps","number","words"] (X2 Zu):=mkSc
theorem Za9:FnScope ["width","step","words","word","behind"] ["width","step","words","word"] (X2 Zv):=mkSc
theorem Zic:FnScope ["width","steps","number","words","word"] ["width","steps","number","words","word"] (X2 Zw):=mkSc
theorem Zf6:FnScope ["text"] ["text"] (X2 Zx):=mkSc
theorem Zac:FnScope ["text","earlier"] ["text","earlier"] (X2 Zy):=mkSc
theorem Z7z:FnScope ["name","known"] ["name","known"] (X2 Zz):=mkSc
theorem Z4h:FnScope ["ferries","earlier","ferry"] ["ferries"] (X2 ZA):=mkSc
theorem Z6l:FnScope ["width","pairs","earlier","pair","name"] ["width","pairs"] (X2 ZB):=mkSc
theorem Zaa:FnScope ["T","known","size","name"] ["T","known"] (X2 ZC):=mkSc
theorem Zab:FnScope ["step","known","count","ferry_names"] ["step","known","count","ferry_names"] (X2 ZD):=mkSc
theorem Z8H:FnScope ["width","island","ferry_names","known","step"] ["width","island","ferry_names"] (X2 ZE):=mkSc
theorem Z7A:FnScope ["width","islands","ferry_names","earlier","island"] ["width","islands","ferry_names"] (X2 ZF):=mkSc
theorem Z96:FnScope ["ferry","island_names"] ["ferry","island_names"] (X2 ZG):=mkSc
theorem Z6k:FnScope ["name","step","givers","takers"] ["name","step","givers","takers"] (X2 ZH):=mkSc
theorem Z5m:FnScope ["islands","ferries","givers","takers","island","step"] ["islands","ferries"] (X2 ZI):=mkSc
theorem Ja:FnScope ["value"] ["value"] (X2 ZJ):=mkSc
theorem Zkm:FnScope ["width","islands","ferries","island_names","ferry"] ["width","islands","ferries"] (X2 ZK):=mkSc
theorem Zbq:FnScope ["row","name","one"] ["row","name"] (X2 ZL):=mkSc
theorem Zc8:FnScope ["world","name"] ["world","name"] (X2 ZM):=mkSc
theorem Zdo:FnScope ["world","name"] ["world","name"] (X2 ZN):=mkSc
theorem Zad:FnScope ["world","numbers","words","given","taken"] ["world"] (X2 ZO):=mkSc
theorem Zf8:FnScope ["stand","words","given"] ["stand"] (X2 ZP):=mkSc
theorem Zf3:FnScope ["world","stand","name"] ["world","stand","name"] (X2 ZQ):=mkSc
theorem Zgd:FnScope ["world","stand","asked","under_way"] ["world","stand","asked"] (X2 ZR):=mkSc
theorem Zf7:FnScope ["world","stand","name","asked","behind","word","ferry","steps","went"] ["world","stand","name","asked","behind"] (X2 ZS):=mkSc
theorem Zdl:FnScope ["world","stand","behind","names","island","asked"] ["world","stand"] (X2 ZT):=mkSc
theorem Zc7:FnScope ["world","names","every","ended","missing","name"] ["world","names"] (X2 ZU):=mkSc
theorem Zib:FnScope ["world","n","stand","rows","k","told","name"] ["world","n"] (X2 ZV):=mkSc
theorem Z95:FnScope ["world","n","rows"] ["world","n"] (X2 ZW):=mkSc
theorem Z5l:FnScope ["world"] ["world"] (X2 ZX):=mkSc
theorem Zge:FnScope ["world","names","rounds"] ["world","names"] (X2 ZY):=mkSc
theorem Z99:FnScope ["script","k"] ["script","k"] (X2 ZZ):=mkSc
theorem Zbs:FnScope ["found"] ["found"] (X2 U0):=mkSc
theorem Zcc:FnScope ["number","k","letters","fill","other","long","at","sign"] ["number","k"] (X2 U1):=mkSc
theorem Zca:FnScope ["number","names","one","other"] ["number","names"] (X2 U2):=mkSc
theorem Zcb:FnScope ["number","name","names","ferries","many","takes","gives","rest"] ["number","name","names","ferries","many"] (X2 U3):=mkSc
theorem Zaf:FnScope ["number","k","naming","ferries","around","name","names","pairs","many","ending","steps","j"] ["number","k","naming","ferries","around"] (X2 U4):=mkSc
theorem Zae:FnScope ["script","around","head","naming","width","many","ferries","k","number","giver","taker","ends","islands"] ["script","around"] (X2 U5):=mkSc
theorem Zbu:FnScope ["cells","islands","rings","cell"] ["cells","islands"] (X2 U6):=mkSc
theorem Zbt:FnScope ["world","islands","rounds","stand","done","island","k","names","name"] ["world","islands","rounds"] (X2 U7):=mkSc
theorem Zdp:FnScope ["found","due"] ["found","due"] (X2 U8):=mkSc
theorem Zmk:FnScope ["script","width","islands","ferries","world","names","late","ferry","handed","found","least"] ["script"] (X2 YT):=mkSc
noncomputable def GB:List Str:=["all","bool","dict","int","isinstance","len","list","max","min","range","set","sorted","tuple"]
noncomputable def GL:List (Str×Int):=[("MOST_WIDTH",64),("MOST_LETTERS",8),("MOST_ISLANDS",5),("MOST_FERRIES",6),("MOST_VARS",6),("MOST_STEPS",12),("MOST_PARTS",30),("MOST_DEPTH",8),("MOST_K",3),("MOST_STAGES",3)]
theorem Xx{K:X6}{mg:Str->Option X0}{t:Adr}(T:Txt K mg t):∀x∈GB,mg x=none:=(fMc ⟨T.z_all,(fMc ⟨T.z_bool,(fMc ⟨T.z_dict,(fMc ⟨T.z_int,(fMc ⟨T.z_isinstance,(fMc ⟨T.z_len,(fMc ⟨T.z_list,(fMc ⟨T.z_max,(fMc ⟨T.z_min,(fMc ⟨T.z_range,(fMc ⟨T.z_set,(fMc ⟨T.z_sorted,(fMc ⟨T.z_tuple,nl0⟩)⟩)⟩)⟩)⟩)⟩)⟩)⟩)⟩)⟩)⟩)⟩)⟩)
theorem Xy{K:X6}{mg:Str->Option X0}{t:Adr}(T:Txt K mg t):∀p∈GL,∃tk,mg p.1=some (.int p.2 tk):=(fMc ⟨T.c_MOST_WIDTH,(fMc ⟨T.c_MOST_LETTERS,(fMc ⟨T.c_MOST_ISLANDS,(fMc ⟨T.c_MOST_FERRIES,(fMc ⟨T.c_MOST_VARS,(fMc ⟨T.c_MOST_STEPS,(fMc ⟨T.c_MOST_PARTS,(fMc ⟨T.c_MOST_DEPTH,(fMc ⟨T.c_MOST_K,(fMc ⟨T.c_MOST_STAGES,nl0⟩)⟩)⟩)⟩)⟩)⟩)⟩)⟩)⟩)⟩)
noncomputable def Jb:ISs:=.cons (.ret (.and (.bi .isinst (.var 0) (.cons (.ty .int) .nil)) (.not (.bi .isinst (.var 0) (.cons (.ty .bool) .nil))))) .nil
noncomputable abbrev E6:ISs:=Jb
noncomputable def Jc:GI:={bl:=GB,gl:=GL,fns:=[]}
theorem Ze0:chkSs Jc (X2 Zi) ["value"] E6 (X5 Zi)=true:=by decide+kernel
noncomputable def Jd:ISs:=.cons (.ret (.and (.call 0 (.var 0) .nil) (.chn .LtE .LtE (.int 1) (.var 0) (.glb "MOST_WIDTH" 64)))) .nil
noncomputable abbrev E7:ISs:=Jd
noncomputable def Je:GI:={bl:=GB,gl:=GL,fns:=["is_whole"]}
theorem ZdZ:chkSs Je (X2 Zj) ["number"] E7 (X5 Zj)=true:=by decide+kernel
noncomputable def Jf:ISs:=.cons (.ret (.var 1)) .nil
noncomputable def Jg:ISs:=.cons (.set 1 (.bin .Mult (.var 1) (.int 2))) .nil
noncomputable def Jh:ISs:=.cons (.for_ (.nm 2) (.rng (.var 0)) Jg) Jf
noncomputable def Ji:ISs:=.cons (.set 1 (.int 1)) Jh
noncomputable abbrev E8:ISs:=Ji
noncomputable def Jj:GI:={bl:=GB,gl:=GL,fns:=[]}
theorem Zhw:chkSs Jj (X2 Zk) ["exponent","answer","k"] E8 (X5 Zk)=true:=by decide+kernel
noncomputable def Jk:ISs:=.cons (.ret (.and (.call 0 (.var 1) .nil) (.chn .LtE .Lt (.int 0) (.var 1) (.call 1 (.var 0) .nil)))) .nil
noncomputable abbrev E9:ISs:=Jk
noncomputable def Jl:GI:={bl:=GB,gl:=GL,fns:=["is_whole","two_to"]}
theorem ZlN:chkSs Jl (X2 Zl) ["width","number"] E9 (X5 Zl)=true:=by decide+kernel
noncomputable def Jn:ISs:=.cons (.ret (.bin .Mod (.var 1) (.call 0 (.var 0) .nil))) .nil
noncomputable abbrev Ea:ISs:=Jn
noncomputable def Jo:GI:={bl:=GB,gl:=GL,fns:=["two_to"]}
theorem Zo3:chkSs Jo (X2 Zm) ["width","number"] Ea (X5 Zm)=true:=by decide+kernel
noncomputable def Eb:ISs:=.cons (.ret (.bi .list (.sl (.var 0) (.some (.int 1)) .none) .nil)) .nil
noncomputable def Ec:ISs:=.cons (.ret (.lst .nil)) .nil
noncomputable def Jp:ISs:=.cons (.ite (.or (.cmp .Eq (.ix (.var 0) (.int 0)) (.str "num")) (.cmp .Eq (.ix (.var 0) (.int 0)) (.str "var"))) Ec .nil) Eb
noncomputable abbrev Ed:ISs:=Jp
noncomputable def Jq:GI:={bl:=GB,gl:=GL,fns:=[]}
theorem Z9X:chkSs Jq (X2 Zn) ["T"] Ed (X5 Zn)=true:=by decide+kernel
noncomputable def Jr:ISs:=.cons (.ret (.tup (.cons (.var 1) (.cons (.bin .Add (.var 2) (.int 1)) .nil)))) .nil
noncomputable def Js:ISs:=.cons (.set 2 (.bi .max (.var 2) (.cons (.ix (.var 4) (.int 1)) .nil))) .nil
noncomputable def Jt:ISs:=.cons (.set 1 (.bin .Add (.var 1) (.ix (.var 4) (.int 0)))) Js
noncomputable def Ju:ISs:=.cons (.set 4 (.call 1 (.var 3) .nil)) Jt
noncomputable def Jv:ISs:=.cons (.for_ (.nm 3) (.seq (.call 0 (.var 0) .nil)) Ju) Jr
noncomputable def Jw:ISs:=.cons (.set 2 (.int 0)) Jv
noncomputable def Jx:ISs:=.cons (.set 1 (.int 1)) Jw
noncomputable abbrev Ee:ISs:=Jx
noncomputable def Jy:GI:={bl:=GB,gl:=GL,fns:=["parts_within","size_of"]}
theorem ZfC:chkSs Jy (X2 Zo) ["T","parts","deepest","part","size"] Ee (X5 Zo)=true:=by decide+kernel
noncomputable def Jz:ISs:=.cons (.ret (.var 1)) .nil
noncomputable def JA:ISs:=.cons (.expr (.mt .extend (.var 1) (.cons (.call 0 (.var 2) .nil) .nil))) .nil
noncomputable def JB:ISs:=.cons (.for_ (.nm 2) (.seq (.call 1 (.var 0) .nil)) JA) Jz
noncomputable def Ef:ISs:=.cons (.set 1 (.lst .nil)) JB
noncomputable def JC:ISs:=.cons (.ret (.lst (.cons (.ix (.var 0) (.int 1)) .nil))) .nil
noncomputable def JD:ISs:=.cons (.ite (.cmp .Eq (.ix (.var 0) (.int 0)) (.str "var")) JC .nil) Ef
noncomputable abbrev Eg:ISs:=JD
noncomputable def JE:GI:={bl:=GB,gl:=GL,fns:=["names_read","parts_within"]}
theorem ZbR:chkSs JE (X2 Zp) ["T","names","part"] Eg (X5 Zp)=true:=by decide+kernel
noncomputable def JF:ISs:=.cons (.ret (.b2 .ssrt (.call 0 (.var 0) .nil))) .nil
noncomputable abbrev Eh:ISs:=JF
noncomputable def JG:GI:={bl:=GB,gl:=GL,fns:=["names_read"]}
theorem ZfB:chkSs JG (X2 Zq) ["T"] Eh (X5 Zq)=true:=by decide+kernel
noncomputable def JH:ISs:=.cons (.ret (.ife (.cmp .Eq (.var 1) (.var 2)) (.int 1) (.int 0))) .nil
noncomputable def JI:ISs:=.cons (.ret (.ife (.cmp .Lt (.var 1) (.var 2)) (.int 1) (.int 0))) .nil
noncomputable def Ei:ISs:=.cons (.ite (.cmp .Eq (.var 0) (.str "less")) JI .nil) JH
noncomputable def JJ:ISs:=.cons (.ret (.call 0 (.var 3) (.cons (.bin .Mult (.var 1) (.var 2)) .nil))) .nil
noncomputable def BY:ISs:=.cons (.ite (.cmp .Eq (.var 0) (.str "times")) JJ .nil) Ei
noncomputable def JK:ISs:=.cons (.ret (.call 0 (.var 3) (.cons (.bin .Sub (.var 1) (.var 2)) .nil))) .nil
noncomputable def Ay:ISs:=.cons (.ite (.cmp .Eq (.var 0) (.str "minus")) JK .nil) BY
noncomputable def JL:ISs:=.cons (.ret (.call 0 (.var 3) (.cons (.bin .Add (.var 1) (.var 2)) .nil))) .nil
noncomputable def JM:ISs:=.cons (.ite (.cmp .Eq (.var 0) (.str "plus")) JL .nil) Ay
noncomputable abbrev Ej:ISs:=JM
noncomputable def JN:GI:={bl:=GB,gl:=GL,fns:=["cut"]}
theorem Z9U:chkSs JN (X2 Zr) ["form","left","right","width"] Ej (X5 Zr)=true:=by decide+kernel
noncomputable def JO:ISs:=.cons (.ret (.call 2 (.ix (.var 0) (.int 0)) (.cons (.var 3) (.cons (.call 1 (.ix (.var 0) (.int 2)) (.cons (.var 1) (.cons (.var 2) .nil))) (.cons (.var 1) .nil))))) .nil
noncomputable def JP:ISs:=.cons (.ret (.call 1 (.ife (.cmp .NotEq (.var 3) (.int 0)) (.ix (.var 0) (.int 2)) (.ix (.var 0) (.int 3))) (.cons (.var 1) (.cons (.var 2) .nil)))) .nil
noncomputable def Ek:ISs:=.cons (.ite (.cmp .Eq (.ix (.var 0) (.int 0)) (.str "pick")) JP .nil) JO
noncomputable def El:ISs:=.cons (.set 3 (.call 1 (.ix (.var 0) (.int 1)) (.cons (.var 1) (.cons (.var 2) .nil)))) Ek
noncomputable def JQ:ISs:=.cons (.ret (.ix (.var 2) (.ix (.var 0) (.int 1)))) .nil
noncomputable def BZ:ISs:=.cons (.ite (.cmp .Eq (.ix (.var 0) (.int 0)) (.str "var")) JQ .nil) El
noncomputable def JR:ISs:=.cons (.ret (.call 0 (.var 1) (.cons (.ix (.var 0) (.int 1)) .nil))) .nil
noncomputable def JS:ISs:=.cons (.ite (.cmp .Eq (.ix (.var 0) (.int 0)) (.str "num")) JR .nil) BZ
noncomputable abbrev Em:ISs:=JS
noncomputable def JT:GI:={bl:=GB,gl:=GL,fns:=["cut","worth","worth_of_two"]}
theorem ZiZ:chkSs JT (X2 Zs) ["T","width","words","first"] Em (X5 Zs)=true:=by decide+kernel
noncomputable def En:ISs:=.cons (.ret (.tup (.cons (.str "own") .nil))) .nil
noncomputable def JU:ISs:=.cons (.ret (.tup (.cons (.str "give") (.cons (.ix (.var 4) (.int 1)) (.cons (.call 0 (.ix (.var 4) (.int 2)) (.cons (.var 0) (.cons (.var 3) .nil))) .nil))))) .nil
noncomputable def C0:ISs:=.cons (.ite (.cmp .Eq (.ix (.var 4) (.int 0)) (.str "give")) JU .nil) En
noncomputable def JV:ISs:=.cons (.ret (.tup (.cons (.str "take") (.cons (.ix (.var 4) (.int 1)) .nil)))) .nil
noncomputable def Eo:ISs:=.cons (.ite (.cmp .Eq (.ix (.var 4) (.int 0)) (.str "take")) JV .nil) C0
noncomputable def Ep:ISs:=.cons (.set 4 (.ix (.var 1) (.var 2))) Eo
noncomputable def Er:ISs:=.cons (.ret .non) .nil
noncomputable def JW:ISs:=.cons (.ite (.cmp .Eq (.var 2) (.bi .len (.var 1) .nil)) Er .nil) Ep
noncomputable abbrev Es:ISs:=JW
noncomputable def JX:GI:={bl:=GB,gl:=GL,fns:=["worth"]}
theorem ZlL:chkSs JX (X2 Zt) ["width","steps","number","words","step"] Es (X5 Zt)=true:=by decide+kernel
noncomputable def Az:ISs:=.cons (.ret (.bin .Add (.var 2) (.int 1))) .nil
noncomputable def JY:ISs:=.cons (.ret (.ix (.var 4) (.int 2))) .nil
noncomputable def JZ:ISs:=.cons (.ite (.and (.cmp .Eq (.ix (.var 4) (.int 0)) (.str "jump")) (.cmp .NotEq (.call 0 (.ix (.var 4) (.int 1)) (.cons (.var 0) (.cons (.var 3) .nil))) (.int 0))) JY .nil) Az
noncomputable def K0:ISs:=.cons (.set 4 (.ix (.var 1) (.var 2))) JZ
noncomputable abbrev Et:ISs:=K0
noncomputable def K1:GI:={bl:=GB,gl:=GL,fns:=["worth"]}
theorem Z9Y:chkSs K1 (X2 Zu) ["width","steps","number","words","step"] Et (X5 Zu)=true:=by decide+kernel
noncomputable def AA:ISs:=.cons (.ret (.var 4)) .nil
noncomputable def K2:ISs:=.cons (.put (.var 4) (.ix (.var 1) (.int 1)) (.call 0 (.ix (.var 1) (.int 2)) (.cons (.var 0) (.cons (.var 2) .nil)))) .nil
noncomputable def AB:ISs:=.cons (.ite (.cmp .Eq (.ix (.var 1) (.int 0)) (.str "put")) K2 .nil) AA
noncomputable def K3:ISs:=.cons (.put (.var 4) (.ix (.var 1) (.int 2)) (.var 3)) .nil
noncomputable def K4:ISs:=.cons (.ite (.cmp .Eq (.ix (.var 1) (.int 0)) (.str "take")) K3 .nil) AB
noncomputable def K5:ISs:=.cons (.set 4 (.bi .dict (.var 2) .nil)) K4
noncomputable abbrev Eu:ISs:=K5
noncomputable def K6:GI:={bl:=GB,gl:=GL,fns:=["worth"]}
theorem Zax:chkSs K6 (X2 Zv) ["width","step","words","word","behind"] Eu (X5 Zv)=true:=by decide+kernel
noncomputable def K7:ISs:=.cons (.ret (.tup (.cons (.call 0 (.var 0) (.cons (.var 1) (.cons (.var 2) (.cons (.var 3) .nil)))) (.cons (.call 1 (.var 0) (.cons (.ix (.var 1) (.var 2)) (.cons (.var 3) (.cons (.var 4) .nil)))) .nil)))) .nil
noncomputable abbrev Ev:ISs:=K7
noncomputable def K8:GI:={bl:=GB,gl:=GL,fns:=["number_after","words_after"]}
theorem Zj1:chkSs K8 (X2 Zw) ["width","steps","number","words","word"] Ev (X5 Zw)=true:=by decide+kernel
noncomputable def K9:ISs:=.cons (.ret (.and (.chn .LtE .LtE (.int 1) (.bi .len (.var 0) .nil) (.glb "MOST_LETTERS" 8)) (.bi .all (.comp ["sign"] [] (.seq (.var 0)) (.nm 0) .none (.chn .LtE .LtE (.str "a") (.var 0) (.str "z"))) .nil))) .nil
noncomputable abbrev Ew:ISs:=K9
noncomputable def Ka:GI:={bl:=GB,gl:=GL,fns:=[]}
theorem ZfD:chkSs Ka (X2 Zx) ["text"] Ew (X5 Zx)=true:=by decide+kernel
noncomputable def Zas:ISs:=.cons .never .nil
noncomputable def Kb:ISs:=.cons (.ite (.cmp .In (.var 0) (.var 1)) Zas .nil) .nil
noncomputable def Zat:ISs:=.cons .never .nil
noncomputable def Kc:ISs:=.cons (.ite (.not (.call 0 (.var 0) .nil)) Zat .nil) Kb
noncomputable abbrev Ex:ISs:=Kc
noncomputable def Kd:GI:={bl:=GB,gl:=GL,fns:=["is_name"]}
theorem ZaA:chkSs Kd (X2 Zy) ["text","earlier"] Ex (X5 Zy)=true:=by decide+kernel
noncomputable def Z7D:ISs:=.cons .never .nil
noncomputable def Ke:ISs:=.cons (.ite (.cmp .NotIn (.var 0) (.var 1)) Z7D .nil) .nil
noncomputable abbrev Ey:ISs:=Ke
noncomputable def Kf:GI:={bl:=GB,gl:=GL,fns:=[]}
theorem Z7N:chkSs Kf (X2 Zz) ["name","known"] Ey (X5 Zz)=true:=by decide+kernel
noncomputable def Kg:ISs:=.cons (.expr (.mt .append (.var 1) (.cons (.ix (.var 2) (.int 0)) .nil))) .nil
noncomputable def Kh:ISs:=.cons (.expr (.call 0 (.ix (.var 2) (.int 0)) (.cons (.var 1) .nil))) Kg
noncomputable def Ki:ISs:=.cons (.for_ (.nm 2) (.seq (.var 0)) Kh) .nil
noncomputable def Kj:ISs:=.cons (.set 1 (.lst .nil)) Ki
noncomputable abbrev Ez:ISs:=Kj
noncomputable def Kk:GI:={bl:=GB,gl:=GL,fns:=["refuse_name"]}
theorem Z50:chkSs Kk (X2 ZA) ["ferries","earlier","ferry"] Ez (X5 ZA)=true:=by decide+kernel
noncomputable def Z6w:ISs:=.cons .never .nil
noncomputable def Kl:ISs:=.cons (.ite (.not (.call 0 (.var 0) (.cons (.ix (.var 3) (.int 1)) .nil))) Z6w .nil) .nil
noncomputable def Km:ISs:=.cons (.expr (.mt .append (.var 2) (.cons (.var 4) .nil))) Kl
noncomputable def Kn:ISs:=.cons (.expr (.call 1 (.var 4) (.cons (.var 2) .nil))) Km
noncomputable def Ko:ISs:=.cons (.set 4 (.ix (.var 3) (.int 0))) Kn
noncomputable def Kq:ISs:=.cons (.for_ (.nm 3) (.seq (.var 1)) Ko) .nil
noncomputable def Kr:ISs:=.cons (.set 2 (.lst .nil)) Kq
noncomputable abbrev EA:ISs:=Kr
noncomputable def Ks:GI:={bl:=GB,gl:=GL,fns:=["fits","refuse_name"]}
theorem Z6D:chkSs Ks (X2 ZB) ["width","pairs","earlier","pair","name"] EA (X5 ZB)=true:=by decide+kernel
noncomputable def Kt:ISs:=.cons (.expr (.call 0 (.var 3) (.cons (.var 1) .nil))) .nil
noncomputable def Ku:ISs:=.cons (.for_ (.nm 3) (.seq (.call 2 (.var 0) .nil)) Kt) .nil
noncomputable def Zar:ISs:=.cons .never .nil
noncomputable def Kv:ISs:=.cons (.ite (.or (.cmp .Gt (.ix (.var 2) (.int 0)) (.glb "MOST_PARTS" 30)) (.cmp .Gt (.ix (.var 2) (.int 1)) (.glb "MOST_DEPTH" 8))) Zar .nil) Ku
noncomputable def Kw:ISs:=.cons (.set 2 (.call 1 (.var 0) .nil)) Kv
noncomputable abbrev EB:ISs:=Kw
noncomputable def Kx:GI:={bl:=GB,gl:=GL,fns:=["refuse_unknown","size_of","vars_in"]}
theorem Zay:chkSs Kx (X2 ZC) ["T","known","size","name"] EB (X5 ZC)=true:=by decide+kernel
noncomputable def Ky:ISs:=.cons (.expr (.call 1 (.ix (.var 0) (.int 2)) (.cons (.var 1) .nil))) .nil
noncomputable def Kz:ISs:=.cons (.expr (.call 1 (.ix (.var 0) (.int 1)) (.cons (.var 3) .nil))) Ky
noncomputable def KA:ISs:=.cons (.expr (.call 0 (.ix (.var 0) (.int 2)) (.cons (.var 1) .nil))) .nil
noncomputable def KB:ISs:=.cons (.expr (.call 1 (.ix (.var 0) (.int 1)) (.cons (.var 3) .nil))) KA
noncomputable def KC:ISs:=.cons (.expr (.call 0 (.ix (.var 0) (.int 2)) (.cons (.var 1) .nil))) .nil
noncomputable def KD:ISs:=.cons (.expr (.call 1 (.ix (.var 0) (.int 1)) (.cons (.var 1) .nil))) KC
noncomputable def Z9w:ISs:=.cons .never .nil
noncomputable def KE:ISs:=.cons (.ite (.not (.chn .LtE .LtE (.int 0) (.ix (.var 0) (.int 2)) (.var 2))) Z9w .nil) .nil
noncomputable def KF:ISs:=.cons (.expr (.call 0 (.ix (.var 0) (.int 1)) (.cons (.var 1) .nil))) KE
noncomputable def EC:ISs:=.cons (.ite (.cmp .Eq (.ix (.var 0) (.int 0)) (.str "put")) KD KF) .nil
noncomputable def C1:ISs:=.cons (.ite (.cmp .Eq (.ix (.var 0) (.int 0)) (.str "give")) KB EC) .nil
noncomputable def KG:ISs:=.cons (.ite (.cmp .Eq (.ix (.var 0) (.int 0)) (.str "take")) Kz C1) .nil
noncomputable abbrev ED:ISs:=KG
noncomputable def KH:GI:={bl:=GB,gl:=GL,fns:=["refuse_term","refuse_unknown"]}
theorem Zaz:chkSs KH (X2 ZD) ["step","known","count","ferry_names"] ED (X5 ZD)=true:=by decide+kernel
noncomputable def KI:ISs:=.cons (.expr (.call 0 (.var 4) (.cons (.var 3) (.cons (.bi .len (.ix (.var 1) (.int 2)) .nil) (.cons (.var 2) .nil))))) .nil
noncomputable def KJ:ISs:=.cons (.for_ (.nm 4) (.seq (.ix (.var 1) (.int 2))) KI) .nil
noncomputable def KK:ISs:=.cons (.set 3 (.comp ["pair"] [] (.seq (.ix (.var 1) (.int 1))) (.nm 0) .none (.ix (.var 0) (.int 0)))) KJ
noncomputable def KL:ISs:=.cons (.expr (.call 1 (.var 0) (.cons (.ix (.var 1) (.int 1)) .nil))) KK
noncomputable def Z8M:ISs:=.cons .never .nil
noncomputable def KM:ISs:=.cons (.ite (.cmp .Gt (.bi .len (.ix (.var 1) (.int 2)) .nil) (.glb "MOST_STEPS" 12)) Z8M .nil) KL
noncomputable def Z8N:ISs:=.cons .never .nil
noncomputable def KN:ISs:=.cons (.ite (.cmp .Gt (.bi .len (.ix (.var 1) (.int 1)) .nil) (.glb "MOST_VARS" 6)) Z8N .nil) KM
noncomputable abbrev EE:ISs:=KN
noncomputable def KO:GI:={bl:=GB,gl:=GL,fns:=["refuse_step","refuse_variables"]}
theorem Z8O:chkSs KO (X2 ZE) ["width","island","ferry_names","known","step"] EE (X5 ZE)=true:=by decide+kernel
noncomputable def KP:ISs:=.cons (.expr (.call 0 (.var 0) (.cons (.var 4) (.cons (.var 2) .nil)))) .nil
noncomputable def KQ:ISs:=.cons (.expr (.mt .append (.var 3) (.cons (.ix (.var 4) (.int 0)) .nil))) KP
noncomputable def KR:ISs:=.cons (.expr (.call 1 (.ix (.var 4) (.int 0)) (.cons (.var 3) .nil))) KQ
noncomputable def KS:ISs:=.cons (.for_ (.nm 4) (.seq (.var 1)) KR) .nil
noncomputable def KU:ISs:=.cons (.set 3 (.bi .list (.var 2) .nil)) KS
noncomputable abbrev EF:ISs:=KU
noncomputable def KW:GI:={bl:=GB,gl:=GL,fns:=["refuse_island","refuse_name"]}
theorem Z7O:chkSs KW (X2 ZF) ["width","islands","ferry_names","earlier","island"] EF (X5 ZF)=true:=by decide+kernel
noncomputable def Z9x:ISs:=.cons .never .nil
noncomputable def KY:ISs:=.cons (.ite (.not (.chn .LtE .LtE (.int 1) (.ix (.var 0) (.int 4)) (.glb "MOST_STAGES" 3))) Z9x .nil) .nil
noncomputable def Z9y:ISs:=.cons .never .nil
noncomputable def KZ:ISs:=.cons (.ite (.not (.chn .LtE .LtE (.int 0) (.ix (.var 0) (.int 3)) (.glb "MOST_K" 3))) Z9y .nil) KY
noncomputable def Z9z:ISs:=.cons .never .nil
noncomputable def L0:ISs:=.cons (.ite (.cmp .Eq (.ix (.var 0) (.int 1)) (.ix (.var 0) (.int 2))) Z9z .nil) KZ
noncomputable def L1:ISs:=.cons (.expr (.call 0 (.ix (.var 0) (.int 2)) (.cons (.var 1) .nil))) L0
noncomputable def L3:ISs:=.cons (.expr (.call 0 (.ix (.var 0) (.int 1)) (.cons (.var 1) .nil))) L1
noncomputable abbrev EG:ISs:=L3
noncomputable def L4:GI:={bl:=GB,gl:=GL,fns:=["refuse_unknown"]}
theorem Z9W:chkSs L4 (X2 ZG) ["ferry","island_names"] EG (X5 ZG)=true:=by decide+kernel
noncomputable def Z6u:ISs:=.cons .never .nil
noncomputable def AC:ISs:=.cons (.ite (.and (.cmp .Eq (.ix (.var 1) (.int 0)) (.str "give")) (.cmp .NotEq (.ix (.var 2) (.ix (.var 1) (.int 1))) (.var 0))) Z6u .nil) .nil
noncomputable def Z6v:ISs:=.cons .never .nil
noncomputable def L5:ISs:=.cons (.ite (.and (.cmp .Eq (.ix (.var 1) (.int 0)) (.str "take")) (.cmp .NotEq (.ix (.var 3) (.ix (.var 1) (.int 1))) (.var 0))) Z6v .nil) AC
noncomputable abbrev EH:ISs:=L5
noncomputable def L6:GI:={bl:=GB,gl:=GL,fns:=[]}
theorem Z6C:chkSs L6 (X2 ZH) ["name","step","givers","takers"] EH (X5 ZH)=true:=by decide+kernel
noncomputable def L7:ISs:=.cons (.expr (.call 0 (.ix (.var 4) (.int 0)) (.cons (.var 5) (.cons (.var 2) (.cons (.var 3) .nil))))) .nil
noncomputable def L8:ISs:=.cons (.for_ (.nm 5) (.seq (.ix (.var 4) (.int 2))) L7) .nil
noncomputable def L9:ISs:=.cons (.for_ (.nm 4) (.seq (.var 0)) L8) .nil
noncomputable def La:ISs:=.cons (.set 3 (.bi .dictL (.comp ["ferry"] [] (.seq (.var 1)) (.nm 0) .none (.tup (.cons (.ix (.var 0) (.int 0)) (.cons (.ix (.var 0) (.int 2)) .nil)))) .nil)) L9
noncomputable def Lb:ISs:=.cons (.set 2 (.bi .dictL (.comp ["ferry"] [] (.seq (.var 1)) (.nm 0) .none (.tup (.cons (.ix (.var 0) (.int 0)) (.cons (.ix (.var 0) (.int 1)) .nil)))) .nil)) La
noncomputable abbrev EI:ISs:=Lb
noncomputable def Lc:GI:={bl:=GB,gl:=GL,fns:=["refuse_wrong_end"]}
theorem Z5r:chkSs Lc (X2 ZI) ["islands","ferries","givers","takers","island","step"] EI (X5 ZI)=true:=by decide+kernel
noncomputable def Wu:ISs:=.cons (.ret (.var 0)) .nil
noncomputable def EJ:ISs:=.cons (.ret (.bi .tuple (.comp ["part"] [] (.seq (.var 0)) (.nm 0) .none (.call 0 (.var 0) .nil)) .nil)) .nil
noncomputable def EK:ISs:=.cons (.ite (.bi .isinst (.var 0) (.cons (.tup (.cons (.ty .list) (.cons (.ty .tuple) .nil))) .nil)) EJ .nil) Wu
noncomputable abbrev Wv:ISs:=EK
noncomputable def EL:GI:={bl:=GB,gl:=GL,fns:=["frozen"]}
theorem Ld:chkSs EL (X2 ZJ) ["value"] Wv (X5 ZJ)=true:=by decide+kernel
noncomputable def Lf:ISs:=.cons (.ret (.call 0 (.tup (.cons (.var 0) (.cons (.var 1) (.cons (.var 2) .nil)))) .nil)) .nil
noncomputable def Lg:ISs:=.cons (.expr (.call 5 (.var 1) (.cons (.var 2) .nil))) Lf
noncomputable def Lh:ISs:=.cons (.expr (.call 2 (.var 4) (.cons (.var 3) .nil))) .nil
noncomputable def Li:ISs:=.cons (.for_ (.nm 4) (.seq (.var 2)) Lh) Lg
noncomputable def Lj:ISs:=.cons (.set 3 (.comp ["island"] [] (.seq (.var 1)) (.nm 0) .none (.ix (.var 0) (.int 0)))) Li
noncomputable def Lk:ISs:=.cons (.expr (.call 4 (.var 0) (.cons (.var 1) (.cons (.comp ["ferry"] [] (.seq (.var 2)) (.nm 0) .none (.ix (.var 0) (.int 0))) .nil)))) Lj
noncomputable def Ll:ISs:=.cons (.expr (.call 3 (.var 2) .nil)) Lk
noncomputable def Zly:ISs:=.cons .never .nil
noncomputable def Lm:ISs:=.cons (.ite (.cmp .Gt (.bi .len (.var 2) .nil) (.glb "MOST_FERRIES" 6)) Zly .nil) Ll
noncomputable def Zlz:ISs:=.cons .never .nil
noncomputable def Ln:ISs:=.cons (.ite (.cmp .Gt (.bi .len (.var 1) .nil) (.glb "MOST_ISLANDS" 5)) Zlz .nil) Lm
noncomputable def ZlA:ISs:=.cons .never .nil
noncomputable def Lo:ISs:=.cons (.ite (.not (.call 1 (.var 0) .nil)) ZlA .nil) Ln
noncomputable abbrev EM:ISs:=Lo
noncomputable def Lp:GI:={bl:=GB,gl:=GL,fns:=["frozen","is_width","refuse_ferry","refuse_ferry_names","refuse_islands","refuse_wrong_ends"]}
theorem ZlM:chkSs Lp (X2 ZK) ["width","islands","ferries","island_names","ferry"] EM (X5 ZK)=true:=by decide+kernel
noncomputable def ZbL:ISs:=.cons .never .nil
noncomputable def Lq:ISs:=.cons (.ret (.var 2)) .nil
noncomputable def Lr:ISs:=.cons (.ite (.cmp .Eq (.ix (.var 2) (.int 0)) (.var 1)) Lq .nil) .nil
noncomputable def Ls:ISs:=.cons (.for_ (.nm 2) (.seq (.var 0)) Lr) ZbL
noncomputable abbrev EN:ISs:=Ls
noncomputable def Lu:GI:={bl:=GB,gl:=GL,fns:=[]}
theorem ZbQ:chkSs Lu (X2 ZL) ["row","name","one"] EN (X5 ZL)=true:=by decide+kernel
noncomputable def Lv:ISs:=.cons (.ret (.call 0 (.ix (.var 0) (.int 1)) (.cons (.var 1) .nil))) .nil
noncomputable abbrev EO:ISs:=Lv
noncomputable def Lw:GI:={bl:=GB,gl:=GL,fns:=["one_called"]}
theorem ZcP:chkSs Lw (X2 ZM) ["world","name"] EO (X5 ZM)=true:=by decide+kernel
noncomputable def Lx:ISs:=.cons (.ret (.call 0 (.ix (.var 0) (.int 2)) (.cons (.var 1) .nil))) .nil
noncomputable abbrev EQ:ISs:=Lx
noncomputable def Ly:GI:={bl:=GB,gl:=GL,fns:=["one_called"]}
theorem Ze1:chkSs Ly (X2 ZN) ["world","name"] EQ (X5 ZN)=true:=by decide+kernel
noncomputable def Lz:ISs:=.cons (.ret (.tup (.cons (.var 1) (.cons (.var 2) (.cons (.var 3) (.cons (.var 4) .nil)))))) .nil
noncomputable def LA:ISs:=.cons (.set 4 (.bi .dictL (.comp ["ferry"] [] (.seq (.ix (.var 0) (.int 2))) (.nm 0) .none (.tup (.cons (.ix (.var 0) (.int 0)) (.cons (.int 0) .nil)))) .nil)) Lz
noncomputable def LB:ISs:=.cons (.set 3 (.bi .dictL (.comp ["ferry"] [] (.seq (.ix (.var 0) (.int 2))) (.nm 0) .none (.tup (.cons (.ix (.var 0) (.int 0)) (.cons (.lst .nil) .nil)))) .nil)) LA
noncomputable def LC:ISs:=.cons (.set 2 (.bi .dictL (.comp ["island"] [] (.seq (.ix (.var 0) (.int 1))) (.nm 0) .none (.tup (.cons (.ix (.var 0) (.int 0)) (.cons (.bi .dict (.ix (.var 0) (.int 1)) .nil) .nil)))) .nil)) LB
noncomputable def LD:ISs:=.cons (.set 1 (.bi .dictL (.comp ["island"] [] (.seq (.ix (.var 0) (.int 1))) (.nm 0) .none (.tup (.cons (.ix (.var 0) (.int 0)) (.cons (.int 0) .nil)))) .nil)) LC
noncomputable abbrev ER:ISs:=LD
noncomputable def LE:GI:={bl:=GB,gl:=GL,fns:=[]}
theorem ZaB:chkSs LE (X2 ZO) ["world","numbers","words","given","taken"] ER (X5 ZO)=true:=by decide+kernel
noncomputable def LF:ISs:=.cons (.ret (.tup (.cons (.bi .dict (.ix (.var 0) (.int 0)) .nil) (.cons (.var 1) (.cons (.var 2) (.cons (.bi .dict (.ix (.var 0) (.int 3)) .nil) .nil)))))) .nil
noncomputable def LG:ISs:=.cons (.set 2 (.bi .dictL (.comp ["name"] [0] (.seq (.ix (.var 0) (.int 2))) (.nm 0) .none (.tup (.cons (.var 0) (.cons (.bi .list (.ix (.ix (.var 1) (.int 2)) (.var 0)) .nil) .nil)))) .nil)) LF
noncomputable def LH:ISs:=.cons (.set 1 (.bi .dictL (.comp ["name"] [0] (.seq (.ix (.var 0) (.int 1))) (.nm 0) .none (.tup (.cons (.var 0) (.cons (.bi .dict (.ix (.ix (.var 1) (.int 1)) (.var 0)) .nil) .nil)))) .nil)) LG
noncomputable abbrev ES:ISs:=LH
noncomputable def LI:GI:={bl:=GB,gl:=GL,fns:=[]}
theorem ZfF:chkSs LI (X2 ZP) ["stand","words","given"] ES (X5 ZP)=true:=by decide+kernel
noncomputable def LJ:ISs:=.cons (.ret (.call 1 (.ix (.var 0) (.int 0)) (.cons (.ix (.call 0 (.var 0) (.cons (.var 2) .nil)) (.int 2)) (.cons (.ix (.ix (.var 1) (.int 0)) (.var 2)) (.cons (.ix (.ix (.var 1) (.int 1)) (.var 2)) .nil))))) .nil
noncomputable abbrev ET:ISs:=LJ
noncomputable def LK:GI:={bl:=GB,gl:=GL,fns:=["island_of","wish"]}
theorem ZfA:chkSs LK (X2 ZQ) ["world","stand","name"] ET (X5 ZQ)=true:=by decide+kernel
noncomputable def LL:ISs:=.cons (.ret (.cmp .Lt (.var 3) (.call 1 (.ix (.call 0 (.var 0) (.cons (.ix (.var 2) (.int 1)) .nil)) (.int 3)) .nil))) .nil
noncomputable def LM:ISs:=.cons (.ret (.cmp .Gt (.var 3) (.int 0))) .nil
noncomputable def EU:ISs:=.cons (.ite (.cmp .Eq (.ix (.var 2) (.int 0)) (.str "take")) LM .nil) LL
noncomputable def EV:ISs:=.cons (.set 3 (.bin .Sub (.bi .len (.ix (.ix (.var 1) (.int 2)) (.ix (.var 2) (.int 1))) .nil) (.ix (.ix (.var 1) (.int 3)) (.ix (.var 2) (.int 1))))) EU
noncomputable def EW:ISs:=.cons (.ret (.bl true)) .nil
noncomputable def LN:ISs:=.cons (.ite (.cmp .Eq (.ix (.var 2) (.int 0)) (.str "own")) EW .nil) EV
noncomputable abbrev EX:ISs:=LN
noncomputable def LO:GI:={bl:=GB,gl:=GL,fns:=["ferry_of","two_to"]}
theorem Zhx:chkSs LO (X2 ZR) ["world","stand","asked","under_way"] EX (X5 ZR)=true:=by decide+kernel
noncomputable def LP:ISs:=.cons (.put (.ix (.var 4) (.int 1)) (.var 2) (.ix (.var 8) (.int 1))) .nil
noncomputable def LQ:ISs:=.cons (.put (.ix (.var 4) (.int 0)) (.var 2) (.ix (.var 8) (.int 0))) LP
noncomputable def LR:ISs:=.cons (.set 8 (.call 0 (.ix (.var 0) (.int 0)) (.cons (.var 7) (.cons (.ix (.ix (.var 1) (.int 0)) (.var 2)) (.cons (.ix (.ix (.var 1) (.int 1)) (.var 2)) (.cons (.var 5) .nil)))))) LQ
noncomputable def EY:ISs:=.cons (.set 7 (.ix (.call 1 (.var 0) (.cons (.var 2) .nil)) (.int 2))) LR
noncomputable def LS:ISs:=.cons (.expr (.mt .append (.ix (.ix (.var 4) (.int 2)) (.ix (.var 3) (.int 1))) (.cons (.ix (.var 3) (.int 2)) .nil))) .nil
noncomputable def AD:ISs:=.cons (.ite (.cmp .Eq (.ix (.var 3) (.int 0)) (.str "give")) LS .nil) EY
noncomputable def LT:ISs:=.cons (.put (.ix (.var 4) (.int 3)) (.var 6) (.bin .Add (.ix (.ix (.var 1) (.int 3)) (.var 6)) (.int 1))) .nil
noncomputable def LU:ISs:=.cons (.set 5 (.ix (.ix (.ix (.var 1) (.int 2)) (.var 6)) (.ix (.ix (.var 1) (.int 3)) (.var 6)))) LT
noncomputable def LV:ISs:=.cons (.set 6 (.ix (.var 3) (.int 1))) LU
noncomputable def LW:ISs:=.cons (.ite (.cmp .Eq (.ix (.var 3) (.int 0)) (.str "take")) LV .nil) AD
noncomputable def LX:ISs:=.cons (.set 5 .non) LW
noncomputable abbrev EZ:ISs:=LX
noncomputable def LY:GI:={bl:=GB,gl:=GL,fns:=["after","island_of"]}
theorem ZfE:chkSs LY (X2 ZS) ["world","stand","name","asked","behind","word","ferry","steps","went"] EZ (X5 ZS)=true:=by decide+kernel
noncomputable def LZ:ISs:=.cons (.ret (.tup (.cons (.var 2) (.cons (.var 3) .nil)))) .nil
noncomputable def Mb:ISs:=.cons (.expr (.mt .append (.var 3) (.cons (.ix (.var 4) (.int 0)) .nil))) .nil
noncomputable def Me:ISs:=.cons (.expr (.call 2 (.var 0) (.cons (.var 1) (.cons (.ix (.var 4) (.int 0)) (.cons (.var 5) (.cons (.var 2) .nil)))))) Mb
noncomputable def Mf:ISs:=.cons (.ite (.and (.cmp .IsNot (.var 5) .non) (.call 0 (.var 0) (.cons (.var 1) (.cons (.var 5) .nil)))) Me .nil) .nil
noncomputable def Mg:ISs:=.cons (.set 5 (.call 3 (.var 0) (.cons (.var 1) (.cons (.ix (.var 4) (.int 0)) .nil)))) Mf
noncomputable def Mh:ISs:=.cons (.for_ (.nm 4) (.seq (.ix (.var 0) (.int 1))) Mg) LZ
noncomputable def Mi:ISs:=.cons (.set 3 (.lst .nil)) Mh
noncomputable def Mj:ISs:=.cons (.set 2 (.call 1 (.var 1) .nil)) Mi
noncomputable abbrev F0:ISs:=Mj
noncomputable def Ml:GI:={bl:=GB,gl:=GL,fns:=["can_be","copy_of","do_step","wish_of"]}
theorem ZdY:chkSs Ml (X2 ZT) ["world","stand","behind","names","island","asked"] F0 (X5 ZT)=true:=by decide+kernel
noncomputable def Mm:ISs:=.cons (.ret (.var 3)) .nil
noncomputable def Mn:ISs:=.cons (.set 4 (.bi .list (.var 2) .nil)) .nil
noncomputable def Mo:ISs:=.cons (.set 3 (.bin .Add (.var 3) (.int 1))) Mn
noncomputable def Mp:ISs:=.cons (.ite (.cmp .Eq (.bi .len (.var 4) .nil) (.int 0)) Mo .nil) .nil
noncomputable def Mq:ISs:=.cons (.expr (.mt .remove (.var 4) (.cons (.var 5) .nil))) Mp
noncomputable def Mr:ISs:=.cons (.ite (.cmp .In (.var 5) (.var 4)) Mq .nil) .nil
noncomputable def Ms:ISs:=.cons (.for_ (.nm 5) (.seq (.var 1)) Mr) Mm
noncomputable def Mt:ISs:=.cons (.set 4 (.bi .list (.var 2) .nil)) Ms
noncomputable def Mu:ISs:=.cons (.set 3 (.int 0)) Mt
noncomputable def Mv:ISs:=.cons (.set 2 (.comp ["island"] [] (.seq (.ix (.var 0) (.int 1))) (.nm 0) .none (.ix (.var 0) (.int 0)))) Mu
noncomputable abbrev F1:ISs:=Mv
noncomputable def Mw:GI:={bl:=GB,gl:=GL,fns:=[]}
theorem ZcO:chkSs Mw (X2 ZU) ["world","names","every","ended","missing","name"] F1 (X5 ZU)=true:=by decide+kernel
noncomputable def Mx:ISs:=.cons (.ret (.var 3)) .nil
noncomputable def Mz:ISs:=.cons (.expr (.mt .append (.ix (.var 3) (.var 6)) (.cons (.tup (.cons (.ix (.ix (.var 2) (.int 0)) (.var 6)) (.cons (.bi .dict (.ix (.ix (.var 2) (.int 1)) (.var 6)) .nil) .nil))) .nil))) .nil
noncomputable def MA:ISs:=.cons (.for_ (.nm 6) (.seq (.ix (.var 5) (.int 1))) Mz) .nil
noncomputable def MB:ISs:=.cons (.set 2 (.ix (.var 5) (.int 0))) MA
noncomputable def MC:ISs:=.cons (.set 5 (.call 1 (.var 0) (.cons (.var 2) .nil))) MB
noncomputable def MD:ISs:=.cons (.for_ (.nm 4) (.rng (.var 1)) MC) Mx
noncomputable def ME:ISs:=.cons (.set 3 (.bi .dictL (.comp ["island"] [] (.seq (.ix (.var 0) (.int 1))) (.nm 0) .none (.tup (.cons (.ix (.var 0) (.int 0)) (.cons (.lst (.cons (.tup (.cons (.int 0) (.cons (.bi .dict (.ix (.var 0) (.int 1)) .nil) .nil))) .nil)) .nil)))) .nil)) MD
noncomputable def MF:ISs:=.cons (.set 2 (.call 0 (.var 0) .nil)) ME
noncomputable abbrev F2:ISs:=MF
noncomputable def MG:GI:={bl:=GB,gl:=GL,fns:=["first_stand","round_of"]}
theorem Zj0:chkSs MG (X2 ZV) ["world","n","stand","rows","k","told","name"] F2 (X5 ZV)=true:=by decide+kernel
noncomputable def MI:ISs:=.cons (.ret (.bi .dictL (.comp ["name"] [2] (.seq (.var 2)) (.nm 0) .none (.tup (.cons (.var 0) (.cons (.bin .Sub (.bi .len (.ix (.var 1) (.var 0)) .nil) (.int 1)) .nil)))) .nil)) .nil
noncomputable def MJ:ISs:=.cons (.set 2 (.call 0 (.var 0) (.cons (.var 1) .nil))) MI
noncomputable abbrev F3:ISs:=MJ
noncomputable def MK:GI:={bl:=GB,gl:=GL,fns:=["track"]}
theorem Z9V:chkSs MK (X2 ZW) ["world","n","rows"] F3 (X5 ZW)=true:=by decide+kernel
noncomputable def ML:ISs:=.cons (.ret (.bin .Add (.mxd (.comp ["ferry"] [] (.seq (.ix (.var 0) (.int 2))) (.nm 0) .none (.ix (.var 0) (.int 4)))) (.int 2))) .nil
noncomputable abbrev F4:ISs:=ML
noncomputable def MM:GI:={bl:=GB,gl:=GL,fns:=[]}
theorem Z5q:chkSs MM (X2 ZX) ["world"] F4 (X5 ZX)=true:=by decide+kernel
noncomputable def MN:ISs:=.cons (.ret (.tup (.cons (.call 0 (.var 0) (.cons (.var 2) .nil)) (.cons (.call 0 (.var 0) (.cons (.bi .len (.var 1) .nil) .nil)) .nil)))) .nil
noncomputable def MP:ISs:=.cons (.set 2 (.bin .FloorDiv (.call 1 (.var 0) (.cons (.var 1) .nil)) (.call 2 (.var 0) .nil))) MN
noncomputable abbrev F5:ISs:=MP
noncomputable def MQ:GI:={bl:=GB,gl:=GL,fns:=["steps_behind","stretches","stretches_a_round"]}
theorem Zhy:chkSs MQ (X2 ZY) ["world","names","rounds"] F5 (X5 ZY)=true:=by decide+kernel
noncomputable def MR:ISs:=.cons (.ret (.int 0)) .nil
noncomputable def MS:ISs:=.cons (.ret (.ix (.var 0) (.var 1))) .nil
noncomputable def MU:ISs:=.cons (.ite (.cmp .Lt (.var 1) (.bi .len (.var 0) .nil)) MS .nil) MR
noncomputable abbrev F6:ISs:=MU
noncomputable def MW:GI:={bl:=GB,gl:=GL,fns:=[]}
theorem Z9Z:chkSs MW (X2 ZZ) ["script","k"] F6 (X5 ZZ)=true:=by decide+kernel
noncomputable def MX:ISs:=.cons (.ret (.and (.bi .isinst (.var 0) (.cons (.ty .int) .nil)) (.not (.bi .isinst (.var 0) (.cons (.ty .bool) .nil))))) .nil
noncomputable abbrev F7:ISs:=MX
noncomputable def MY:GI:={bl:=GB,gl:=GL,fns:=[]}
theorem ZbS:chkSs MY (X2 U0) ["found"] F7 (X5 U0)=true:=by decide+kernel
noncomputable def MZ:ISs:=.cons (.ret (.bin .Add (.bin .Add (.bin .Mult (.ix (.var 2) (.var 3)) (.var 6)) (.var 7)) (.bin .Mult (.ix (.var 2) (.var 3)) (.bin .Sub (.bin .Sub (.var 5) (.int 1)) (.var 6))))) .nil
noncomputable def N0:ISs:=.cons (.set 7 (.ix (.var 2) (.bin .Mod (.bin .Add (.bin .FloorDiv (.var 0) (.int 4992)) (.bin .Mult (.int 7) (.var 1))) (.int 26)))) MZ
noncomputable def N2:ISs:=.cons (.set 6 (.bin .Mod (.bin .Mod (.bin .FloorDiv (.var 0) (.int 24)) (.int 8)) (.var 5))) N0
noncomputable def N5:ISs:=.cons (.set 5 (.bin .Add (.int 1) (.bin .Mod (.bin .FloorDiv (.var 0) (.int 3)) (.int 8)))) N2
noncomputable def N6:ISs:=.cons (.ret (.bin .Add (.bin .Mult (.ix (.var 2) (.var 3)) (.bin .Add (.int 1) (.bin .Mod (.bin .Add (.bin .Mult (.int 3) (.var 1)) (.bin .FloorDiv (.var 0) (.int 192))) (.int 7)))) (.bin .Mult (.var 4) (.bin .FloorDiv (.var 1) (.int 7))))) .nil
noncomputable def N7:ISs:=.cons (.set 4 (.ix (.var 2) (.bin .Mod (.bin .Add (.bin .Add (.var 3) (.int 1)) (.bin .Mod (.bin .FloorDiv (.var 0) (.int 4992)) (.int 25))) (.int 26)))) N6
noncomputable def N8:ISs:=.cons (.ite (.cmp .Eq (.bin .Mod (.var 0) (.int 3)) (.int 2)) N7 .nil) N5
noncomputable def N9:ISs:=.cons (.set 3 (.bin .Mod (.bin .FloorDiv (.var 0) (.int 192)) (.int 26))) N8
noncomputable def Na:ISs:=.cons (.set 2 (.str "abcdefghijklmnopqrstuvwxyz")) N9
noncomputable abbrev F8:ISs:=Na
noncomputable def Nb:GI:={bl:=GB,gl:=GL,fns:=[]}
theorem ZcT:chkSs Nb (X2 U1) ["number","k","letters","fill","other","long","at","sign"] F8 (X5 U1)=true:=by decide+kernel
noncomputable def Nc:ISs:=.cons (.ret (.tup (.cons (.str "plus") (.cons (.var 2) (.cons (.tup (.cons (.str "var") (.cons (.ix (.var 1) (.bin .Mod (.bin .FloorDiv (.var 0) (.int 224)) (.int 2))) .nil))) .nil))))) .nil
noncomputable def Nd:ISs:=.cons (.ret (.tup (.cons (.str "pick") (.cons (.tup (.cons (.str "less") (.cons (.var 2) (.cons (.var 3) .nil)))) (.cons (.var 3) (.cons (.var 2) .nil)))))) .nil
noncomputable def Nf:ISs:=.cons (.ite (.cmp .Eq (.bin .Mod (.var 0) (.int 8)) (.int 5)) Nd .nil) Nc
noncomputable def Ng:ISs:=.cons (.ret (.tup (.cons (.ix (.lst (.cons (.str "plus") (.cons (.str "minus") (.cons (.str "times") .nil)))) (.bin .Sub (.bin .Mod (.var 0) (.int 8)) (.int 2))) (.cons (.var 2) (.cons (.var 3) .nil))))) .nil
noncomputable def Nh:ISs:=.cons (.ite (.cmp .Lt (.bin .Mod (.var 0) (.int 8)) (.int 5)) Ng .nil) Nf
noncomputable def Ni:ISs:=.cons (.ret (.ix (.lst (.cons (.var 2) (.cons (.var 3) .nil))) (.bin .Mod (.var 0) (.int 2)))) .nil
noncomputable def Nj:ISs:=.cons (.ite (.cmp .Lt (.bin .Mod (.var 0) (.int 8)) (.int 2)) Ni .nil) Nh
noncomputable def Nk:ISs:=.cons (.set 3 (.tup (.cons (.str "num") (.cons (.ix (.lst (.cons (.bin .Sub (.bin .Mod (.bin .FloorDiv (.var 0) (.int 16)) (.int 7)) (.int 3)) (.cons (.bin .Mod (.bin .Mult (.bin .FloorDiv (.var 0) (.int 16)) (.int 1000000007)) (.bin .Pow (.int 10) (.int 20))) .nil))) (.bin .Mod (.bin .FloorDiv (.var 0) (.int 112)) (.int 2))) .nil)))) Nj
noncomputable def Nl:ISs:=.cons (.set 2 (.tup (.cons (.str "var") (.cons (.ix (.var 1) (.bin .Mod (.bin .FloorDiv (.var 0) (.int 8)) (.int 2))) .nil)))) Nk
noncomputable abbrev F9:ISs:=Nl
noncomputable def Nm:GI:={bl:=GB,gl:=GL,fns:=[]}
theorem ZcR:chkSs Nm (X2 U2) ["number","names","one","other"] F9 (X5 U2)=true:=by decide+kernel
noncomputable def Nn:ISs:=.cons (.ret (.tup (.cons (.str "put") (.cons (.ix (.var 2) (.bin .Mod (.bin .FloorDiv (.var 0) (.int 8)) (.int 2))) (.cons (.call 0 (.var 7) (.cons (.var 2) .nil)) .nil))))) .nil
noncomputable def No:ISs:=.cons (.ret (.tup (.cons (.str "jump") (.cons (.call 0 (.var 7) (.cons (.var 2) .nil)) (.cons (.bin .Mod (.bin .FloorDiv (.var 0) (.int 8)) (.bin .Add (.var 4) (.int 1))) .nil))))) .nil
noncomputable def Fa:ISs:=.cons (.ite (.cmp .Eq (.bin .Mod (.var 0) (.int 8)) (.int 7)) No .nil) Nn
noncomputable def Np:ISs:=.cons (.ret (.tup (.cons (.str "give") (.cons (.ix (.var 6) (.bin .Mod (.bin .FloorDiv (.var 0) (.int 8)) (.bi .len (.var 6) .nil))) (.cons (.call 0 (.var 7) (.cons (.var 2) .nil)) .nil))))) .nil
noncomputable def Fb:ISs:=.cons (.ite (.and (.cmp .Lt (.bin .Mod (.var 0) (.int 8)) (.int 6)) (.cmp .NotEq (.var 6) (.lst .nil))) Np .nil) Fa
noncomputable def Nq:ISs:=.cons (.ret (.tup (.cons (.str "take") (.cons (.ix (.var 5) (.bin .Mod (.bin .FloorDiv (.var 0) (.int 8)) (.bi .len (.var 5) .nil))) (.cons (.ix (.var 2) (.bin .Mod (.var 7) (.int 2))) .nil))))) .nil
noncomputable def Nr:ISs:=.cons (.ite (.and (.cmp .Lt (.bin .Mod (.var 0) (.int 8)) (.int 3)) (.cmp .NotEq (.var 5) (.lst .nil))) Nq .nil) Fb
noncomputable def Nt:ISs:=.cons (.set 7 (.bin .FloorDiv (.var 0) (.int 128))) Nr
noncomputable def Nu:ISs:=.cons (.set 6 (.comp ["ferry"] [1] (.seq (.var 3)) (.nm 0) (.some (.cmp .Eq (.ix (.var 0) (.int 1)) (.var 1))) (.ix (.var 0) (.int 0)))) Nt
noncomputable def Nv:ISs:=.cons (.set 5 (.comp ["ferry"] [1] (.seq (.var 3)) (.nm 0) (.some (.cmp .Eq (.ix (.var 0) (.int 2)) (.var 1))) (.ix (.var 0) (.int 0)))) Nu
noncomputable abbrev Fc:ISs:=Nv
noncomputable def Nw:GI:={bl:=GB,gl:=GL,fns:=["_law_term"]}
theorem ZcS:chkSs Nw (X2 U3) ["number","name","names","ferries","many","takes","gives","rest"] Fc (X5 U3)=true:=by decide+kernel
noncomputable def Fd:ISs:=.cons (.ret (.tup (.cons (.var 5) (.cons (.var 7) (.cons (.var 10) .nil))))) .nil
noncomputable def Ny:ISs:=.cons (.expr (.mt .append (.var 10) (.cons (.tup (.cons (.str "jump") (.cons (.tup (.cons (.str "num") (.cons (.int 1) .nil))) (.cons (.int 0) .nil)))) .nil))) .nil
noncomputable def Nz:ISs:=.cons (.ite (.cmp .Eq (.var 9) (.int 1)) Ny .nil) Fd
noncomputable def NA:ISs:=.cons (.set 0 (.bin .FloorDiv (.var 0) (.bin .Pow (.int 10) (.int 8)))) .nil
noncomputable def NB:ISs:=.cons (.expr (.mt .append (.var 10) (.cons (.call 1 (.bin .Mod (.var 0) (.bin .Pow (.int 10) (.int 8))) (.cons (.var 5) (.cons (.var 6) (.cons (.var 3) (.cons (.bin .Add (.var 8) (.var 9)) .nil))))) .nil))) NA
noncomputable def NC:ISs:=.cons (.for_ (.nm 11) (.rng (.var 8)) NB) Nz
noncomputable def ND:ISs:=.cons (.set 10 (.lst .nil)) NC
noncomputable def NE:ISs:=.cons (.set 0 (.bin .FloorDiv (.var 0) (.int 112))) ND
noncomputable def NF:ISs:=.cons (.set 9 (.bi .int (.cmp .Lt (.bin .Mod (.bin .FloorDiv (.var 0) (.int 28)) (.int 4)) (.var 4)) .nil)) NE
noncomputable def NG:ISs:=.cons (.set 8 (.bin .Mod (.bin .FloorDiv (.var 0) (.int 4)) (.int 7))) NF
noncomputable def NH:ISs:=.cons (.set 7 (.lst (.cons (.tup (.cons (.ix (.var 6) (.int 0)) (.cons (.bin .Mod (.var 0) (.int 2)) .nil))) (.cons (.tup (.cons (.ix (.var 6) (.int 1)) (.cons (.bin .Mod (.bin .FloorDiv (.var 0) (.int 2)) (.int 2)) .nil))) .nil)))) NG
noncomputable def NI:ISs:=.cons (.set 6 (.lst (.cons (.call 0 (.var 2) (.cons (.int 9) .nil)) (.cons (.call 0 (.var 2) (.cons (.int 10) .nil)) .nil)))) NH
noncomputable def NJ:ISs:=.cons (.set 5 (.call 0 (.var 2) (.cons (.var 1) .nil))) NI
noncomputable abbrev Fe:ISs:=NJ
noncomputable def NK:GI:={bl:=GB,gl:=GL,fns:=["_law_name","_law_step"]}
theorem ZaD:chkSs NK (X2 U4) ["number","k","naming","ferries","around","name","names","pairs","many","ending","steps","j"] Fe (X5 U4)=true:=by decide+kernel
noncomputable def NL:ISs:=.cons (.ret (.tup (.cons (.var 4) (.cons (.var 12) (.cons (.var 6) .nil))))) .nil
noncomputable def NM:ISs:=.cons (.expr (.mt .append (.var 12) (.cons (.call 1 (.bin .Mod (.call 0 (.var 0) (.cons (.bin .Add (.int 6) (.var 7)) .nil)) (.bin .Pow (.int 10) (.int 60))) (.cons (.var 7) (.cons (.var 3) (.cons (.var 6) (.cons (.var 1) .nil))))) .nil))) .nil
noncomputable def NN:ISs:=.cons (.for_ (.nm 7) (.rng (.var 5)) NM) NL
noncomputable def NO:ISs:=.cons (.set 12 (.lst .nil)) NN
noncomputable def NP:ISs:=.cons (.expr (.mt .append (.var 6) (.cons (.tup (.cons (.call 2 (.var 3) (.cons (.bin .Add (.int 5) (.var 7)) .nil)) (.cons (.ix (.var 11) (.int 0)) (.cons (.ix (.var 11) (.int 1)) (.cons (.bin .Mod (.bin .FloorDiv (.var 8) (.int 20)) (.int 4)) (.cons (.bin .Add (.int 1) (.bin .Mod (.bin .FloorDiv (.var 8) (.int 80)) (.int 3))) .nil)))))) .nil))) .nil
noncomputable def NQ:ISs:=.cons (.set 11 (.tup (.cons (.call 2 (.var 3) (.cons (.var 9) .nil)) (.cons (.call 2 (.var 3) (.cons (.var 10) .nil)) .nil)))) NP
noncomputable def NR:ISs:=.cons (.set 10 (.bin .Mod (.bin .Add (.bin .Add (.var 9) (.int 1)) (.bin .Mod (.bin .FloorDiv (.var 8) (.int 5)) (.bin .Sub (.var 5) (.int 1)))) (.var 5))) NQ
noncomputable def NS:ISs:=.cons (.set 9 (.bin .Mod (.var 8) (.var 5))) NR
noncomputable def NT:ISs:=.cons (.set 8 (.bin .FloorDiv (.bin .Mod (.call 0 (.var 0) (.cons (.bin .Add (.int 2) (.bin .Mod (.var 7) (.int 4))) .nil)) (.bin .Pow (.int 10) (.int 15))) (.ix (.lst (.cons (.int 1) (.cons (.int 1000000) .nil))) (.bin .FloorDiv (.var 7) (.int 4))))) NS
noncomputable def NU:ISs:=.cons (.for_ (.nm 7) (.rng (.bi .min (.bin .Sub (.bin .Mult (.int 6) (.var 5)) (.int 6)) (.cons (.bin .Mod (.bin .FloorDiv (.var 2) (.int 2048)) (.int 7)) .nil))) NT) NO
noncomputable def NV:ISs:=.cons (.set 6 (.lst .nil)) NU
noncomputable def NW:ISs:=.cons (.set 5 (.bin .Add (.int 1) (.bin .Mod (.var 2) (.int 5)))) NV
noncomputable def NX:ISs:=.cons (.set 4 (.ix (.lst (.cons (.bin .Add (.int 1) (.bin .Mod (.bin .FloorDiv (.var 2) (.int 16)) (.int 64))) (.cons (.bin .Add (.int 1) (.bin .Mod (.bin .FloorDiv (.var 2) (.int 16)) (.int 5))) .nil))) (.bin .Mod (.bin .FloorDiv (.var 2) (.int 1024)) (.int 2)))) NW
noncomputable def NY:ISs:=.cons (.set 3 (.bin .Mod (.call 0 (.var 0) (.cons (.int 1) .nil)) (.bin .Pow (.int 10) (.int 9)))) NX
noncomputable def NZ:ISs:=.cons (.set 2 (.bin .Mod (.call 0 (.var 0) (.cons (.int 0) .nil)) (.bin .Pow (.int 10) (.int 9)))) NY
noncomputable abbrev Ff:ISs:=NZ
noncomputable def O0:GI:={bl:=GB,gl:=GL,fns:=["_law_cell_at","_law_island","_law_name"]}
theorem ZaC:chkSs O0 (X2 U5) ["script","around","head","naming","width","many","ferries","k","number","giver","taker","ends","islands"] Ff (X5 U5)=true:=by decide+kernel
noncomputable def O1:ISs:=.cons (.ret (.var 2)) .nil
noncomputable def O2:ISs:=.cons (.expr (.mt .append (.var 2) (.cons (.tup (.cons (.ix (.ix (.var 1) (.bin .Mod (.var 3) (.bi .len (.var 1) .nil))) (.int 0)) (.cons (.bin .Mod (.bin .FloorDiv (.var 3) (.bi .len (.var 1) .nil)) (.bin .Pow (.int 10) (.int 30))) .nil))) .nil))) .nil
noncomputable def O3:ISs:=.cons (.for_ (.nm 3) (.seq (.var 0)) O2) O1
noncomputable def O4:ISs:=.cons (.set 2 (.lst .nil)) O3
noncomputable abbrev Fg:ISs:=O4
noncomputable def O5:GI:={bl:=GB,gl:=GL,fns:=[]}
theorem ZbU:chkSs O5 (X2 U6) ["cells","islands","rings","cell"] Fg (X5 U6)=true:=by decide+kernel
noncomputable def O6:ISs:=.cons (.ret (.var 4)) .nil
noncomputable def O7:ISs:=.cons (.put (.var 4) (.var 8) (.bin .Add (.ix (.var 4) (.var 8)) (.int 1))) .nil
noncomputable def O8:ISs:=.cons (.for_ (.nm 8) (.seq (.var 7)) O7) .nil
noncomputable def O9:ISs:=.cons (.asg (.cons (.nm 3) (.cons (.nm 7) .nil)) (.call 1 (.var 0) (.cons (.var 3) .nil))) O8
noncomputable def Oa:ISs:=.cons (.for_ (.nm 6) (.rng (.var 2)) O9) O6
noncomputable def Ob:ISs:=.cons (.put (.var 4) (.ix (.var 5) (.int 0)) (.int 0)) .nil
noncomputable def Oc:ISs:=.cons (.for_ (.nm 5) (.seq (.var 1)) Ob) Oa
noncomputable def Od:ISs:=.cons (.set 4 .dic) Oc
noncomputable def Oe:ISs:=.cons (.set 3 (.call 0 (.var 0) .nil)) Od
noncomputable abbrev Fh:ISs:=Oe
noncomputable def Of:GI:={bl:=GB,gl:=GL,fns:=["first_stand","round_of"]}
theorem ZbT:chkSs Of (X2 U7) ["world","islands","rounds","stand","done","island","k","names","name"] Fh (X5 U7)=true:=by decide+kernel
noncomputable def Og:ISs:=.cons (.ret (.cmp .Eq (.comp ["name"] [0] (.seq (.var 0)) (.nm 0) (.some (.not (.call 0 (.ix (.var 1) (.var 0)) .nil))) (.var 0)) (.lst .nil))) .nil
noncomputable def ZdO:ISs:=.cons (.ret (.bl false)) .nil
noncomputable def Oh:ISs:=.cons (.ite (.or (.not (.bi .isinst (.var 0) (.cons (.ty .dict) .nil))) (.cmp .NotEq (.var 0) (.var 1))) ZdO .nil) Og
noncomputable abbrev Fi:ISs:=Oh
noncomputable def Oi:GI:={bl:=GB,gl:=GL,fns:=["_law_whole"]}
theorem Ze2:chkSs Oi (X2 U8) ["found","due"] Fi (X5 U8)=true:=by decide+kernel
noncomputable def Oj:ISs:=.cons (.ret (.call 0 (.ix (.var 9) (.int 1)) (.cons (.call 2 (.var 4) (.cons (.var 2) (.cons (.bi .len (.var 5) .nil) .nil))) .nil))) .nil
noncomputable def Ol:ISs:=.cons (.expr (.mt .dclear (.ix (.var 9) (.int 0)) .nil)) Oj
noncomputable def ZlB:ISs:=.cons (.ret (.bl false)) .nil
noncomputable def Om:ISs:=.cons (.ite (.not (.call 0 (.ix (.var 9) (.int 0)) (.cons (.var 10) .nil))) ZlB .nil) Ol
noncomputable def On:ISs:=.cons (.set 10 (.call 2 (.var 4) (.cons (.var 2) (.cons (.bin .FloorDiv (.call 6 (.var 4) (.cons (.bi .list (.var 5) .nil) .nil)) (.var 6)) .nil)))) Om
noncomputable def ZnT:ISs:=.cons (.ret (.bl false)) .nil
noncomputable def Oo:ISs:=.cons (.ite (.or (.not (.bi .isinst (.var 9) (.cons (.ty .tuple) .nil))) (.or (.cmp .NotEq (.bi .len (.var 9) .nil) (.int 2)) (.cmp .NotEq (.var 8) (.var 5)))) ZnT .nil) On
noncomputable def Op:ISs:=.cons (.set 9 (.call 4 (.var 4) (.cons (.var 8) .nil))) Oo
noncomputable def Oq:ISs:=.cons (.set 8 (.bi .list (.var 5) .nil)) Op
noncomputable def Os:ISs:=.cons (.set 6 (.bi .max (.var 6) (.cons (.bin .Add (.int 2) (.ix (.var 7) (.int 4))) .nil))) .nil
noncomputable def Ot:ISs:=.cons (.for_ (.nm 7) (.seq (.var 3)) Os) Oq
noncomputable def Ou:ISs:=.cons (.set 6 (.int 2)) Ot
noncomputable def Ov:ISs:=.cons (.set 5 (.comp ["ring"] [] (.seq (.call 1 (.sl (.var 0) (.some (.int 10)) (.some (.int 90))) (.cons (.var 2) .nil))) (.nm 0) .none (.ix (.var 0) (.int 0)))) Ou
noncomputable def Ow:ISs:=.cons (.set 4 (.call 5 (.var 1) (.cons (.bi .list (.var 2) .nil) (.cons (.bi .list (.var 3) .nil) .nil)))) Ov
noncomputable def Ox:ISs:=.cons (.asg (.cons (.nm 1) (.cons (.nm 2) (.cons (.nm 3) .nil))) (.call 3 (.var 0) (.cons (.int 3) .nil))) Ow
noncomputable abbrev Fj:ISs:=Ox
noncomputable def Oy:GI:={bl:=GB,gl:=GL,fns:=["_law_are","_law_rings","_law_steps","_law_things","bounds","made","stretches"]}
theorem Zo2:chkSs Oy (X2 YT) ["script","width","islands","ferries","world","names","late","ferry","handed","found","least"] Fj (X5 YT)=true:=by decide+kernel
theorem szl:sizeLine=16777216:=by decide
theorem na10:Int.natAbs 10=10:=rfl
theorem na1:Int.natAbs 1=1:=rfl
theorem na2:Int.natAbs 2=2:=rfl
theorem at0{α:Type}{x:α}{xs:List α}:atI (x::xs) 0=some x:=by unfold atI ixN;simp
theorem at1{α:Type}{x y:α}{xs:List α}:atI (x::y::xs) 1=some y:=Z9 (j:=1) (by rfl)
theorem at2{α:Type}{x y z:α}{xs:List α}:atI (x::y::z::xs) 2=some z:=Z9 (j:=2) (by rfl)
theorem at3{α:Type}{x y z u:α}{xs:List α}:atI (x::y::z::u::xs) 3=some u:=Z9 (j:=3) (by rfl)
theorem at4{α:Type}{x y z u v:α}{xs:List α}:atI (x::y::z::u::v::xs) 4=some v:=Z9 (j:=4) (by rfl)
theorem Zoh{a b:String}:(Ys a=Ys b)↔a=b:=by
 constructor
 ·intro h;rw[Str.ofString_eq_toList,Str.ofString_eq_toList]at h;have h1:a.toList.map BB=b.toList.map BB:=by
   have:=congrArg (λs:Str=>s.cps.toList) h
   simpa using this
  have inj:∀(xs ys:List Char),xs.map BB=ys.map BB->xs=ys:=by
   intro xs
   induction xs with
   |nil=>
    intro ys e;cases ys with
    |nil=>rfl
    |cons _ _=>cases e
   |cons x r ih=>
    intro ys e;cases ys with
    |nil=>cases e
    |cons y s=>
     rw[XC,XC]at e;injection e with e1 e2;rw[ih s e2,Char.toNat_inj.mp e1]
  exact String.toList_inj.mp (inj _ _ h1)
 ·intro h;rw[h]
theorem YC{c A B:Prop} [Decidable c] (h1:c->A)(h2:¬c->B):if c then A else B:=by
 split
 ·exact h1 ‹_›
 ·exact h2 ‹_›
theorem isN0:Zf .non=true:=rfl
theorem isN1{b:Bool}:Zf (.bl b)=false:=rfl
theorem isN2{b:Int}:Zf (.int b)=false:=rfl
theorem isN3{b:Str}:Zf (.str b)=false:=rfl
theorem isN4{b:List MV}:Zf (.tup b)=false:=rfl
theorem isN5{b:Addr}:Zf (.ref b)=false:=rfl
theorem isN6{b:List MV}:Zf (.frl b)=false:=rfl
theorem isB0{c:Bool}:isBl c .non=false:=rfl
theorem isB1{b c:Bool}:isBl c (.bl b)=decide (b=c):=rfl
theorem isB2{c:Bool}{b:Int}:isBl c (.int b)=false:=rfl
theorem isB3{c:Bool}{b:Str}:isBl c (.str b)=false:=rfl
theorem isB4{c:Bool}{b:List MV}:isBl c (.tup b)=false:=rfl
theorem isB5{c:Bool}{b:Addr}:isBl c (.ref b)=false:=rfl
local macro_rules | `(tactic| walk_at "s") => `(tactic| simp only [seval, szl, na10, na1, na2, Nat.zero_add, Nat.reduceAdd, Nat.zero_le, at0, at1, at2, at3, at4, Zoh, Xg, Zom, Zmp, Zmn, Zoq, Zop, Zko, Zok, Zmm, Zoj, Zor, Zol, Zmo, Zon, Zoo, v_s, b_0, f_s, ZpJ, ZpQ, ZpL, e_bl, ZpN, ZpS, e_ty, ZpW, ZpM, ZpU, ZpV, ZpX, e_or, ZpR, ZpK, ZpP, ZpT, e_ix, e_sl, ZnZ, e_bi, e_b2, ZpO, Zp9, e_mt, Zn6, ZkH, ZnY, ZlF, Zns, Znr, ZnV, ZnU, ZoJ, ZoI, ZoH, isN0, isN1, isN2, isN3, isN4, isN5, isN6, isTy, Zpo, ZoK, Zpa, ZmY, Zpb, ZoW, Zn2, ZmJ, q_lt, q_le, Zpc, q_gt, Zpk, Zp7, Zpi, Zp5, Zpl, Zp8, ZkC, isB0, isB1, isB2, isB3, isB4, isB5, ZmV, ZkB, ZoM, ZoC, ZoY, Zpj, Zp6, Zph, Zp4, q_in, Zp3, J4, J5, ZkA, Zkz, J7, Zpe, Zpd, ZmC, ZoQ, ZoO, ZoP, ZmO, ZmR, ZmP, ZmQ, Zkx, Zky, Zpf, ZmU, Zoz, ZoA, Zow, Zoy, Zov, Zox, Zmw, Zmx, ZmN, ZmL, Zku, Zkw, Zkv, Zmy, Zmz, ZmZ, ZkD, ZkE, Zpn, Zpm, Zn1, Zpg, ZmH, ZmG, ZmF, ZoU, ZmI, Zn0, ZoV, Zkt, ZoR, ZoN, ZmA, ZmB, ZoG, ZoF, ZoE, ZoD, Zp2, Zp1, Zp0, ZoZ, ZoL, ZoS, ZoT, ZmE, ZmD, ZoB, ZoX, ZmM, ZmK, ZmW, ZmX, Ag, CMul, CPow, List.getElem?_cons_zero, List.getElem?_cons_succ, Option.some.injEq,
  MV.int.injEq, MV.str.injEq, MV.bl.injEq, MV.tup.injEq, MV.frl.injEq, MV.ref.injEq, MV.ty.injEq, MO.lst.injEq, MO.dic.injEq, MO.ins.injEq, Prod.mk.injEq, exists_eq_left', exists_eq_left, exists_eq_right, exists_eq_right', exists_and_left, exists_eq, exists_const, true_and, and_true, false_and, and_false, true_or, or_true, false_or, or_false, reduceCtorEq, ne_eq, not_false_eq_true, not_true_eq_false,
  List.set_cons_zero, List.set_cons_succ, decide_eq_true_eq, Bool.not_eq_true', decide_eq_false_iff_not, if_true, if_false, Bool.false_eq_true, ite_true, ite_false, reduceIte, List.length_cons, List.length_nil, and_self, String.reduceEq, String.reduceNe, Int.reduceLT, Int.reduceLE, Int.reducePow, Int.reduceNeg, Int.reduceToNat, Int.reduceSub, Int.reduceAdd, Int.reduceMul, Nat.reduceLT, Nat.reducePow, Nat.reduceLeDiff])
theorem ZlE{α:Sort _}{p q:α->Prop}(h:∀a,p a->q a):(∃a,p a)->∃a,q a:=fun⟨a,x⟩=>⟨a,h a x⟩
theorem Zjf{a b c:Prop}(h:b->c):a/\b->a/\c:=λx=>⟨x.1,h x.2⟩
theorem ZhO{a b c d:Prop}(h:a->c)(g:b->d):a/\b->c/\d:=λx=>⟨h x.1,g x.2⟩
theorem ZkT{a b c d:Prop}(h:a->c)(g:b->d):a\/b->c\/d:=λx=>x.elim (λy=>.inl (h y)) λy=>.inr (g y)
theorem Zjh{α:Sort _}{p q:α->Prop}(h:∀a,p a->q a):(∀a,p a)->∀a,q a:=λx a=>h a (x a)
local macro_rules | `(tactic| walk_at "m") => `(tactic| (intro vs M Q Q' hq; repeat (first | exact hq _ _ | exact id | refine ZlE fun _ => ?_ | refine Zjf ?_ | refine ZhO ?_ ?_ | refine Zjh fun _ => ?_ | refine ZkT ?_ ?_)))
noncomputable def SameM(M M':MH):Prop:=∀a o,M a=some o->M' a=some o
theorem SameM.refl(M:MH):SameM M M:=λ_ _ h=>h
theorem SameM.trans{M M1 M2:MH}(a:SameM M M1)(b:SameM M1 M2):SameM M M2:=λc o h=>b c o (a c o h)
theorem neM{M:MH}{a p:Addr}{o:MO}(h:M a=some o)(hp:M p=none):a≠p:=by intro e;subst e;rw[h]at hp;cases hp
theorem SameM.new{M:MH}{p:Addr}(h:M p=none)(o:MO):SameM M (updM M p o):=λa u e=>by rw[Xp (neM e h)];exact e
theorem SameM.free{M M':MH}(s:SameM M M'){p:Addr}(h:M' p=none):M p=none:=by
 cases e:M p with
 |none=>rfl
 |some o=>rw[s _ _ e]at h;cases h
theorem SameM.upd{M M':MH}(s:SameM M M'){p:Addr}(h:M p=none)(o:MO):SameM M (updM M' p o):=λa u e=>by rw[Xp (neM e h)];exact s a u e
theorem Ww{lo:Int}{n i:Nat}{x:MV}(h:(Src.rng lo n).items[i]?=some x):i<n/\x=.int (lo+(i:Nat)):=by
 have hi:=(XE.mp h).1;rw[Src.items_len]at hi;refine⟨hi,?_⟩;have h':((XX n).map λi=>MV.int (lo+(i:Nat)))[i]?=some x:=h;rw[Xq,Xc (by simpa using(show i<n from hi))]at h'
 simpa using h'.symm
theorem Yl{α:Type}{f:α->MV}{xs:List α}{i:Nat}{x:MV}(h:(xs.map f)[i]?=some x):∃hi:i<xs.length,x=f xs[i]:=by
 have hi:=(XE.mp h).1;rw[X7]at hi;refine⟨hi,?_⟩;rw[Xq,Xc hi]at h;exact(Yq h).symm
theorem Z2{Φ:List (Str×SpM)}(hm:∀p∈Φ,MonW p.2):∀(j:Nat) f sp,Φ[j]?=some (f,sp)->MonW sp:=λj f sp h=>hm (f,sp) (XI h)
theorem Zfx(xs:List MV)(k:Nat):cutM xs (some (k:Int)) none=xs.drop k:=by
 unfold cutM;rw[HT.sIx_none,HT.sIx_nat];by_cases h:k≤xs.length
 ·rw[Nat.min_eq_left h,WU (by rw[WW];exact Xl _)]
 ·rw[Nat.min_eq_right (by lia),G0 (Xl _),G0 (by lia)]
  simp
theorem C2{κ:Type} [DecidableEq κ] (k:κ)(v:MV)(j:κ):∀kvs:List (κ×MV),valM (putM kvs k v) j=if j=k then some v else valM kvs j
 |[]=>by
  unfold putM valM;by_cases e:k=j
  ·rw[if_pos e,if_pos e.symm]
  ·rw[if_neg e,if_neg (λz=>e z.symm)]
   rfl
 |(i,u)::r=>by
  unfold putM;by_cases e:i=k
  ·rw[if_pos e];subst e;unfold valM;by_cases f:i=j
   ·rw[if_pos f,if_pos f.symm]
   ·rw[if_neg f,if_neg (λz=>f z.symm),if_neg f]
  ·rw[if_neg e];unfold valM;by_cases f:i=j
   ·rw[if_pos f,if_neg (λz=>e (f.trans z)),if_pos f]
   ·rw[if_neg f,C2 k v j r,if_neg f]
inductive Form where|plus|minus|times|less|same
noncomputable def Form.str:Form->Str
 |.plus=>"plus"|.minus=>"minus"|.times=>"times"|.less=>"less"|.same=>"same"
inductive Tm where
 |num (n:Int)|var (x:Str)|two (f:Form) (a b:Tm)|pick (c a b:Tm)
noncomputable def Tm.depth:Tm->Nat
 |.num _=>1|.var _=>1|.two _ a b=>1+max a.depth b.depth|.pick c a b=>1+max c.depth (max a.depth b.depth)
noncomputable def Tm.size:Tm->Nat
 |.num _=>1|.var _=>1|.two _ a b=>1+(a.size+b.size)|.pick c a b=>1+(c.size+(a.size+b.size))
noncomputable def Tm.reads:Tm->List Str
 |.num _=>[]|.var x=>[x]|.two _ a b=>a.reads++b.reads|.pick c a b=>c.reads++(a.reads++b.reads)
noncomputable def twoV(w:Nat)(l r:Int):Form->Int
 |.plus=>(l+r)%2^w
 |.minus=>(l - r)%2^w
 |.times=>(l*r)%2^w
 |.less=>if l<r then 1 else 0
 |.same=>if l=r then 1 else 0
noncomputable def Tm.val(ρ:Str->Int)(w:Nat):Tm->Int
 |.num n=>n%2^w
 |.var x=>ρ x
 |.two f a b=>twoV w (a.val ρ w) (b.val ρ w) f
 |.pick c a b=>if c.val ρ w≠0 then a.val ρ w else b.val ρ w
theorem C3(w:Nat):(0:Int)<2^w:=Int.pow_pos (by decide)
theorem Oz{w:Nat}(h:1≤w):(2:Int)≤2^w:=by
 obtain⟨k,rfl⟩:∃k,w=k+1:=⟨w - 1,by lia⟩
 rw[Int.pow_succ];have:=C3 k;lia
theorem Zn8{w:Nat}(h:w≤64):(2:Int)^w≤2^64:=by
 have:=Nat.pow_le_pow_right (n:=2) (by decide) h
 have e1:(2:Int)^w=((2^w:Nat):Int):=by rw[Int.natCast_pow];rfl
 have e2:(2:Int)^64=((2^64:Nat):Int):=by decide
 rw[e1,e2];exact Int.ofNat_le.mpr this
theorem C4(x:Int)(w:Nat):0≤x%2^w/\x%2^w<2^w:=⟨UZ _ (Int.ne_of_gt (C3 w)),UY _ (C3 w)⟩
theorem twoV_in{w:Nat}(hw:1≤w)(l r:Int)(f:Form):0≤twoV w l r f/\twoV w l r f<2^w:=by
 have:=Oz hw;cases f
 ·exact C4 _ _
 ·exact C4 _ _
 ·exact C4 _ _
 ·unfold twoV;split<;>lia
 ·unfold twoV;split<;>lia
theorem Tm.val_in{ρ:Str->Int}{w:Nat}(hw:1≤w):∀{T:Tm},(∀x∈T.reads,0≤ρ x/\ρ x<2^w)->0≤T.val ρ w/\T.val ρ w<2^w
 |.num n,_=>C4 _ _
 |.var x,h=>h x (by simp[Tm.reads])
 |.two f a b,_=>twoV_in hw _ _ f
 |.pick c a b,h=>by
  unfold Tm.val;split
  ·exact a.val_in hw λx hx=>h x (by simp[Tm.reads,hx])
  ·exact b.val_in hw λx hx=>h x (by simp[Tm.reads,hx])
theorem Tm.depth_pos:∀T:Tm,1≤T.depth
 |.num _=>Xl _
 |.var _=>Xl _
 |.two _ _ _=>Nat.le_add_right _ _
 |.pick _ _ _=>Nat.le_add_right _ _
noncomputable def Tm.mv:Tm->MV
 |.num n=>.tup [.str "num",.int n]
 |.var x=>.tup [.str "var",.str x]
 |.two f a b=>.tup [.str f.str,a.mv,b.mv]
 |.pick c a b=>.tup [.str "pick",c.mv,a.mv,b.mv]
theorem OA(f:Form):¬f.str="num":=by cases f<;>decide+kernel
theorem Fk(f:Form):¬f.str="var":=by cases f<;>decide+kernel
theorem Zhm(f:Form):¬f.str="pick":=by cases f<;>decide+kernel
inductive Stp where
 |take (f x:Str)|give (f:Str) (T:Tm)|put (x:Str) (T:Tm)|jump (T:Tm) (i:Int)
noncomputable def Stp.mv:Stp->MV
 |.take f x=>.tup [.str "take",.str f,.str x]
 |.give f T=>.tup [.str "give",.str f,T.mv]
 |.put x T=>.tup [.str "put",.str x,T.mv]
 |.jump T i=>.tup [.str "jump",T.mv,.int i]
noncomputable def tmOk(ns:List Str)(T:Tm):Prop:=T.depth≤8/\T.size≤30/\∀x∈T.reads,x∈ns
noncomputable def Stp.ok(ns:List Str)(n:Nat):Stp->Prop
 |.take _ x=>x∈ns
 |.give _ T=>tmOk ns T
 |.put x T=>x∈ns/\tmOk ns T
 |.jump T i=>tmOk ns T/\0≤i/\i≤n
noncomputable def C5(M:MH)(x:MV)(xs:List MV):Prop:=x=.tup xs\/∃a,x=.ref a/\M a=some (.lst xs)
noncomputable def readsOk(ns:List Str)(kvs:List (Key×MV))(ρ:Str->Int)(w:Nat):Prop:=∀x∈ns,valM kvs (Xv x)=some (.int (ρ x))/\0≤ρ x/\ρ x<2^w
theorem readsOk.tm{ns:List Str}{kvs:List (Key×MV)}{ρ:Str->Int}{w:Nat}(h:readsOk ns kvs ρ w){T:Tm}(o:tmOk ns T):∀x∈T.reads,valM kvs (Xv x)=some (.int (ρ x))/\0≤ρ x/\ρ x<2^w:=λx hx=>h x (o.2.2 x hx)
section
variable{P:Xn}{w:Xj}{K:X6}{mg:Str->Option X0}{base:Heap}{t:Adr}
noncomputable abbrev Vh:SpM:=λvs M Q=>∃k:Nat,vs=[.int k]/\k≤64/\Q (.int (2^k)) M
theorem Fl:MonW Vh:=by walk_at "m"
theorem Fm(T:Txt K mg t):FnOk P w K mg base CX0 1 t.f_two_to t.d_two_to ["exponent"] (liSp K Vh):=by
 refine T.F_two_to.okM Zgc (Xw (Φ:=[]) (Xx T) (Xy T) rfl nl0 nl0:Fts P w K mg base 0 Jj []) E8 Zhw (λvs M Q h=>?_) (λvs M Q h=>?_)
 ·obtain⟨k,rfl,_⟩:=h;rfl
 obtain⟨k,rfl,hk,q⟩:=h;show wSs _ _ _ [some (.int k),none,none] M;rw[E8,Ji];walk_at "s";rw[Jh];walk_at "s";refine⟨by lia,by lia,λi σ M'=>M'=M/\∃v,σ=[some (.int k),some (.int (2^i)),v],⟨rfl,_,rfl⟩,λ_ _ _ _=>trivial,?_,?_⟩
 ·rintro i x σ M' hx ⟨rfl,v,rfl⟩;obtain⟨hi,rfl⟩:=Ww hx;rw[Jg];walk_at "s";exact⟨_,by rw[Int.pow_succ]⟩
 ·rintro σ M' ⟨rfl,v,rfl⟩;rw[Jf];walk_at "s";exact q
noncomputable abbrev Wx:SpM:=λvs M Q=>∃(w:Nat) (n:Int),vs=[.int w,.int n]/\w≤64/\Q (.int (n%2^w)) M
theorem OB:MonW Wx:=by walk_at "m"
theorem OC(T:Txt K mg t):FnOk P w K mg base CX0 2 t.f_cut t.d_cut ["width","number"] (liSp K Wx):=by
 refine T.F_cut.okM Zml (Xw (Φ:=[("two_to",Vh)]) (Xx T) (Xy T) rfl (fMc ⟨Fl,nl0⟩) (fMc ⟨⟨_,_,_,(FnOk.mono (Fm T) (by decide)),T.m_two_to,T.F_two_to.kp,T.b_two_to⟩,nl0⟩):Fts P w K mg base 1 Jo [("two_to",Vh)]) Ea Zo3 (fun vs M Q h=>?_) (fun vs M Q h=>?_)
 ·obtain⟨k,n,rfl,_⟩:=h;rfl
 obtain⟨w,n,rfl,hw,q⟩:=h;show wSs _ _ _ [some (.int w),some (.int n)] M;rw[Ea,Jn];walk_at "s";exact⟨w,rfl,hw,C3 w,q⟩
noncomputable abbrev C6:SpM:=λvs M Q=>∃(f:Form) (l r:Int) (w:Nat),vs=[.str f.str,.int l,.int r,.int w]/\w≤64/\(-(2^64)<l/\l<2^64)/\Q (.int (twoV w l r f)) M
theorem Z6p:MonW C6:=by walk_at "m"
theorem Z9d(T:Txt K mg t):FnOk P w K mg base CX0 3 t.f_worth_of_two t.d_worth_of_two ["form","left","right","width"] (liSp K C6):=by
 refine T.F_worth_of_two.okM Z94 (Xw (Φ:=[("cut",Wx)]) (Xx T) (Xy T) rfl (fMc ⟨OB,nl0⟩) (fMc ⟨⟨_,_,_,(FnOk.mono (OC T) (by decide)),T.m_cut,T.F_cut.kp,T.b_cut⟩,nl0⟩):Fts P w K mg base 2 JN [("cut",Wx)]) Ej Z9U (fun vs M Q h=>?_) (fun vs M Q h=>?_)
 ·obtain⟨f,l,r,w,rfl,_⟩:=h;rfl
 obtain⟨f,l,r,w,rfl,hw,hl,q⟩:=h;show wSs _ _ _ [some (.str f.str),some (.int l),some (.int r),some (.int w)] M;rw[Ej,JM];walk_at "s";cases f with
 |plus=>
  rw[if_pos (by rfl),JL]
  walk_at "s";exact⟨w,_,rfl,hw,q⟩
 |minus=>
  rw[if_neg (by decide+kernel),Ay]
  walk_at "s";rw[if_pos (by rfl),JK]
  walk_at "s";exact⟨w,_,rfl,hw,q⟩
 |times=>
  rw[if_neg (by decide+kernel),Ay]
  walk_at "s";rw[if_neg (by decide+kernel),BY]
  walk_at "s";rw[if_pos (by rfl),JJ]
  walk_at "s";exact⟨.inl hl,w,_,rfl,hw,q⟩
 |less=>
  rw[if_neg (by decide+kernel),Ay]
  walk_at "s";rw[if_neg (by decide+kernel),BY]
  walk_at "s";rw[if_neg (by decide+kernel),Ei]
  walk_at "s";rw[if_pos (by rfl),JI]
  walk_at "s";unfold twoV at q;split<;>simp_all
 |same=>
  rw[if_neg (by decide+kernel),Ay]
  walk_at "s";rw[if_neg (by decide+kernel),BY]
  walk_at "s";rw[if_neg (by decide+kernel),Ei]
  walk_at "s";rw[if_neg (by decide+kernel),JH]
  walk_at "s";unfold twoV at q;split<;>simp_all
noncomputable abbrev U9(n:Nat):SpM:=λvs M Q=>∃(T:Tm) (w:Nat) (d:Addr) (kvs:List (Key×MV)) (ρ:Str->Int),vs=[T.mv,.int w,.ref d]/\T.depth≤n/\1≤w/\w≤64/\M d=some (.dic kvs)/\
 (∀x∈T.reads,valM kvs (Xv x)=some (.int (ρ x))/\0≤ρ x/\ρ x<2^w)/\Q (.int (T.val ρ w)) M
theorem C7(n:Nat):MonW (U9 n):=by walk_at "m"
theorem C8(T:Txt K mg t):∀n:Nat,FnOk P w K mg base CX0 (n+3) t.f_worth t.d_worth ["T","width","words"] (liSp K (U9 n))
 |0=>by
  have no:∀vs M Q,¬U9 0 vs M Q:=λvs M Q h=>by
   obtain⟨T,w,d,kvs,ρ,_,h0,_⟩:=h;have:=T.depth_pos;lia
  exact⟨λvs H Q E ⟨ms,M,r,rh,h⟩=>absurd h (no _ _ _),λA outer s H args us vs Q E _ _ _ _ ⟨ms,M,r,rh,h⟩=>absurd h (no _ _ _)⟩
 |n+1=>by
  have ih:=C8 T n;refine T.F_worth.okM Zia (Xw (Φ:=[("cut",Wx),("worth",(U9 n)),("worth_of_two",C6)]) (Xx T) (Xy T) rfl (fMc ⟨OB,(fMc ⟨(C7 _),(fMc ⟨Z6p,nl0⟩)⟩)⟩) (fMc ⟨⟨_,_,_,FnOk.mono (OC T) (by lia),T.m_cut,T.F_cut.kp,T.b_cut⟩,(fMc ⟨⟨_,_,_,ih,T.m_worth,T.F_worth.kp,T.b_worth⟩,(fMc ⟨⟨_,_,_,FnOk.mono (Z9d T) (by lia),T.m_worth_of_two,T.F_worth_of_two.kp,T.b_worth_of_two⟩,nl0⟩)⟩)⟩):Fts P w K mg base (n+3) JT [("cut",Wx),("worth",(U9 n)),("worth_of_two",C6)]) Em ZiZ (fun vs M Q h=>?_) (fun vs M Q h=>?_)
  ·obtain⟨T,w,d,kvs,ρ,rfl,_⟩:=h;rfl
  obtain⟨U,w,d,kvs,ρ,rfl,hn,hw1,hw,hd,hr,q⟩:=h;show wSs _ _ _ [some U.mv,some (.int w),some (.ref d),none] M;have p64:=Zn8 hw;rw[Em,JS];cases U with
  |num m=>
   simp only[Tm.mv];walk_at "s";rw[JR];walk_at "s";exact⟨w,m,rfl,hw,q⟩
  |var x=>
   have hv:=(hr x (by simp[Tm.reads])).1
   simp only[Tm.mv];walk_at "s";rw[BZ];walk_at "s";rw[JQ];walk_at "s";simp only[hd];walk_at "s";exact⟨_,hv,q⟩
  |two f l r=>
   have hdl:l.depth≤n:=by unfold Tm.depth at hn;lia
   have hdr:r.depth≤n:=by unfold Tm.depth at hn;lia
   have hrl:∀x∈l.reads,valM kvs (Xv x)=some (.int (ρ x))/\0≤ρ x/\ρ x<2^w:=λx hx=>hr x (by simp[Tm.reads,hx])
   have hrr:∀x∈r.reads,valM kvs (Xv x)=some (.int (ρ x))/\0≤ρ x/\ρ x<2^w:=λx hx=>hr x (by simp[Tm.reads,hx])
   have inl:=l.val_in hw1 λx hx=>(hrl x hx).2;simp only[Tm.mv];walk_at "s";rw[if_neg (OA f),BZ];walk_at "s";rw[if_neg (Fk f),El];walk_at "s";refine⟨l,w,d,kvs,ρ,rfl,hdl,hw1,hw,hd,hrl,?_⟩;rw[Ek];walk_at "s";rw[if_neg (Zhm f),JO];walk_at "s";exact⟨r,w,d,kvs,ρ,rfl,hdr,hw1,hw,hd,hrr,f,_,_,w,rfl,hw,⟨by lia,by lia⟩,q⟩
  |pick c l r=>
   have hdc:c.depth≤n:=by unfold Tm.depth at hn;lia
   have hdl:l.depth≤n:=by unfold Tm.depth at hn;lia
   have hdr:r.depth≤n:=by unfold Tm.depth at hn;lia
   have hrc:∀x∈c.reads,valM kvs (Xv x)=some (.int (ρ x))/\0≤ρ x/\ρ x<2^w:=λx hx=>hr x (by simp[Tm.reads,hx])
   have hrl:∀x∈l.reads,valM kvs (Xv x)=some (.int (ρ x))/\0≤ρ x/\ρ x<2^w:=λx hx=>hr x (by simp[Tm.reads,hx])
   have hrr:∀x∈r.reads,valM kvs (Xv x)=some (.int (ρ x))/\0≤ρ x/\ρ x<2^w:=λx hx=>hr x (by simp[Tm.reads,hx])
   simp only[Tm.mv];walk_at "s";rw[BZ];walk_at "s";rw[El];walk_at "s";refine⟨c,w,d,kvs,ρ,rfl,hdc,hw1,hw,hd,hrc,?_⟩;rw[Ek];walk_at "s";rw[JP];walk_at "s";refine YC (λh0=>?_) (λh0=>?_)
   ·have e:Tm.val ρ w (.pick c l r)=l.val ρ w:=if_pos h0;rw[e]at q;exact⟨l,w,d,kvs,ρ,rfl,hdl,hw1,hw,hd,hrl,q⟩
   ·have e:Tm.val ρ w (.pick c l r)=r.val ρ w:=if_neg h0;rw[e]at q;exact⟨r,w,d,kvs,ρ,rfl,hdr,hw1,hw,hd,hrr,q⟩
noncomputable def dueM(ss:List Stp)(ρ:Str->Int)(w:Nat)(i:Nat):MV:=match ss[i]? with
 |none=>.non
 |some (.take f _)=>.tup [.str "take",.str f]
 |some (.give f T)=>.tup [.str "give",.str f,.int (T.val ρ w)]
 |some _=>.tup [.str "own"]
noncomputable abbrev C9:SpM:=λvs M Q=>∃(x:MV) (pw:Addr) (ss:List Stp) (i w:Nat) (kvs:List (Key×MV)) (ρ:Str->Int) (ns:List Str),vs=[.int w,x,.int i,.ref pw]/\C5 M x (ss.map Stp.mv)/\(∀s∈ss,s.ok ns ss.length)/\i≤ss.length/\1≤w/\w≤64/\M pw=some (.dic kvs)/\readsOk ns kvs ρ w/\
 Q (dueM ss ρ w i) M
theorem Zdv:MonW C9:=by walk_at "m"
theorem ZkX(T:Txt K mg t):FnOk P w K mg base CX0 50 t.f_wish t.d_wish ["width","steps","number","words"] (liSp K C9):=by
 refine T.F_wish.okM Zkl (Xw (Φ:=[("worth",(U9 40))]) (Xx T) (Xy T) rfl (fMc ⟨(C7 _),nl0⟩) (fMc ⟨⟨_,_,_,FnOk.mono (C8 T 40) (by decide),T.m_worth,T.F_worth.kp,T.b_worth⟩,nl0⟩):Fts P w K mg base 49 JX [("worth",(U9 40))]) Es ZlL (fun vs M Q h=>?_) (fun vs M Q h=>?_)
 ·obtain⟨_,_,_,_,_,_,_,_,rfl,_⟩:=h;rfl
 obtain⟨x,pw,ss,i,w,kvs,ρ,ns,rfl,hx,hss,hi,hw1,hw2,hpw,hr,q⟩:=h;show wSs _ _ _ [some (.int w),some x,some (.int i),some (.ref pw),none] M;rw[Es,JW];have len:∀R:Prop,R->R:=λ_ h=>h;have rest:∀hi':i<ss.length,wSs [("worth",U9 40)] Eo {nx:=fun x M'=>Q MV.non M',rt:=Q} [some (.int w),some x,some (.int i),some (.ref pw),some ss[i].mv] M:=by
  intro hi';have ok:=hss ss[i] (XV _);have ed:dueM ss ρ w i=dueM [ss[i]] ρ w 0:=by unfold dueM;rw[Xc hi'];rfl
  rw[ed]at q;obtain⟨s,hs⟩:∃s,ss[i]=s:=⟨_,rfl⟩;rw[hs]at ok q;rw[hs,Eo];cases s with
  |take f x=>
   simp only[Stp.mv];walk_at "s";rw[JV];walk_at "s";exact q
  |give f U=>
   simp only[Stp.mv];walk_at "s";rw[C0];walk_at "s";rw[JU];walk_at "s";exact⟨U,w,pw,kvs,ρ,rfl,Y3 ok.1 (by decide),hw1,hw2,hpw,hr.tm ok,q⟩
  |put x U=>
   simp only[Stp.mv];walk_at "s";rw[C0];walk_at "s";rw[En];walk_at "s";exact q
  |jump U j=>
   simp only[Stp.mv];walk_at "s";rw[C0];walk_at "s";rw[En];walk_at "s";exact q
 have eN:¬i<ss.length->dueM ss ρ w i=.non:=λc=>by unfold dueM;rw[CM.mpr (by lia)]
 rcases hx with rfl|⟨ps,rfl,hps⟩
 ·walk_at "s";rw[X7];refine YC (λc=>?_) (λc=>?_)
  ·rw[Er];walk_at "s";rw[<- eN (by lia)]
   exact q
  have hi':i<ss.length:=by lia
  rw[Ep];walk_at "s";exact⟨_,Z9 (by rw[Xq,Xc hi'];rfl),rest hi'⟩
 ·repeat (first|walk_at "s"|simp only[hps])
  rw[X7];refine YC (λc=>?_) (λc=>?_)
  ·rw[Er];walk_at "s";rw[<- eN (by lia)]
   exact q
  have hi':i<ss.length:=by lia
  rw[Ep]
  repeat (first|walk_at "s"|simp only[hps])
  exact⟨_,Z9 (by rw[Xq,Xc hi'];rfl),rest hi'⟩
noncomputable def Yi(s:Stp)(ρ:Str->Int)(w i:Nat):Int:=match s with
 |.jump T j=>if T.val ρ w≠0 then j else(i:Int)+1
 |_=>(i:Int)+1
noncomputable def V3(s:Stp)(kvs:List (Key×MV))(ρ:Str->Int)(w:Nat)(wd:MV):List (Key×MV):=match s with
 |.take _ x=>putM kvs (Xv x) wd
 |.put x T=>putM kvs (Xv x) (.int (T.val ρ w))
 |_=>kvs
noncomputable abbrev Ca:SpM:=λvs M Q=>∃(x:MV) (pw:Addr) (ss:List Stp) (i w:Nat) (kvs:List (Key×MV)) (ρ:Str->Int) (ns:List Str) (s:Stp),vs=[.int w,x,.int i,.ref pw]/\C5 M x (ss.map Stp.mv)/\ss[i]?=some s/\s.ok ns ss.length/\1≤w/\w≤64/\M pw=some (.dic kvs)/\readsOk ns kvs ρ w/\
 Q (.int (Yi s ρ w i)) M
theorem Z6r:MonW Ca:=by walk_at "m"
theorem OD{M:MH}{x:MV}{ss:List Stp}{i:Nat}{s:Stp}{Q:QM}(hx:C5 M x (ss.map Stp.mv))(hs:ss[i]?=some s) (q:Q s.mv M):wIx x (.int i) M Q:=by
 have hat:atI (ss.map Stp.mv) (i:Int)=some s.mv:=Z9 (by rw[Xq,hs];rfl)
 rcases hx with rfl|⟨a,rfl,h⟩
 ·rw[J7];exact⟨_,hat,q⟩
 ·rw[J4,h,J5];exact⟨_,hat,q⟩
theorem Z9i(T:Txt K mg t):FnOk P w K mg base CX0 50 t.f_number_after t.d_number_after ["width","steps","number","words"] (liSp K Ca):=by
 refine T.F_number_after.okM Z98 (Xw (Φ:=[("worth",(U9 40))]) (Xx T) (Xy T) rfl (fMc ⟨(C7 _),nl0⟩) (fMc ⟨⟨_,_,_,FnOk.mono (C8 T 40) (by decide),T.m_worth,T.F_worth.kp,T.b_worth⟩,nl0⟩):Fts P w K mg base 49 K1 [("worth",(U9 40))]) Et Z9Y (fun vs M Q h=>?_) (fun vs M Q h=>?_)
 ·obtain⟨_,_,_,_,_,_,_,_,_,rfl,_⟩:=h;rfl
 obtain⟨x,pw,ss,i,w,kvs,ρ,ns,s,rfl,hx,hs,ok,hw1,hw2,hpw,hr,q⟩:=h;show wSs _ _ _ [some (.int w),some x,some (.int i),some (.ref pw),none] M;rw[Et,K0];walk_at "s";refine OD hx hs ?_;rw[JZ];cases s with
 |take f x=>
  simp only[Stp.mv];walk_at "s";rw[Az];walk_at "s";exact q
 |give f U=>
  simp only[Stp.mv];walk_at "s";rw[Az];walk_at "s";exact q
 |put x U=>
  simp only[Stp.mv];walk_at "s";rw[Az];walk_at "s";exact q
 |jump U j=>
  simp only[Stp.mv];walk_at "s";refine⟨U,w,pw,kvs,ρ,rfl,Y3 ok.1.1 (by decide),hw1,hw2,hpw,hr.tm ok.1,?_⟩
  walk_at "s";refine YC (λc=>?_) (λc=>?_)
  ·have e:Yi (.jump U j) ρ w i=j:=if_pos c;rw[e]at q;rw[JY];walk_at "s";exact q
  ·have e:Yi (.jump U j) ρ w i=(i:Int)+1:=if_neg c;rw[e]at q;rw[Az];walk_at "s";exact q
noncomputable abbrev Cb:SpM:=λvs M Q=>∃(pw:Addr) (w:Nat) (kvs:List (Key×MV)) (ρ:Str->Int) (ns:List Str) (s:Stp) (k:Nat) (wd:MV),vs=[.int w,s.mv,.ref pw,wd]/\s.ok ns k/\1≤w/\w≤64/\M pw=some (.dic kvs)/\kvs.length≤1000/\readsOk ns kvs ρ w/\
 ∀p,M p=none->Q (.ref p) (updM M p (.dic (V3 s kvs ρ w wd)))
theorem Z6P:MonW Cb:=by walk_at "m"
theorem Zag(T:Txt K mg t):FnOk P w K mg base CX0 50 t.f_words_after t.d_words_after ["width","step","words","word"] (liSp K Cb):=by
 refine T.F_words_after.okM Za9 (Xw (Φ:=[("worth",(U9 40))]) (Xx T) (Xy T) rfl (fMc ⟨(C7 _),nl0⟩) (fMc ⟨⟨_,_,_,FnOk.mono (C8 T 40) (by decide),T.m_worth,T.F_worth.kp,T.b_worth⟩,nl0⟩):Fts P w K mg base 49 K6 [("worth",(U9 40))]) Eu Zax (fun vs M Q h=>?_) (fun vs M Q h=>?_)
 ·obtain⟨_,_,_,_,_,_,_,_,rfl,_⟩:=h;rfl
 obtain⟨pw,w,kvs,ρ,ns,s,k,wd,rfl,ok,hw1,hw2,hpw,hkl,hr,q⟩:=h;show wSs _ _ _ [some (.int w),some s.mv,some (.ref pw),some wd,none] M;rw[Eu,K5]
 repeat (first|walk_at "s"|simp only[hpw])
 intro p hp;have hpw2:=SameM.new hp (.dic kvs) _ _ hpw;have hp2:updM M p (.dic kvs) p=some (.dic kvs):=Xg;have q:=q p hp;rw[K4];cases s with
 |take f x=>
  simp only[Stp.mv];walk_at "s";rw[K3];walk_at "s";refine⟨by lia,?_⟩
  rw[BO,AB];walk_at "s";rw[AA];walk_at "s";exact q
 |give f U=>
  simp only[Stp.mv];walk_at "s";rw[AB];walk_at "s";rw[AA];walk_at "s";exact q
 |put x U=>
  simp only[Stp.mv];walk_at "s";rw[AB];walk_at "s";rw[K2];walk_at "s";refine⟨U,w,pw,kvs,ρ,rfl,Y3 ok.2.1 (by decide),hw1,hw2,hpw2,hr.tm ok.2,?_⟩
  walk_at "s";refine⟨by lia,?_⟩
  rw[BO,AA];walk_at "s";exact q
 |jump U j=>
  simp only[Stp.mv];walk_at "s";rw[AB];walk_at "s";rw[AA];walk_at "s";exact q
noncomputable abbrev AE:SpM:=λvs M Q=>∃(x:MV) (pw:Addr) (ss:List Stp) (i w:Nat) (kvs:List (Key×MV)) (ρ:Str->Int) (ns:List Str) (s:Stp) (wd:MV),vs=[.int w,x,.int i,.ref pw,wd]/\C5 M x (ss.map Stp.mv)/\ss[i]?=some s/\s.ok ns ss.length/\1≤w/\w≤64/\M pw=some (.dic kvs)/\kvs.length≤1000/\readsOk ns kvs ρ w/\
 ∀p,M p=none->Q (.tup [.int (Yi s ρ w i),.ref p]) (updM M p (.dic (V3 s kvs ρ w wd)))
theorem Zcn:MonW AE:=by walk_at "m"
theorem Ziw(T:Txt K mg t):FnOk P w K mg base CX0 51 t.f_after t.d_after ["width","steps","number","words","word"] (liSp K AE):=by
 refine T.F_after.okM Zic (Xw (Φ:=[("number_after",Ca),("words_after",Cb)]) (Xx T) (Xy T) rfl (fMc ⟨Z6r,(fMc ⟨Z6P,nl0⟩)⟩) (fMc ⟨⟨_,_,_,FnOk.mono (Z9i T) (by decide),T.m_number_after,T.F_number_after.kp,T.b_number_after⟩,(fMc ⟨⟨_,_,_,FnOk.mono (Zag T) (by decide),T.m_words_after,T.F_words_after.kp,T.b_words_after⟩,nl0⟩)⟩):Fts P w K mg base 50 K8 [("number_after",Ca),("words_after",Cb)]) Ev Zj1 (fun vs M Q h=>?_) (fun vs M Q h=>?_)
 ·obtain⟨_,_,_,_,_,_,_,_,_,_,rfl,_⟩:=h;rfl
 obtain⟨x,pw,ss,i,w,kvs,ρ,ns,s,wd,rfl,hx,hs,ok,hw1,hw2,hpw,hkl,hr,q⟩:=h;show wSs _ _ _ [some (.int w),some x,some (.int i),some (.ref pw),some wd] M;rw[Ev,K7];walk_at "s";refine⟨x,pw,ss,i,w,kvs,ρ,ns,s,rfl,hx,hs,ok,hw1,hw2,hpw,hr,?_⟩;refine OD hx hs ?_;refine⟨pw,w,kvs,ρ,ns,s,_,wd,rfl,ok,hw1,hw2,hpw,hkl,hr,λp hp=>?_⟩;exact q p hp
noncomputable def szs(ts:List Tm):Nat:=(ts.map Tm.size).sum
theorem OE(a b:List Tm):szs (a++b)=szs a+szs b:=by unfold szs;rw[Y6,List.sum_append]
theorem Zkh(a:Tm):szs [a]=a.size:=by simp[szs]
theorem OF{T:Tm}:∀{ts:List Tm},T∈ts->T.size≤szs ts
 |U::ts,h=>by
  have e:szs (U::ts)=U.size+szs ts:=by simp[szs]
  rcases Xt.mp h with z|z
  ·subst z;lia
  ·have:=OF z;lia
noncomputable def Tm.kids:Tm->List Tm
 |.num _=>[]
 |.var _=>[]
 |.two _ a b=>[a,b]
 |.pick c a b=>[c,a,b]
theorem Tm.size_kids:∀T:Tm,T.size=1+szs T.kids
 |.num _=>rfl
 |.var _=>rfl
 |.two _ a b=>by simp[Tm.size,Tm.kids,szs]
 |.pick c a b=>by simp[Tm.size,Tm.kids,szs]
noncomputable def mxd(ts:List Tm):Nat:=ts.foldl (λa T=>max a T.depth) 0
theorem Zl4(ts:List Tm)(T:Tm):mxd (ts++[T])=max (mxd ts) T.depth:=by unfold mxd;rw[W5];rfl
theorem Tm.depth_kids:∀T:Tm,T.depth=mxd T.kids+1
 |.num _=>rfl
 |.var _=>rfl
 |.two _ a b=>by simp[Tm.depth,Tm.kids,mxd];lia
 |.pick c a b=>by simp[Tm.depth,Tm.kids,mxd];lia
theorem Tm.kid_depth{T U:Tm}(h:U∈T.kids):U.depth<T.depth:=by
 cases T<;>simp[Tm.kids]at h
 ·rcases h with rfl|rfl<;>(simp only[Tm.depth];lia)
 ·rcases h with rfl|rfl|rfl<;>(simp only[Tm.depth];lia)
theorem Tm.kid_size{T U:Tm}(h:U∈T.kids):U.size<T.size:=by
 rw[T.size_kids];have:=OF h;lia
noncomputable def rds(ts:List Tm):List Str:=(ts.map Tm.reads).flatten
theorem Zkp(ts:List Tm)(T:Tm):rds (ts++[T])=rds ts++T.reads:=by simp[rds]
theorem Tm.reads_kids:∀T:Tm,(∀x,T≠.var x)->T.reads=rds T.kids
 |.num _,_=>rfl
 |.var x,h=>absurd rfl (h x)
 |.two _ a b,_=>by simp[Tm.reads,Tm.kids,rds]
 |.pick c a b,_=>by simp[Tm.reads,Tm.kids,rds]
theorem Tm.reads_len:∀T:Tm,T.reads.length≤T.size
 |.num _=>by simp[Tm.reads]
 |.var _=>by simp[Tm.reads,Tm.size]
 |.two _ a b=>by
  have:=a.reads_len;have:=b.reads_len;simp[Tm.reads,Tm.size];lia
 |.pick c a b=>by
  have:=a.reads_len;have:=b.reads_len;have:=c.reads_len;simp[Tm.reads,Tm.size];lia
theorem OG:∀ts:List Tm,(rds ts).length≤szs ts
 |[]=>Xl _
 |T::ts=>by
  have:=OG ts;have:=T.reads_len;have e:szs (T::ts)=T.size+szs ts:=by simp[szs]
  have e2:rds (T::ts)=T.reads++rds ts:=by simp[rds]
  rw[e,e2,YY];lia
theorem Zi3(ts:List Tm)(i:Nat):szs (ts.take i)≤szs ts:=by
 have e1:=OE (ts.take i) (ts.drop i);rw[List.take_append_drop]at e1;lia
theorem OH(x:MV)(xs:List MV):cutM (x::xs) (some 1) none=xs:=by
 have:=Zfx (x::xs) 1
 simpa using this
theorem OI{n:Nat}{p:Prop}:¬(HT.sIx (n+2) 0 (some 1)=0/\p):=by
 rintro⟨z,_⟩;rw[show(some (1:Int))=some ((1:Nat):Int)from rfl,HT.sIx_nat]at z;lia
noncomputable abbrev VJ:SpM:=λvs M Q=>∃T:Tm,vs=[T.mv]/\∀p,M p=none->Q (.ref p) (updM M p (.lst (T.kids.map Tm.mv)))
theorem OJ:MonW VJ:=by walk_at "m"
theorem OK(T:Txt K mg t):FnOk P w K mg base CX0 1 t.f_parts_within t.d_parts_within ["T"] (liSp K VJ):=by
 refine T.F_parts_within.okM Z97 (Xw (Φ:=[]) (Xx T) (Xy T) rfl nl0 nl0:Fts P w K mg base 0 Jq []) Ed Z9X (λvs M Q h=>?_) (λvs M Q h=>?_)
 ·obtain⟨T,rfl,_⟩:=h;rfl
 obtain⟨U,rfl,q⟩:=h;show wSs _ _ _ [some U.mv] M;rw[Ed,Jp];cases U with
 |num m=>
  simp only[Tm.mv];walk_at "s";rw[Ec];walk_at "s";exact q
 |var x=>
  simp only[Tm.mv];walk_at "s";rw[Ec];walk_at "s";exact q
 |two f a b=>
  simp only[Tm.mv];walk_at "s";rw[if_neg (OA f),if_neg (Fk f),Eb];walk_at "s";refine⟨OI,?_⟩;rw[OH];exact q
 |pick c a b=>
  simp only[Tm.mv];walk_at "s";rw[Eb];walk_at "s";refine⟨OI,?_⟩;rw[OH];exact q
noncomputable abbrev VL(n:Nat):SpM:=λvs M Q=>∃T:Tm,vs=[T.mv]/\T.depth≤n/\∀M',SameM M M'->Q (.tup [.int (T.size:Nat),.int (T.depth:Nat)]) M'
theorem OL(n:Nat):MonW (VL n):=by walk_at "m"
theorem OM(T:Txt K mg t):∀n:Nat,FnOk P w K mg base CX0 (n+8) t.f_size_of t.d_size_of ["T"] (liSp K (VL n))
 |0=>by
  have no:∀vs M Q,¬VL 0 vs M Q:=λvs M Q h=>by
   obtain⟨T,_,h0,_⟩:=h;have:=T.depth_pos;lia
  exact⟨λvs H Q E ⟨ms,M,r,rh,h⟩=>absurd h (no _ _ _),λA outer s H args us vs Q E _ _ _ _ ⟨ms,M,r,rh,h⟩=>absurd h (no _ _ _)⟩
 |n+1=>by
  have ih:=OM T n;refine T.F_size_of.okM Zf5 (Xw (Φ:=[("parts_within",VJ),("size_of",(VL n))]) (Xx T) (Xy T) rfl (fMc ⟨OJ,(fMc ⟨(OL _),nl0⟩)⟩) (fMc ⟨⟨_,_,_,FnOk.mono (OK T) (by lia),T.m_parts_within,T.F_parts_within.kp,T.b_parts_within⟩,(fMc ⟨⟨_,_,_,ih,T.m_size_of,T.F_size_of.kp,T.b_size_of⟩,nl0⟩)⟩):Fts P w K mg base (n+8) Jy [("parts_within",VJ),("size_of",(VL n))]) Ee ZfC (fun vs M Q h=>?_) (fun vs M Q h=>?_)
  ·obtain⟨T,rfl,_⟩:=h;rfl
  obtain⟨U,rfl,hn,q⟩:=h;show wSs _ _ _ [some U.mv,none,none,none,none] M;rw[Ee,Jx];walk_at "s";rw[Jw];walk_at "s";rw[Jv];walk_at "s";refine⟨U,rfl,λpk hpk=>?_⟩;have s1:=SameM.new hpk (.lst (U.kids.map Tm.mv));have h1:updM M pk (.lst (U.kids.map Tm.mv)) pk=some (.lst (U.kids.map Tm.mv)):=Xg;generalize updM M pk (.lst (U.kids.map Tm.mv))=M1 at*
  repeat (first|walk_at "s"|simp only[h1])
  obtain⟨J,hJ⟩:∃J:Nat->Sm->MH->Prop,∀i σ M2,J i σ M2↔∃(v3 v4:Option MV),SameM M1 M2/\σ=[some U.mv,some (.int ((1+szs (U.kids.take i):Nat):Int)),some (.int ((mxd (U.kids.take i):Nat):Int)),v3,v4]:=⟨_,λ_ _ _=>Y8⟩;refine⟨J,(hJ _ _ _).2 ⟨_,_,SameM.refl _,rfl⟩,λi σ M2 hj=>?_,λi x σ M2 hx hj=>?_,λσ M2 hj=>?_⟩
  ·obtain⟨_,_,s2,_⟩:=(hJ _ _ _).1 hj;exact s2 _ _ h1
  ·obtain⟨v3,v4,s2,rfl⟩:=(hJ _ _ _).1 hj;obtain⟨hi,rfl⟩:=Yl hx;have hk:=U.kid_depth (XV hi);rw[Ju];walk_at "s";refine⟨U.kids[i],rfl,by lia,λM3 s3=>?_⟩
   rw[Jt];walk_at "s";rw[Js];walk_at "s";have et:U.kids.take (i+1)=U.kids.take i++[U.kids[i]]:=by rw[YN,Xc hi];rfl
   have e1:((1+szs (U.kids.take i):Nat):Int)+(U.kids[i].size:Nat)=((1+szs (U.kids.take (i+1)):Nat):Int):=by rw[et,OE,Zkh];lia
   have e2:(if((U.kids[i].depth:Nat):Int)>(mxd (U.kids.take i):Nat)then((U.kids[i].depth:Nat):Int)else(mxd (U.kids.take i):Nat))=((mxd (U.kids.take (i+1)):Nat):Int):=by
    rw[et,Zl4];split<;>lia
   rw[e1,e2];exact(hJ _ _ _).2 ⟨_,_,s2.trans s3,rfl⟩
  ·obtain⟨v3,v4,s2,rfl⟩:=(hJ _ _ _).1 hj;have e:U.kids.take (Src.lst pk (U.kids.map Tm.mv)).len=U.kids:=by simp[Src.len]
   rw[e,Jr];walk_at "s";have:=q M2 (s1.trans s2);rw[U.size_kids,U.depth_kids]at this;exact this
noncomputable abbrev Vi(n:Nat):SpM:=λvs M Q=>∃T:Tm,vs=[T.mv]/\T.depth≤n/\T.size≤4000/\∀p M',SameM M M'->M p=none->M' p=some (.lst (T.reads.map MV.str))->Q (.ref p) M'
theorem ON(n:Nat):MonW (Vi n):=by walk_at "m"
theorem OO(T:Txt K mg t):∀n:Nat,FnOk P w K mg base CX0 (n+8) t.f_names_read t.d_names_read ["T"] (liSp K (Vi n))
 |0=>by
  have no:∀vs M Q,¬Vi 0 vs M Q:=λvs M Q h=>by
   obtain⟨T,_,h0,_⟩:=h;have:=T.depth_pos;lia
  exact⟨λvs H Q E ⟨ms,M,r,rh,h⟩=>absurd h (no _ _ _),λA outer s H args us vs Q E _ _ _ _ ⟨ms,M,r,rh,h⟩=>absurd h (no _ _ _)⟩
 |n+1=>by
  have ih:=OO T n;refine T.F_names_read.okM Zbr (Xw (Φ:=[("names_read",(Vi n)),("parts_within",VJ)]) (Xx T) (Xy T) rfl (fMc ⟨(ON _),(fMc ⟨OJ,nl0⟩)⟩) (fMc ⟨⟨_,_,_,ih,T.m_names_read,T.F_names_read.kp,T.b_names_read⟩,(fMc ⟨⟨_,_,_,FnOk.mono (OK T) (by lia),T.m_parts_within,T.F_parts_within.kp,T.b_parts_within⟩,nl0⟩)⟩):Fts P w K mg base (n+8) JE [("names_read",(Vi n)),("parts_within",VJ)]) Eg ZbR (fun vs M Q h=>?_) (fun vs M Q h=>?_)
  ·obtain⟨T,rfl,_⟩:=h;rfl
  obtain⟨U,rfl,hn,hz,q⟩:=h;show wSs _ _ _ [some U.mv,none,none] M;have rest:(∀x,U≠.var x)->wSs [("names_read",Vi n),("parts_within",VJ)] Ef {nx:=fun x M'=>Q MV.non M',rt:=Q} [some U.mv,none,none] M:=by
   intro hv;rw[Ef];walk_at "s";intro p0 hp0;have s0:=SameM.new hp0 (.lst []);have h0:updM M p0 (.lst []) p0=some (.lst ([]:List MV)):=Xg;generalize updM M p0 (.lst [])=M0 at*;rw[JB];walk_at "s";refine⟨U,rfl,λpk hpk=>?_⟩;have s1:=SameM.new hpk (.lst (U.kids.map Tm.mv));have h1:updM M0 pk (.lst (U.kids.map Tm.mv)) pk=some (.lst (U.kids.map Tm.mv)):=Xg;have h01:=s1 _ _ h0;have t1:=s0.trans s1;have nk:M pk=none:=s0.free hpk;generalize updM M0 pk (.lst (U.kids.map Tm.mv))=M1 at*
   repeat (first|walk_at "s"|simp only[h1])
   have ne:p0≠pk:=by
    intro e;rw[e]at h0;rw[h0]at hpk;cases hpk
   obtain⟨J,hJ⟩:∃J:Nat->Sm->MH->Prop,∀i σ M2,J i σ M2↔∃(v2:Option MV),SameM M M2/\M2 pk=some (.lst (U.kids.map Tm.mv))/\M2 p0=some (.lst ((rds (U.kids.take i)).map MV.str))/\σ=[some U.mv,some (.ref p0),v2]:=⟨_,λ_ _ _=>Y8⟩;refine⟨J,(hJ _ _ _).2 ⟨_,t1,h1,h01,rfl⟩,λi σ M2 hj=>?_,λi x σ M2 hx hj=>?_,λσ M2 hj=>?_⟩
   ·obtain⟨_,_,g1,_⟩:=(hJ _ _ _).1 hj;exact g1
   ·obtain⟨v2,s2,g1,g2,rfl⟩:=(hJ _ _ _).1 hj;obtain⟨hi,rfl⟩:=Yl hx;have hk:=U.kid_depth (XV hi);have hk2:=U.kid_size (XV hi);rw[JA];walk_at "s";simp only[g2];walk_at "s";refine⟨⟨_,rfl⟩,?_⟩;refine⟨U.kids[i],rfl,by lia,by lia,λp3 M3 s3 n3 g3=>?_⟩
    have g1':=s3 _ _ g1;have g2':=s3 _ _ g2;walk_at "s";have l1:=OG (U.kids.take i);have l2:=Zi3 U.kids i;have l3:=U.size_kids;have l4:=U.kids[i].reads_len;refine⟨_,g2',_,g3,by simp only[X7];lia,(hJ _ _ _).2 ⟨_,(s2.trans s3).upd hp0 _,by rw[Xp ne.symm];exact g1',?_,rfl⟩⟩
    rw[Xg,YN,Xc hi,Do,Zkp,Y6]
   ·obtain⟨v2,s2,g1,g2,rfl⟩:=(hJ _ _ _).1 hj;have e:U.kids.take (Src.lst pk (U.kids.map Tm.mv)).len=U.kids:=by simp[Src.len]
    rw[e,<- U.reads_kids hv]at g2;rw[Jz];walk_at "s";exact q p0 M2 s2 hp0 g2
  rw[Eg,JD];cases U with
  |num m=>
   simp only[Tm.mv];walk_at "s";exact rest (λ_ e=>by cases e)
  |var x=>
   simp only[Tm.mv];walk_at "s";rw[JC];walk_at "s";exact λp hp=>q p _ (SameM.new hp _) hp Xg
  |two f a b=>
   simp only[Tm.mv];walk_at "s";rw[if_neg (Fk f)];exact rest (λ_ e=>by cases e)
  |pick c a b=>
   simp only[Tm.mv];walk_at "s";exact rest (λ_ e=>by cases e)
noncomputable abbrev Cc:SpM:=λvs M Q=>∃(T:Tm) (N:List Str),vs=[T.mv]/\T.depth≤40/\T.size≤4000/\(∀x∈T.reads,x∈N)/\N.length<64/\
 ∀p M' (ys:List Str),SameM M M'->M p=none->M' p=some (.lst (ys.map MV.str))->ys.Nodup->(∀y,y∈ys↔y∈T.reads)->PyProof.Rows.sortedS ys=true->Q (.ref p) M'
theorem Zam:MonW Cc:=by walk_at "m"
theorem Zff(T:Txt K mg t):FnOk P w K mg base CX0 50 t.f_vars_in t.d_vars_in ["T"] (liSp K Cc):=by
 refine T.F_vars_in.okM Zf4 (Xw (Φ:=[("names_read",(Vi 40))]) (Xx T) (Xy T) rfl (fMc ⟨(ON _),nl0⟩) (fMc ⟨⟨_,_,_,FnOk.mono (OO T 40) (by decide),T.m_names_read,T.F_names_read.kp,T.b_names_read⟩,nl0⟩):Fts P w K mg base 49 JG [("names_read",(Vi 40))]) Eh ZfB (fun vs M Q h=>?_) (fun vs M Q h=>?_)
 ·obtain⟨T,N,rfl,_⟩:=h;rfl
 obtain⟨U,N,rfl,hn,hz,hN,hl,q⟩:=h;show wSs _ _ _ [some U.mv] M;rw[Eh,JF];walk_at "s";refine⟨U,rfl,hn,hz,λp1 M1 s1 n1 h1=>?_⟩;have hb:scanBound=4096:=rfl;have:=U.reads_len;exact⟨p1,U.reads,N,rfl,h1,by lia,hN,hl,λp ys hp a1 a2 a3=>q p _ ys (s1.trans (SameM.new hp _)) (s1.free hp) Xg a1 a2 a3⟩
noncomputable abbrev Fn:SpM:=λ_ _ _=>False
theorem Zlb:MonW Fn:=λ_ h=>h.elim
theorem ZlC{P:Xn}{w:Xj}{K:X6}{mg:Str->Option X0}{base:Heap}{k:Nat}{f:Addr}{fd:Xm}{ps:List Str}:FnOk P w K mg base CX0 k f fd ps (liSp K λ_ _ _=>False):=
 ⟨λ_ _ _ _ ⟨_,_,_,_,h⟩=>h.elim,λ_ _ _ _ _ _ _ _ _ _ _ _ _ ⟨_,_,_,_,h⟩=>h.elim⟩
noncomputable def Up(z:Str):Prop:=1≤z.length/\z.length≤8/\∀c∈z.cps.toList,97≤c/\c≤122
theorem OP{a b:Nat}:([a]:List Nat)<[b]↔a<b:=by
 rw[List.cons_lt_cons_iff];constructor
 ·rintro(h|⟨_,h⟩)
  ·exact h
  ·exact absurd h (by simp)
 ·exact .inl
theorem Zq1:(("a":Str)).cps.toList=[97]:=by decide+kernel
theorem Zq0:(("z":Str)).cps.toList=[122]:=by decide+kernel
theorem le_a{c:Nat}(h:97≤c):(!decide ((⟨#[c]⟩:Str).cps.toList<(("a":Str)).cps.toList))=true:=by
 rw[Zq1];have:¬((⟨#[c]⟩:Str).cps.toList<[97]):=λz=>by
  have z:([c]:List Nat)<[97]:=z;rw[OP]at z;lia
 simpa using this
theorem le_z{c:Nat}(h:c≤122):(!decide ((("z":Str)).cps.toList<(⟨#[c]⟩:Str).cps.toList))=true:=by
 rw[Zq0];have:¬([122]<(⟨#[c]⟩:Str).cps.toList):=λz=>by
  have z:([122]:List Nat)<[c]:=z;rw[OP]at z;lia
 simpa using this
noncomputable abbrev Cd:SpM:=λvs M Q=>∃z:Str,vs=[.str z]/\Up z/\∀M',SameM M M'->Q (.bl true) M'
theorem Zan:MonW Cd:=by walk_at "m"
theorem Zfg(T:Txt K mg t):FnOk P w K mg base CX0 1 t.f_is_name t.d_is_name ["text"] (liSp K Cd):=by
 refine T.F_is_name.okM Zf6 (Xw (Φ:=[]) (Xx T) (Xy T) rfl nl0 nl0:Fts P w K mg base 0 Ka []) Ew ZfD (λvs M Q h=>?_) (λvs M Q h=>?_)
 ·obtain⟨z,rfl,_⟩:=h;rfl
 obtain⟨z,rfl,⟨g1,g2,g3⟩,q⟩:=h;show wSs _ _ _ [some (.str z)] M;rw[Ew,K9];walk_at "s";refine⟨by lia,?_⟩
 rw[if_pos (by lia:(1:Int)≤(z.length:Int))]
 rw[if_pos (by lia:(z.length:Int)≤8)]
 refine UP z.cps.toList (λc=>.str ⟨#[c]⟩) (λ_=>.bl true) ?_ ?_ (λj f sp h=>by simp at h) λD hD=>?_
 ·walk_at "s";have:z.cps.toList.length=z.length:=XU;exact⟨rfl,by lia,trivial⟩
 ·intro c hc M' s;obtain⟨h1,h2⟩:=g3 c hc;simp only[sCm,XC,Y2,Ye,Yf,Yb,Y7];walk_at "s";rw[if_pos (by simpa using le_a h1)]
  simpa using le_z h2
 walk_at "s";refine⟨z.cps.toList.map λ_=>true,by rw[XW];rfl,?_⟩
 have e:((z.cps.toList.map λ_=>true).all id)=true:=by simp
 rw[e];exact q _ (SameM.new hD _)
theorem Fo{z:Str}{zs:List Str}:inV (toV (.str z)) ((zs.map MV.str).map toV)=decide (z∈zs):=by
 unfold inV
 induction zs with
 |nil=>simp
 |cons a r ih=>
  rw[XC,XC,UD,ih];have e:eqV (toV (.str a)) (toV (.str z))=decide (a=z):=by
   show(a==z)=decide (a=z);by_cases h:a=z
   ·subst h;simp
   ·simp[h]
  rw[e];by_cases h:a=z
  ·simp[h]
  ·have h':¬z=a:=λw=>h w.symm;simp[h,h']
theorem Fp(zs:List Str):(zs.map MV.str).all Yu=true:=by
 rw[List.all_eq_true];intro v hv;obtain⟨x,_,rfl⟩:=XN.mp hv
 rfl
noncomputable abbrev Vj:SpM:=λvs M Q=>∃(z:Str) (e:Addr) (zs:List Str),vs=[.str z,.ref e]/\M e=some (.lst (zs.map MV.str))/\Up z/\z∉zs/\∀M',SameM M M'->Q .non M'
theorem Fq:MonW Vj:=by walk_at "m"
theorem Ft(T:Txt K mg t):FnOk P w K mg base CX0 2 t.f_refuse_name t.d_refuse_name ["text","earlier"] (liSp K Vj):=by
 refine T.F_refuse_name.okM Zac (Xw (Φ:=[("is_name",Cd)]) (Xx T) (Xy T) rfl (fMc ⟨Zan,nl0⟩) (fMc ⟨⟨_,_,_,(FnOk.mono (Zfg T) (by decide)),T.m_is_name,T.F_is_name.kp,T.b_is_name⟩,nl0⟩):Fts P w K mg base 1 Kd [("is_name",Cd)]) Ex ZaA (fun vs M Q h=>?_) (fun vs M Q h=>?_)
 ·obtain⟨z,a,zs,rfl,_⟩:=h;rfl
 obtain⟨z,a,zs,rfl,h1,h2,h3,q⟩:=h;show wSs _ _ _ [some (.str z),some (.ref a)] M;rw[Ex,Kc];walk_at "s";refine⟨z,rfl,h2,λM1 s1=>?_⟩;walk_at "s";rw[Kb];walk_at "s";refine .inl ⟨_,s1 _ _ h1,rfl,Fp zs,?_⟩;rw[Fo,decide_eq_false h3];walk_at "s";exact q M1 s1
noncomputable def Leaf(v:MV):Prop:=(∃i,v=.int i)\/∃z,v=.str z
noncomputable def FroD:Nat->MH->MV->MV->Prop
 |0,_,v,v'=>Leaf v/\v'=v
 |n+1,M,v,v'=>(Leaf v/\v'=v)\/∃ps:List (MV×MV),(v=.tup (ps.map (·.1))\/∃a,v=.ref a/\M a=some (.lst (ps.map (·.1))))/\v'=.tup (ps.map (·.2))/\ps.length≤1000/\∀p∈ps,FroD n M p.1 p.2
theorem FroD.keep{M M':MH}(s:SameM M M'):∀{n:Nat} {v v':MV},FroD n M v v'->FroD n M' v v'
 |0,_,_,h=>h
 |n+1,v,v',h=>by
  rcases h with h|⟨ps,h1,h2,h3,h4⟩
  ·exact .inl h
  ·refine .inr ⟨ps,?_,h2,h3,λp hp=>(h4 p hp).keep s⟩;rcases h1 with h1|⟨a,e,h1⟩
   ·exact .inl h1
   ·exact .inr ⟨a,e,s _ _ h1⟩
noncomputable abbrev Ua(n:Nat):SpM:=λvs M Q=>∃v v',vs=[v]/\FroD n M v v'/\∀M',SameM M M'->Q v' M'
theorem Ce(n:Nat):MonW (Ua n):=by walk_at "m"
theorem ZdS{n:Nat}(hΦ:∀(j:Nat) f sp,([("frozen",Ua n)]:List (Str×SpM))[j]?=some (f,sp)->MonW sp) {vs:List MV} {M:MH} {Q:QM} (h:Ua (n+1) vs M Q):wSs [("frozen",Ua n)] Wv {nx:=fun _ M'=>Q .non M',rt:=Q} (Aw 1 vs) M:=by
 obtain⟨v,v',rfl,hf,q⟩:=h;show wSs _ _ _ [some v] M;rw[Wv,EK];rcases hf with⟨l,rfl⟩|⟨ps,h1,rfl,h3,h4⟩
 ·rcases l with⟨i,rfl⟩|⟨z,rfl⟩
  ·walk_at "s";simp only[decide_false,Wa,Yo,if_false,reduceCtorEq,ne_eq,not_false_eq_true,true_and];rw[Wu];walk_at "s";exact q M (SameM.refl _)
  ·walk_at "s";simp only[decide_false,Wa,Yo,if_false,reduceCtorEq,ne_eq,not_false_eq_true,true_and];rw[Wu];walk_at "s";exact q M (SameM.refl _)
 ·have go:wSs [("frozen",Ua n)] EJ {nx:=fun σ M=>wSs [("frozen",Ua n)] Wu {nx:=fun _ M'=>Q .non M',rt:=Q} σ M,rt:=Q} [some v] M:=by
   rw[EJ];walk_at "s";refine J8 ps (·.1) (·.2) ?_ ?_ hΦ λD M' hD s hd=>?_
   ·rcases h1 with rfl|⟨a,rfl,ha⟩
    ·walk_at "s";exact⟨rfl,by lia,trivial,λ_ _ h=>h⟩
    ·repeat (first|walk_at "s"|simp only[ha])
     exact⟨rfl,by lia,ha,λ_ _ h=>h⟩
   ·intro p hp M' s;simp only[sCm,XC,Y2,Ye,Yf,Yb,Y7];walk_at "s";exact⟨p.1,p.2,rfl,(h4 p hp).keep s,λM2 s2=>⟨rfl,s2⟩⟩
   repeat (first|walk_at "s"|simp only[hd])
   exact q M' s
  rcases h1 with rfl|⟨a,rfl,ha⟩
  ·walk_at "s";simp only[decide_true,Bl,Bk,if_true,reduceCtorEq,ne_eq,not_false_eq_true,true_and];exact go
  ·repeat (first|walk_at "s"|simp only[ha])
   simp only[decide_true,Bl,Bk,if_true,reduceCtorEq,ne_eq,not_false_eq_true,true_and];exact go
theorem OQ(T:Txt K mg t):∀n:Nat,FnOk P w K mg base CX0 (n+8) t.f_frozen t.d_frozen ["value"] (liSp K (Ua n))
 |0=>by
  refine T.F_frozen.okM Ja (Xw (Φ:=[("frozen",Fn)]) (Xx T) (Xy T) rfl (fMc ⟨@Zlb,nl0⟩) (fMc ⟨⟨_,_,_,ZlC,T.m_frozen,T.F_frozen.kp,T.b_frozen⟩,nl0⟩):Fts P w K mg base 7 EL [("frozen",Fn)]) Wv Ld (fun vs M Q h=>?_) (fun vs M Q h=>?_)
  ·obtain⟨v,v',rfl,_⟩:=h;rfl
  obtain⟨v,v',rfl,⟨l,rfl⟩,q⟩:=h;show wSs _ _ _ [some v'] M;rw[Wv,EK];rcases l with⟨i,rfl⟩|⟨z,rfl⟩
  ·walk_at "s";simp only[decide_false,Wa,Yo,if_false,reduceCtorEq,ne_eq,not_false_eq_true,true_and];rw[Wu];walk_at "s";exact q M (SameM.refl _)
  ·walk_at "s";simp only[decide_false,Wa,Yo,if_false,reduceCtorEq,ne_eq,not_false_eq_true,true_and];rw[Wu];walk_at "s";exact q M (SameM.refl _)
 |n+1=>by
  have ih:=OQ T n;refine T.F_frozen.okM Ja (Xw (Φ:=[("frozen",(Ua n))]) (Xx T) (Xy T) rfl (fMc ⟨(Ce _),nl0⟩) (fMc ⟨⟨_,_,_,ih,T.m_frozen,T.F_frozen.kp,T.b_frozen⟩,nl0⟩):Fts P w K mg base (n+8) EL [("frozen",(Ua n))]) Wv Ld (fun vs M Q h=>?_) (fun vs M Q h=>?_)
  ·obtain⟨v,v',rfl,_⟩:=h;rfl
  exact ZdS (Z2 (fMc ⟨Ce n,nl0⟩)) h
structure Isl where
 name:Str
 prs:List (Str×Int)
 stps:List Stp
structure Fer where
 name:Str
 giver:Str
 taker:Str
 k:Nat
 st:Nat
structure Wld where
 w:Nat
 isl:List Isl
 fer:List Fer
noncomputable def prV(p:Str×Int):MV:=.tup [.str p.1,.int p.2]
noncomputable def Fer.mv(f:Fer):MV:=.tup [.str f.name,.str f.giver,.str f.taker,.int f.k,.int f.st]
noncomputable def Isl.mv(I:Isl):MV:=.tup [.str I.name,.tup (I.prs.map prV),.tup (I.stps.map Stp.mv)]
noncomputable def Wld.mv(W:Wld):MV:=.tup [.int W.w,.tup (W.isl.map Isl.mv),.tup (W.fer.map Fer.mv)]
noncomputable def Isl.vars(I:Isl):List Str:=I.prs.map (·.1)
noncomputable def Wld.fns(W:Wld):List Str:=W.fer.map (·.name)
noncomputable def Wld.ins(W:Wld):List Str:=W.isl.map (·.name)
noncomputable def TmIn(ns:List Str)(T:Tm):Prop:=T.depth≤8/\T.size≤30/\∀x∈T.reads,x∈ns
noncomputable def Zb(fs:List Str)(ns:List Str)(n:Nat):Stp->Prop
 |.take f x=>f∈fs/\x∈ns
 |.give f T=>f∈fs/\TmIn ns T
 |.put x T=>x∈ns/\TmIn ns T
 |.jump T i=>TmIn ns T/\0≤i/\i≤(n:Int)
structure IslOk (w:Nat) (fs:List Str) (I:Isl):Prop where
 nv:I.prs.length≤6
 ns:I.stps.length≤12
 nd:I.vars.Nodup
 gd:∀x∈I.vars,Up x
 wd:∀p∈I.prs,0≤p.2/\p.2<2^w
 st:∀s∈I.stps,Zb fs I.vars I.stps.length s
structure FerOk (is:List Str) (f:Fer):Prop where
 g:f.giver∈is
 t:f.taker∈is
 ne:f.giver≠f.taker
 k3:f.k≤3
 s1:1≤f.st
 s3:f.st≤3
noncomputable def Vk(F:List Fer)(z:Str):Stp->Prop
 |.take f _=>∀x∈F,x.name=f->x.taker=z
 |.give f _=>∀x∈F,x.name=f->x.giver=z
 |_=>True
structure Wld.Good (W:Wld):Prop where
 w1:1≤W.w
 w2:W.w≤64
 i5:W.isl.length≤5
 f6:W.fer.length≤6
 fg:∀z∈W.fns,Up z
 ig:∀z∈W.ins,Up z
 nd:(W.fns++W.ins).Nodup
 io:∀I∈W.isl,IslOk W.w W.fns I
 fo:∀f∈W.fer,FerOk W.ins f
 en:∀I∈W.isl,∀s∈I.stps,Vk W.fer I.name s
noncomputable def IslIn(M:MH)(I:Isl)(y:MV):Prop:=∃a b,y=.tup [.str I.name,.ref a,.ref b]/\M a=some (.lst (I.prs.map prV))/\M b=some (.lst (I.stps.map Stp.mv))
theorem IslIn.keep{M M':MH}(s:SameM M M'){I:Isl}{y:MV}(h:IslIn M I y):IslIn M' I y:=by
 obtain⟨a,b,e,h1,h2⟩:=h;exact⟨a,b,e,s _ _ h1,s _ _ h2⟩
noncomputable def IslsIn(M:MH)(Is:List Isl)(ys:List MV):Prop:=ys.length=Is.length/\∀(i:Nat) (I:Isl) (y:MV),Is[i]?=some I->ys[i]?=some y->IslIn M I y
theorem IslsIn.keep{M M':MH}(s:SameM M M'){Is:List Isl}{ys:List MV}(h:IslsIn M Is ys):IslsIn M' Is ys:=⟨h.1,λi z y a b=>(h.2 i z y a b).keep s⟩
theorem IslsIn.mem{M:MH}{Is:List Isl}{ys:List MV}(h:IslsIn M Is ys){y:MV}(hy:y∈ys):∃I∈Is,IslIn M I y:=by
 obtain⟨i,hi,rfl⟩:=Yd hy;have hi2:i<Is.length:=by rw[<- h.1];exact hi
 exact⟨Is[i],XV hi2,h.2 i _ _ (Xc hi2) (Xc hi)⟩
theorem IslsIn.fst{M:MH}{Is:List Isl}{ys:List MV}(h:IslsIn M Is ys){f:MV->MV}(hf:∀z r,f (.tup (.str z::r))=.str z):ys.map f=(Is.map (·.name)).map MV.str:=by
 apply CS;intro i;rw[Xq,Xq,Xq];by_cases hi:i<ys.length
 ·have hi2:i<Is.length:=by rw[<- h.1];exact hi
  obtain⟨a,b,e,_⟩:=h.2 i _ _ (Xc hi2) (Xc hi);rw[Xc hi2,Xc hi,e];show some (f _)=_;rw[hf];rfl
 ·have hi2:¬i<Is.length:=by rw[<- h.1];exact hi
  rw[Vp (by lia),Vp (by lia)];rfl
noncomputable abbrev Wy:SpM:=λvs M Q=>∃i:Int,vs=[.int i]/\Q (.bl true) M
theorem OR:MonW Wy:=by walk_at "m"
theorem OS(T:Txt K mg t):FnOk P w K mg base CX0 1 t.f_is_whole t.d_is_whole ["value"] (liSp K Wy):=by
 refine T.F_is_whole.okM Zdn (Xw (Φ:=[]) (Xx T) (Xy T) rfl nl0 nl0:Fts P w K mg base 0 Jc []) E6 Ze0 (λvs M Q h=>?_) (λvs M Q h=>?_)
 ·obtain⟨i,rfl,_⟩:=h;rfl
 obtain⟨i,rfl,q⟩:=h;show wSs _ _ _ [some (.int i)] M;rw[E6,Jb];walk_at "s"
 simpa using q
noncomputable abbrev AF:SpM:=λvs M Q=>∃i:Int,vs=[.int i]/\1≤i/\i≤64/\Q (.bl true) M
theorem OT:MonW AF:=by walk_at "m"
theorem Zdr(T:Txt K mg t):FnOk P w K mg base CX0 2 t.f_is_width t.d_is_width ["number"] (liSp K AF):=by
 refine T.F_is_width.okM Zdm (Xw (Φ:=[("is_whole",Wy)]) (Xx T) (Xy T) rfl (fMc ⟨OR,nl0⟩) (fMc ⟨⟨_,_,_,(FnOk.mono (OS T) (by decide)),T.m_is_whole,T.F_is_whole.kp,T.b_is_whole⟩,nl0⟩):Fts P w K mg base 1 Je [("is_whole",Wy)]) E7 ZdZ (fun vs M Q h=>?_) (fun vs M Q h=>?_)
 ·obtain⟨i,rfl,_⟩:=h;rfl
 obtain⟨i,rfl,h1,h2,q⟩:=h;show wSs _ _ _ [some (.int i)] M;rw[E7,Jd];walk_at "s";refine⟨i,rfl,?_⟩;walk_at "s";rw[if_pos h1,decide_eq_true h2];exact q
noncomputable abbrev Cf:SpM:=λvs M Q=>∃(k:Nat) (i:Int),vs=[.int k,.int i]/\k≤64/\0≤i/\i<2^k/\Q (.bl true) M
theorem Zdw:MonW Cf:=by walk_at "m"
theorem ZkZ(T:Txt K mg t):FnOk P w K mg base CX0 2 t.f_fits t.d_fits ["width","number"] (liSp K Cf):=by
 refine T.F_fits.okM Zkn (Xw (Φ:=[("is_whole",Wy),("two_to",Vh)]) (Xx T) (Xy T) rfl (fMc ⟨OR,(fMc ⟨Fl,nl0⟩)⟩) (fMc ⟨⟨_,_,_,(FnOk.mono (OS T) (by decide)),T.m_is_whole,T.F_is_whole.kp,T.b_is_whole⟩,(fMc ⟨⟨_,_,_,(FnOk.mono (Fm T) (by decide)),T.m_two_to,T.F_two_to.kp,T.b_two_to⟩,nl0⟩)⟩):Fts P w K mg base 1 Jl [("is_whole",Wy),("two_to",Vh)]) E9 ZlN (fun vs M Q h=>?_) (fun vs M Q h=>?_)
 ·obtain⟨k,i,rfl,_⟩:=h;rfl
 obtain⟨k,i,rfl,h1,h2,h3,q⟩:=h;show wSs _ _ _ [some (.int k),some (.int i)] M;rw[E9,Jk];walk_at "s";refine⟨i,rfl,?_⟩;walk_at "s";rw[if_pos h2];refine⟨k,rfl,h1,?_⟩;walk_at "s";rw[decide_eq_true h3];exact q
noncomputable abbrev Vl:SpM:=λvs M Q=>∃(z:Str) (e:Addr) (zs:List Str),vs=[.str z,.ref e]/\M e=some (.lst (zs.map MV.str))/\z∈zs/\Q .non M
theorem Fu:MonW Vl:=by walk_at "m"
theorem Fv(T:Txt K mg t):FnOk P w K mg base CX0 1 t.f_refuse_unknown t.d_refuse_unknown ["name","known"] (liSp K Vl):=by
 refine T.F_refuse_unknown.okM Z7z (Xw (Φ:=[]) (Xx T) (Xy T) rfl nl0 nl0:Fts P w K mg base 0 Kf []) Ey Z7N (λvs M Q h=>?_) (λvs M Q h=>?_)
 ·obtain⟨z,a,zs,rfl,_⟩:=h;rfl
 obtain⟨z,a,zs,rfl,h1,h2,q⟩:=h;show wSs _ _ _ [some (.str z),some (.ref a)] M;rw[Ey,Ke];walk_at "s";refine .inl ⟨_,h1,rfl,Fp zs,?_⟩;rw[Fo,decide_eq_true h2];walk_at "s";exact q
theorem Cg{α:Type} [DecidableEq α] {zs:List α}(nd:zs.Nodup){j:Nat}{z:α}(hz:zs[j]?=some z):z∉zs.take j:=λhm=>by
 obtain⟨hj,rfl⟩:=XE.mp hz;obtain⟨k,hk,e1⟩:=Yd hm;have hk2:k<j:=by rw[Yz]at hk;lia
 rw[List.getElem_take]at e1;have:=(CU nd).mp e1;lia
theorem Fw{α β:Type}{f:α->β}{zs:List α}{j:Nat}{z:α}(hz:zs[j]?=some z):(zs.take j).map f++[f z]=(zs.take (j+1)).map f:=by
 rw[YN,hz,Y6];rfl
noncomputable abbrev AG:SpM:=λvs M Q=>∃(f:Addr) (F:List Fer),vs=[.ref f]/\M f=some (.lst (F.map Fer.mv))/\F.length≤6/\(F.map (·.name)).Nodup/\(∀x∈F,Up x.name)/\∀M',SameM M M'->Q .non M'
theorem OU:MonW AG:=by walk_at "m"
theorem Z4j(T:Txt K mg t):FnOk P w K mg base CX0 3 t.f_refuse_ferry_names t.d_refuse_ferry_names ["ferries"] (liSp K AG):=by
 refine T.F_refuse_ferry_names.okM Z4h (Xw (Φ:=[("refuse_name",Vj)]) (Xx T) (Xy T) rfl (fMc ⟨Fq,nl0⟩) (fMc ⟨⟨_,_,_,(FnOk.mono (Ft T) (by decide)),T.m_refuse_name,T.F_refuse_name.kp,T.b_refuse_name⟩,nl0⟩):Fts P w K mg base 2 Kk [("refuse_name",Vj)]) Ez Z50 (fun vs M Q h=>?_) (fun vs M Q h=>?_)
 ·obtain⟨f,F,rfl,_⟩:=h;rfl
 obtain⟨f,F,rfl,hf,h6,nd,hg,q⟩:=h;show wSs _ _ _ [some (.ref f),none,none] M;rw[Ez,Kj];walk_at "s";intro p hp;have s1:=SameM.new hp (.lst []);have hf1:=s1 _ _ hf;have hp1:updM M p (.lst []) p=some (.lst []):=Xg;have old:∀a o,M a=some o->a≠p:=λa o h=>neM h hp;generalize updM M p _=M1 at*;rw[Ki]
 repeat (first|walk_at "s"|simp only[hf1])
 obtain⟨J,hJ⟩:∃J:Nat->Sm->MH->Prop,∀j σ M',J j σ M'↔SameM M M'/\M' p=some (.lst (((F.map (·.name)).take j).map MV.str))/\∃v,σ=[some (.ref f),some (.ref p),v]:=⟨_,λ_ _ _=>Y8⟩;refine⟨J,(hJ _ _ _).mpr ⟨s1,by simpa using hp1,_,rfl⟩,λj σ M' h=>((hJ _ _ _).mp h).1 _ _ hf,?_,?_⟩
 ·rintro j y σ M' hy h;obtain⟨s2,hp2,v,rfl⟩:=(hJ _ _ _).mp h;obtain⟨hj,rfl⟩:=Yl hy;have hj:j<F.length:=hj;have hz:(F.map (·.name))[j]?=some F[j].name:=by rw[Xq,Xc hj];rfl
  rw[Kh]
  repeat (first|walk_at "s"|simp only[Fer.mv])
  refine⟨F[j].name,p,(F.map (·.name)).take j,rfl,hp2,hg _ (XV hj),Cg nd hz,λM3 s3=>?_⟩;have hp3:=s3 _ _ hp2;walk_at "s";rw[Kg]
  repeat (first|walk_at "s"|simp only[Fer.mv,hp3,X7,Yz])
  refine⟨⟨_,rfl⟩,by lia,(hJ _ _ _).mpr ⟨λa o h=>by rw[Xp (old a o h)];exact s3 _ _ (s2 _ _ h),?_,_,rfl⟩⟩
  rw[Xg,Fw hz]
 ·rintro σ M' h;obtain⟨s2,_⟩:=(hJ _ _ _).mp h;exact q _ s2
noncomputable abbrev AH:SpM:=λvs M Q=>∃(k:Nat) (f:Addr) (ps:List (Str×Int)),vs=[.int k,.ref f]/\M f=some (.lst (ps.map prV))/\k≤64/\ps.length≤6/\(ps.map (·.1)).Nodup/\(∀x∈ps,Up x.1/\0≤x.2/\x.2<2^k)/\∀M',SameM M M'->Q .non M'
theorem OV:MonW AH:=by walk_at "m"
theorem Z6o(T:Txt K mg t):FnOk P w K mg base CX0 3 t.f_refuse_variables t.d_refuse_variables ["width","pairs"] (liSp K AH):=by
 refine T.F_refuse_variables.okM Z6l (Xw (Φ:=[("fits",Cf),("refuse_name",Vj)]) (Xx T) (Xy T) rfl (fMc ⟨Zdw,(fMc ⟨Fq,nl0⟩)⟩) (fMc ⟨⟨_,_,_,(FnOk.mono (ZkZ T) (by decide)),T.m_fits,T.F_fits.kp,T.b_fits⟩,(fMc ⟨⟨_,_,_,(FnOk.mono (Ft T) (by decide)),T.m_refuse_name,T.F_refuse_name.kp,T.b_refuse_name⟩,nl0⟩)⟩):Fts P w K mg base 2 Ks [("fits",Cf),("refuse_name",Vj)]) EA Z6D (fun vs M Q h=>?_) (fun vs M Q h=>?_)
 ·obtain⟨k,f,F,rfl,_⟩:=h;rfl
 obtain⟨k,f,F,rfl,hf,hk,h6,nd,hg,q⟩:=h;show wSs _ _ _ [some (.int k),some (.ref f),none,none,none] M;rw[EA,Kr];walk_at "s";intro p hp;have s1:=SameM.new hp (.lst []);have hf1:=s1 _ _ hf;have hp1:updM M p (.lst []) p=some (.lst []):=Xg;have old:∀a o,M a=some o->a≠p:=λa o h=>neM h hp;generalize updM M p _=M1 at*;rw[Kq]
 repeat (first|walk_at "s"|simp only[hf1])
 obtain⟨J,hJ⟩:∃J:Nat->Sm->MH->Prop,∀j σ M',J j σ M'↔SameM M M'/\M' p=some (.lst (((F.map (·.1)).take j).map MV.str))/\∃v v',σ=[some (.int k),some (.ref f),some (.ref p),v,v']:=⟨_,λ_ _ _=>Y8⟩;refine⟨J,(hJ _ _ _).mpr ⟨s1,by simpa using hp1,_,_,rfl⟩,λj σ M' h=>((hJ _ _ _).mp h).1 _ _ hf,?_,?_⟩
 ·rintro j y σ M' hy h;obtain⟨s2,hp2,v,v',rfl⟩:=(hJ _ _ _).mp h;obtain⟨hj,rfl⟩:=Yl hy;have hj:j<F.length:=hj;have hz:(F.map (·.1))[j]?=some F[j].1:=by rw[Xq,Xc hj];rfl
  obtain⟨g1,g2,g3⟩:=hg _ (XV hj);rw[Ko]
  repeat (first|walk_at "s"|simp only[prV])
  rw[Kn];walk_at "s";refine⟨F[j].1,p,(F.map (·.1)).take j,rfl,hp2,g1,Cg nd hz,λM3 s3=>?_⟩;have hp3:=s3 _ _ hp2;walk_at "s";rw[Km]
  repeat (first|walk_at "s"|simp only[hp3,X7,Yz])
  refine⟨⟨_,rfl⟩,by lia,?_⟩
  rw[Kl]
  repeat (first|walk_at "s"|simp only[prV])
  refine⟨k,F[j].2,rfl,hk,g2,g3,?_⟩;walk_at "s";refine(hJ _ _ _).mpr ⟨λa o h=>by rw[Xp (old a o h)];exact s3 _ _ (s2 _ _ h),?_,_,_,rfl⟩
  rw[Xg,Fw hz]
 ·rintro σ M' h;obtain⟨s2,_⟩:=(hJ _ _ _).mp h;exact q _ s2
noncomputable abbrev Ch:SpM:=λvs M Q=>∃(U:Tm) (e:Addr) (ns:List Str),vs=[U.mv,.ref e]/\M e=some (.lst (ns.map MV.str))/\ns.length≤6/\TmIn ns U/\∀M',SameM M M'->Q .non M'
theorem Z6Q:MonW Ch:=by walk_at "m"
theorem Zah(T:Txt K mg t):FnOk P w K mg base CX0 51 t.f_refuse_term t.d_refuse_term ["T","known"] (liSp K Ch):=by
 refine T.F_refuse_term.okM Zaa (Xw (Φ:=[("refuse_unknown",Vl),("size_of",(VL 8)),("vars_in",Cc)]) (Xx T) (Xy T) rfl (fMc ⟨Fu,(fMc ⟨(OL _),(fMc ⟨Zam,nl0⟩)⟩)⟩) (fMc ⟨⟨_,_,_,FnOk.mono (Fv T) (by decide),T.m_refuse_unknown,T.F_refuse_unknown.kp,T.b_refuse_unknown⟩,(fMc ⟨⟨_,_,_,FnOk.mono (OM T 8) (by decide),T.m_size_of,T.F_size_of.kp,T.b_size_of⟩,(fMc ⟨⟨_,_,_,FnOk.mono (Zff T) (by decide),T.m_vars_in,T.F_vars_in.kp,T.b_vars_in⟩,nl0⟩)⟩)⟩):Fts P w K mg base 50 Kx [("refuse_unknown",Vl),("size_of",(VL 8)),("vars_in",Cc)]) EB Zay (fun vs M Q h=>?_) (fun vs M Q h=>?_)
 ·obtain⟨U,a,ns,rfl,_⟩:=h;rfl
 obtain⟨U,a,ns,rfl,ha,h6,⟨hd,hs,hr⟩,q⟩:=h;show wSs _ _ _ [some U.mv,some (.ref a),none,none] M;rw[EB,Kw];walk_at "s";refine⟨U,rfl,hd,λM1 s1=>?_⟩;walk_at "s";rw[Kv];walk_at "s";rw[if_neg (by lia:¬((U.size:Nat):Int)>30)]
 rw[if_neg (by lia:¬((U.depth:Nat):Int)>8)]
 rw[Ku];walk_at "s";refine⟨U,ns,rfl,by lia,by lia,hr,by lia,λp M2 ys s2 hp hp2 nd hm _=>?_⟩
 repeat (first|walk_at "s"|simp only[hp2])
 obtain⟨J,hJ⟩:∃J:Nat->Sm->MH->Prop,∀j σ M',J j σ M'↔M'=M2/\∃v v',σ=[some U.mv,some (.ref a),v,v']:=⟨_,λ_ _ _=>Y8⟩;refine⟨J,(hJ _ _ _).mpr ⟨rfl,_,_,rfl⟩,λj σ M' h=>by rw[((hJ _ _ _).mp h).1];exact hp2,?_,?_⟩
 ·rintro j y σ M' hy h;obtain⟨rfl,v,v',rfl⟩:=(hJ _ _ _).mp h;obtain⟨hj,rfl⟩:=Yl hy;rw[Kt];walk_at "s";refine⟨ys[j],a,ns,rfl,s2 _ _ (s1 _ _ ha),hr _ ((hm _).mp (XV hj)),?_⟩;walk_at "s";exact(hJ _ _ _).mpr ⟨rfl,_,_,rfl⟩
 ·rintro σ M' h;obtain⟨rfl,_⟩:=(hJ _ _ _).mp h;exact q _ (s1.trans s2)
theorem Fx{f x:Str}:(Stp.take f x).mv=.tup [.str "take",.str f,.str x]:=rfl
theorem Fy{f:Str}{U:Tm}:(Stp.give f U).mv=.tup [.str "give",.str f,U.mv]:=rfl
theorem Fz{f:Str}{U:Tm}:(Stp.put f U).mv=.tup [.str "put",.str f,U.mv]:=rfl
theorem FA{i:Int}{U:Tm}:(Stp.jump U i).mv=.tup [.str "jump",U.mv,.int i]:=rfl
noncomputable abbrev AI:SpM:=λvs M Q=>∃(S:Stp) (a b:Addr) (ns fs:List Str) (n:Nat),vs=[S.mv,.ref a,.int n,.ref b]/\M a=some (.lst (ns.map MV.str))/\M b=some (.lst (fs.map MV.str))/\ns.length≤6/\Zb fs ns n S/\∀M',SameM M M'->Q .non M'
theorem OW:MonW AI:=by walk_at "m"
theorem Zai(T:Txt K mg t):FnOk P w K mg base CX0 52 t.f_refuse_step t.d_refuse_step ["step","known","count","ferry_names"] (liSp K AI):=by
 refine T.F_refuse_step.okM Zab (Xw (Φ:=[("refuse_term",Ch),("refuse_unknown",Vl)]) (Xx T) (Xy T) rfl (fMc ⟨Z6Q,(fMc ⟨Fu,nl0⟩)⟩) (fMc ⟨⟨_,_,_,(FnOk.mono (Zah T) (by decide)),T.m_refuse_term,T.F_refuse_term.kp,T.b_refuse_term⟩,(fMc ⟨⟨_,_,_,(FnOk.mono (Fv T) (by decide)),T.m_refuse_unknown,T.F_refuse_unknown.kp,T.b_refuse_unknown⟩,nl0⟩)⟩):Fts P w K mg base 51 KH [("refuse_term",Ch),("refuse_unknown",Vl)]) ED Zaz (fun vs M Q h=>?_) (fun vs M Q h=>?_)
 ·obtain⟨S,a,b,ns,fs,n,rfl,_⟩:=h;rfl
 obtain⟨S,a,b,ns,fs,n,rfl,ha,hb,h6,hS,q⟩:=h;show wSs _ _ _ [some S.mv,some (.ref a),some (.int n),some (.ref b)] M;rw[ED,KG];cases S with
 |take f x=>
  obtain⟨h1,h2⟩:=hS
  repeat (first|walk_at "s"|simp only[Fx])
  rw[Kz];walk_at "s";refine⟨f,b,fs,rfl,hb,h1,?_⟩;walk_at "s";rw[Ky];walk_at "s";refine⟨x,a,ns,rfl,ha,h2,?_⟩;walk_at "s";exact q _ (SameM.refl _)
 |give f U=>
  obtain⟨h1,h2⟩:=hS
  repeat (first|walk_at "s"|simp only[Fy])
  rw[C1];walk_at "s";rw[KB];walk_at "s";refine⟨f,b,fs,rfl,hb,h1,?_⟩;walk_at "s";rw[KA];walk_at "s";refine⟨U,a,ns,rfl,ha,h6,h2,λM1 s1=>?_⟩;walk_at "s";exact q _ s1
 |put f U=>
  obtain⟨h1,h2⟩:=hS
  repeat (first|walk_at "s"|simp only[Fz])
  rw[C1];walk_at "s";rw[EC];walk_at "s";rw[KD];walk_at "s";refine⟨f,a,ns,rfl,ha,h1,?_⟩;walk_at "s";rw[KC];walk_at "s";refine⟨U,a,ns,rfl,ha,h6,h2,λM1 s1=>?_⟩;walk_at "s";exact q _ s1
 |jump U i=>
  obtain⟨h1,h2,h3⟩:=hS
  repeat (first|walk_at "s"|simp only[FA])
  rw[C1];walk_at "s";rw[EC];walk_at "s";rw[KF];walk_at "s";refine⟨U,a,ns,rfl,ha,h6,h1,λM1 s1=>?_⟩;walk_at "s";rw[KE];walk_at "s";rw[if_pos h2];rw[if_neg (by lia:¬¬i≤(n:Int))]
  exact q _ s1
noncomputable abbrev Ci:SpM:=λvs M Q=>∃(k:Nat) (I:Isl) (y:MV) (b:Addr) (fs:List Str),vs=[.int k,y,.ref b]/\k≤64/\IslIn M I y/\M b=some (.lst (fs.map MV.str))/\IslOk k fs I/\∀M',SameM M M'->Q .non M'
theorem Z5p:MonW Ci:=by walk_at "m"
theorem Z8J(T:Txt K mg t):FnOk P w K mg base CX0 53 t.f_refuse_island t.d_refuse_island ["width","island","ferry_names"] (liSp K Ci):=by
 refine T.F_refuse_island.okM Z8H (Xw (Φ:=[("refuse_step",AI),("refuse_variables",AH)]) (Xx T) (Xy T) rfl (fMc ⟨OW,(fMc ⟨OV,nl0⟩)⟩) (fMc ⟨⟨_,_,_,(FnOk.mono (Zai T) (by decide)),T.m_refuse_step,T.F_refuse_step.kp,T.b_refuse_step⟩,(fMc ⟨⟨_,_,_,(FnOk.mono (Z6o T) (by decide)),T.m_refuse_variables,T.F_refuse_variables.kp,T.b_refuse_variables⟩,nl0⟩)⟩):Fts P w K mg base 52 KO [("refuse_step",AI),("refuse_variables",AH)]) EE Z8O (fun vs M Q h=>?_) (fun vs M Q h=>?_)
 ·obtain⟨k,I,y,b,fs,rfl,_⟩:=h;rfl
 obtain⟨k,I,y,fa,fs,rfl,hk,⟨a,b,rfl,ha,hb⟩,hfa,ok,q⟩:=h;show wSs _ _ _ [some (.int k),some (.tup [.str I.name,.ref a,.ref b]),some (.ref fa),none,none] M;have l1:=ok.nv;have l2:=ok.ns;rw[EE,KN]
 repeat (first|walk_at "s"|simp only[ha,X7])
 refine YC (λz=>by lia) (λ_=>?_)
 rw[KM]
 repeat (first|walk_at "s"|simp only[hb,X7])
 refine YC (λz=>by lia) (λ_=>?_)
 rw[KL];walk_at "s";refine⟨k,a,I.prs,rfl,ha,hk,l1,ok.nd,λx hx=>⟨ok.gd _ (XN.mpr ⟨x,hx,rfl⟩),ok.wd _ hx⟩,λM1 s1=>?_⟩;walk_at "s";have ha1:=s1 _ _ ha;rw[KK];walk_at "s";refine UP I.prs prV (fun p=>.str p.1) ?_ ?_ (Z2 (Φ:=[("refuse_step",AI),("refuse_variables",AH)]) (fMc ⟨OW,(fMc ⟨OV,nl0⟩)⟩)) fun D hD=>?_
 ·repeat (first|walk_at "s"|simp only[ha1])
  exact⟨rfl,by lia,ha1⟩
 ·intro p hp M' s;simp only[sCm,XC,Y2,Ye,Yf,Yb,Y7]
  repeat (first|walk_at "s"|simp only[prV])
  try exact⟨rfl,rfl⟩
 have eV:(I.prs.map λp=>MV.str p.1)=I.vars.map MV.str:=by unfold Isl.vars;rw[XW];rfl
 rw[eV];have s2:=s1.trans (SameM.new hD (.lst (I.vars.map MV.str)));have hD2:updM M1 D (.lst (I.vars.map MV.str)) D=some (.lst (I.vars.map MV.str)):=Xg;generalize updM M1 D _=M2 at*;have hb2:=s2 _ _ hb;rw[KJ]
 repeat (first|walk_at "s"|simp only[hb2])
 obtain⟨J,hJ⟩:∃J:Nat->Sm->MH->Prop,∀j σ M',J j σ M'↔SameM M2 M'/\∃v,σ=[some (.int k),some (.tup [.str I.name,.ref a,.ref b]),some (.ref fa),some (.ref D),v]:=⟨_,λ_ _ _=>Y8⟩;refine⟨J,(hJ _ _ _).mpr ⟨SameM.refl _,_,rfl⟩,λj σ M' h=>((hJ _ _ _).mp h).1 _ _ hb2,?_,?_⟩
 ·rintro j y σ M' hy h;obtain⟨s3,v,rfl⟩:=(hJ _ _ _).mp h;obtain⟨hj,rfl⟩:=Yl hy;have hj:j<I.stps.length:=hj;have hb3:=s3 _ _ hb2;rw[KI]
  repeat (first|walk_at "s"|simp only[hb3,X7])
  refine⟨I.stps[j],D,fa,I.vars,fs,I.stps.length,rfl,s3 _ _ hD2,s3 _ _ (s2 _ _ hfa),by unfold Isl.vars;rw[X7];exact l1,ok.st _ (XV hj),λM4 s4=>?_⟩
  walk_at "s";exact(hJ _ _ _).mpr ⟨s3.trans s4,_,rfl⟩
 ·rintro σ M' h;obtain⟨s3,_⟩:=(hJ _ _ _).mp h;exact q _ (s2.trans s3)
noncomputable abbrev AJ:SpM:=λvs M Q=>∃(k:Nat) (p b:Addr) (Is:List Isl) (ys:List MV) (fs:List Str),vs=[.int k,.ref p,.ref b]/\k≤64/\M p=some (.lst ys)/\IslsIn M Is ys/\Is.length≤5/\fs.length≤6/\M b=some (.lst (fs.map MV.str))/\(fs++Is.map (·.name)).Nodup/\(∀I∈Is,Up I.name)/\(∀I∈Is,IslOk k fs I)/\∀M',SameM M M'->Q .non M'
theorem OX:MonW AJ:=by walk_at "m"
theorem Z7B(T:Txt K mg t):FnOk P w K mg base CX0 54 t.f_refuse_islands t.d_refuse_islands ["width","islands","ferry_names"] (liSp K AJ):=by
 refine T.F_refuse_islands.okM Z7A (Xw (Φ:=[("refuse_island",Ci),("refuse_name",Vj)]) (Xx T) (Xy T) rfl (fMc ⟨Z5p,(fMc ⟨Fq,nl0⟩)⟩) (fMc ⟨⟨_,_,_,(FnOk.mono (Z8J T) (by decide)),T.m_refuse_island,T.F_refuse_island.kp,T.b_refuse_island⟩,(fMc ⟨⟨_,_,_,(FnOk.mono (Ft T) (by decide)),T.m_refuse_name,T.F_refuse_name.kp,T.b_refuse_name⟩,nl0⟩)⟩):Fts P w K mg base 53 KW [("refuse_island",Ci),("refuse_name",Vj)]) EF Z7O (fun vs M Q h=>?_) (fun vs M Q h=>?_)
 ·obtain⟨k,p,b,Is,ys,fs,rfl,_⟩:=h;rfl
 obtain⟨k,p,f,Is,ys,fs,rfl,hk,hp,hI,h5,hf6,hf,nd,hg,ok,q⟩:=h;show wSs _ _ _ [some (.int k),some (.ref p),some (.ref f),none,none] M;rw[EF,KU]
 repeat (first|walk_at "s"|simp only[hf])
 intro e he;have s1:=SameM.new he (.lst (fs.map MV.str));have he1:updM M e (.lst (fs.map MV.str)) e=some (.lst (fs.map MV.str)):=Xg;have hp1:=s1 _ _ hp;have old:∀a o,M a=some o->a≠e:=λa o h=>neM h he;generalize updM M e _=M1 at*;rw[KS]
 repeat (first|walk_at "s"|simp only[hp1])
 obtain⟨J,hJ⟩:∃J:Nat->Sm->MH->Prop,∀j σ M',J j σ M'↔SameM M M'/\M' e=some (.lst ((fs++(Is.map (·.name)).take j).map MV.str))/\∃v,σ=[some (.int k),some (.ref p),some (.ref f),some (.ref e),v]:=⟨_,λ_ _ _=>Y8⟩;refine⟨J,(hJ _ _ _).mpr ⟨s1,by simpa using he1,_,rfl⟩,λj σ M' h=>((hJ _ _ _).mp h).1 _ _ hp,?_,?_⟩
 ·rintro j y σ M' hy h;obtain⟨s2,he2,v,rfl⟩:=(hJ _ _ _).mp h;have hy:ys[j]?=some y:=hy;have hj:j<Is.length:=by rw[<- hI.1];exact(XE.mp hy).1
  have hi:Is[j]?=some Is[j]:=Xc hj;have hz:(Is.map (·.name))[j]?=some Is[j].name:=by rw[Xq,hi];rfl
  have hm:=XV hj;obtain⟨a,b,rfl,_⟩:=(hI.keep s2).2 j Is[j] y hi hy;have nin:Is[j].name∉fs++(Is.map (·.name)).take j:=by
   rw[UU]at nd;intro z;rcases YA.mp z with z|z
   ·exact nd.2.2 _ z _ (XN.mpr ⟨_,hm,rfl⟩) rfl
   ·exact Cg nd.2.1 hz z
  rw[KR];walk_at "s";refine⟨Is[j].name,e,fs++(Is.map (·.name)).take j,rfl,he2,hg _ hm,nin,λM3 s3=>?_⟩;have he3:=s3 _ _ he2;walk_at "s";rw[KQ]
  repeat (first|walk_at "s"|simp only[he3,X7,YY,Yz])
  refine⟨⟨_,rfl⟩,by lia,?_⟩
  have s4:SameM M (updM M3 e (.lst ((fs++(Is.map (·.name)).take j).map MV.str++[.str Is[j].name]))):=λa o h=>by rw[Xp (old a o h)];exact s3 _ _ (s2 _ _ h)
  have he4:updM M3 e (.lst ((fs++(Is.map (·.name)).take j).map MV.str++[.str Is[j].name])) e=some (.lst ((fs++(Is.map (·.name)).take (j+1)).map MV.str)):=by
   rw[Xg,Y6,Y6,B9,Fw hz]
  generalize updM M3 e _=M4 at*;rw[KP];walk_at "s";refine⟨k,Is[j],_,f,fs,rfl,hk,(hI.keep s4).2 j _ _ hi hy,s4 _ _ hf,ok _ hm,λM5 s5=>?_⟩;walk_at "s";exact(hJ _ _ _).mpr ⟨s4.trans s5,s5 _ _ he4,_,rfl⟩
 ·rintro σ M' h;obtain⟨s2,_⟩:=(hJ _ _ _).mp h;exact q _ s2
noncomputable abbrev AK:SpM:=λvs M Q=>∃(x:Fer) (e:Addr) (zs:List Str),vs=[x.mv,.ref e]/\M e=some (.lst (zs.map MV.str))/\FerOk zs x/\Q .non M
theorem OY:MonW AK:=by walk_at "m"
theorem Z9h(T:Txt K mg t):FnOk P w K mg base CX0 2 t.f_refuse_ferry t.d_refuse_ferry ["ferry","island_names"] (liSp K AK):=by
 refine T.F_refuse_ferry.okM Z96 (Xw (Φ:=[("refuse_unknown",Vl)]) (Xx T) (Xy T) rfl (fMc ⟨Fu,nl0⟩) (fMc ⟨⟨_,_,_,(FnOk.mono (Fv T) (by decide)),T.m_refuse_unknown,T.F_refuse_unknown.kp,T.b_refuse_unknown⟩,nl0⟩):Fts P w K mg base 1 L4 [("refuse_unknown",Vl)]) EG Z9W (fun vs M Q h=>?_) (fun vs M Q h=>?_)
 ·obtain⟨x,a,zs,rfl,_⟩:=h;rfl
 obtain⟨x,a,zs,rfl,ha,ok,q⟩:=h;show wSs _ _ _ [some (.tup [.str x.name,.str x.giver,.str x.taker,.int x.k,.int x.st]),some (.ref a)] M;have k3:=ok.k3;have t1:=ok.s1;have t3:=ok.s3;rw[EG,L3];walk_at "s";refine⟨_,a,zs,rfl,ha,ok.g,?_⟩;walk_at "s";rw[L1];walk_at "s";refine⟨_,a,zs,rfl,ha,ok.t,?_⟩;walk_at "s";rw[L0];walk_at "s";rw[if_neg ok.ne];rw[KZ];walk_at "s";rw[if_pos (by lia:(0:Int)≤(x.k:Int))]
 rw[if_neg (by lia:¬¬(x.k:Int)≤3)]
 rw[KY];walk_at "s";rw[if_pos (by lia:(1:Int)≤(x.st:Int))]
 rw[if_neg (by lia:¬¬(x.st:Int)≤3)]
 exact q
theorem Zfb{F:List Fer}{g:Fer->Str}:∀{c:List (Key×MV)},(F.map (·.name)).Nodup->(∀x∈F,valM c (Xv x.name)=none)->∀x∈F,valM ((F.map λy=>((Xv y.name:Key),MV.str (g y))).foldl (λc z=>putM c z.1 z.2) c) (Xv x.name)=some (.str (g x)):=by
 have stay:∀(F:List Fer) (c:List (Key×MV)) (z:Str),(∀y∈F,y.name≠z)->valM ((F.map λy=>((Xv y.name:Key),MV.str (g y))).foldl (λc z=>putM c z.1 z.2) c) (Xv z)=valM c (Xv z):=by
  intro F
  induction F with
  |nil=>intro c z _;rfl
  |cons y r ih=>
   intro c z h;rw[XC,W7,ih _ _ (λy hy=>h y (Ya _ hy)),C2,if_neg (λe=>h y (Yg ..) (Vf e).symm)]
 induction F with
 |nil=>intro c _ _ x hx;cases hx
 |cons y r ih=>
  intro c nd h x hx;rw[XC,YO]at nd;rw[XC,W7];rcases Xt.mp hx with rfl|hx
  ·rw[stay _ _ _ (λz hz e=>nd.1 (XN.mpr ⟨z,hz,e⟩)),C2,if_pos rfl]
  ·refine ih nd.2 (λz hz=>?_) x hx;rw[C2,if_neg (λe=>nd.1 (XN.mpr ⟨z,hz,Vf e⟩))];exact h z (Ya _ hz)
noncomputable def dirK(F:List Fer)(g:Fer->Str):List (Key×MV):=UM (F.map λy=>((Xv y.name:Key),MV.str (g y)))
theorem OZ{F:List Fer}{g:Fer->Str}(nd:(F.map (·.name)).Nodup){x:Fer}(hx:x∈F):valM (dirK F g) (Xv x.name)=some (.str (g x)):=Zfb nd (λ_ _=>rfl) x hx
noncomputable abbrev AL:SpM:=λvs M Q=>∃(z:Str) (S:Stp) (a b:Addr) (F:List Fer),vs=[.str z,S.mv,.ref a,.ref b]/\M a=some (.dic (dirK F (·.giver)))/\M b=some (.dic (dirK F (·.taker)))/\(F.map (·.name)).Nodup/\Vk F z S/\(∀f,(∃x,S=.take f x)\/(∃U,S=.give f U)->f∈F.map (·.name))/\Q .non M
theorem P0:MonW AL:=by walk_at "m"
theorem Z6n(T:Txt K mg t):FnOk P w K mg base CX0 1 t.f_refuse_wrong_end t.d_refuse_wrong_end ["name","step","givers","takers"] (liSp K AL):=by
 refine T.F_refuse_wrong_end.okM Z6k (Xw (Φ:=[]) (Xx T) (Xy T) rfl nl0 nl0:Fts P w K mg base 0 L6 []) EH Z6C (λvs M Q h=>?_) (λvs M Q h=>?_)
 ·obtain⟨z,S,a,b,F,rfl,_⟩:=h;rfl
 obtain⟨z,S,a,b,F,rfl,ha,hb,nd,hE,hF,q⟩:=h;show wSs _ _ _ [some (.str z),some S.mv,some (.ref a),some (.ref b)] M;rw[EH,L5];cases S with
 |take f x=>
  obtain⟨y,hy,rfl⟩:=XN.mp (hF f (.inl ⟨x,rfl⟩));have v:=OZ (g:=(·.taker)) nd hy;have e:=hE y hy rfl
  repeat (first|walk_at "s"|simp only[Fx,hb,v,e])
  rw[AC]
  repeat (first|walk_at "s"|simp only[Fx])
  exact q
 |give f U=>
  obtain⟨y,hy,rfl⟩:=XN.mp (hF f (.inr ⟨U,rfl⟩));have v:=OZ (g:=(·.giver)) nd hy;have e:=hE y hy rfl
  repeat (first|walk_at "s"|simp only[Fy])
  rw[AC]
  repeat (first|walk_at "s"|simp only[Fy,ha,v,e])
  exact q
 |put f U=>
  repeat (first|walk_at "s"|simp only[Fz])
  rw[AC]
  repeat (first|walk_at "s"|simp only[Fz])
  exact q
 |jump U i=>
  repeat (first|walk_at "s"|simp only[FA])
  rw[AC]
  repeat (first|walk_at "s"|simp only[FA])
  exact q
theorem Zbz{fs ns:List Str}{n:Nat}{S:Stp}(h:Zb fs ns n S):∀f,(∃x,S=.take f x)\/(∃U,S=.give f U)->f∈fs:=by
 rintro f (⟨x,rfl⟩|⟨U,rfl⟩)
 ·exact h.1
 ·exact h.1
noncomputable abbrev AM:SpM:=λvs M Q=>∃(p f:Addr) (ys:List MV) (Is:List Isl) (F:List Fer),vs=[.ref p,.ref f]/\M p=some (.lst ys)/\IslsIn M Is ys/\Is.length≤5/\M f=some (.lst (F.map Fer.mv))/\F.length≤6/\(F.map (·.name)).Nodup/\
 (∀I∈Is,I.stps.length≤12/\∀s∈I.stps,Vk F I.name s/\∃ns n,Zb (F.map (·.name)) ns n s)/\∀M',SameM M M'->Q .non M'
theorem P1:MonW AM:=by walk_at "m"
theorem P2(F:List Fer)(g:Fer->Str):(F.map λx=>MV.tup [.str x.name,.str (g x)])=(F.map λy=>((Xv y.name:Key),MV.str (g y))).map prM:=by rw[XW];rfl
theorem Z5o(T:Txt K mg t):FnOk P w K mg base CX0 2 t.f_refuse_wrong_ends t.d_refuse_wrong_ends ["islands","ferries"] (liSp K AM):=by
 refine T.F_refuse_wrong_ends.okM Z5m (Xw (Φ:=[("refuse_wrong_end",AL)]) (Xx T) (Xy T) rfl (fMc ⟨P0,nl0⟩) (fMc ⟨⟨_,_,_,(FnOk.mono (Z6n T) (by decide)),T.m_refuse_wrong_end,T.F_refuse_wrong_end.kp,T.b_refuse_wrong_end⟩,nl0⟩):Fts P w K mg base 1 Lc [("refuse_wrong_end",AL)]) EI Z5r (fun vs M Q h=>?_) (fun vs M Q h=>?_)
 ·obtain⟨p,f,ys,Is,F,rfl,_⟩:=h;rfl
 obtain⟨p,f,ys,Is,F,rfl,hp,hI,h5,hf,h6,nd,hE,q⟩:=h;show wSs _ _ _ [some (.ref p),some (.ref f),none,none,none,none] M;have hΦ:=(Z2 (Φ:=[("refuse_wrong_end",AL)]) (fMc ⟨P0,nl0⟩));rw[EI,Lb];walk_at "s";refine UP F Fer.mv (λx=>.tup [.str x.name,.str x.giver]) ?_ ?_ hΦ λD hD=>?_
 ·repeat (first|walk_at "s"|simp only[hf])
  exact⟨rfl,by lia,hf⟩
 ·intro x hx M' s;simp only[sCm,XC,Y2,Ye,Yf,Yb,Y7]
  repeat (first|walk_at "s"|simp only[Fer.mv])
  try exact⟨rfl,rfl⟩
 rw[P2 F (·.giver)];have s1:=SameM.new hD (.lst ((F.map λy=>((Xv y.name:Key),MV.str y.giver)).map prM));have d1:updM M D (.lst ((F.map λy=>((Xv y.name:Key),MV.str y.giver)).map prM)) D=some (.lst ((F.map λy=>((Xv y.name:Key),MV.str y.giver)).map prM)):=Xg;generalize updM M D _=M1 at*;walk_at "s";refine⟨_,d1,λa ha=>?_⟩;have s2:=s1.trans (SameM.new ha (.dic (dirK F (·.giver))));have ha2:updM M1 a (.dic (dirK F (·.giver))) a=some (.dic (dirK F (·.giver))):=Xg
 change wSs _ _ _ _ (updM M1 a (.dic (dirK F (·.giver))))
 generalize updM M1 a _=M2 at*;have hf2:=s2 _ _ hf;rw[La];walk_at "s";refine UP F Fer.mv (λx=>.tup [.str x.name,.str x.taker]) ?_ ?_ hΦ λD2 hD2=>?_
 ·repeat (first|walk_at "s"|simp only[hf2])
  exact⟨rfl,by lia,hf2⟩
 ·intro x hx M' s;simp only[sCm,XC,Y2,Ye,Yf,Yb,Y7]
  repeat (first|walk_at "s"|simp only[Fer.mv])
  try exact⟨rfl,rfl⟩
 rw[P2 F (·.taker)];have s3:=SameM.new hD2 (.lst ((F.map λy=>((Xv y.name:Key),MV.str y.taker)).map prM));have d3:updM M2 D2 (.lst ((F.map λy=>((Xv y.name:Key),MV.str y.taker)).map prM)) D2=some (.lst ((F.map λy=>((Xv y.name:Key),MV.str y.taker)).map prM)):=Xg;generalize updM M2 D2 _=M3 at*;walk_at "s";refine⟨_,d3,λb hb=>?_⟩;have s4:=s3.trans (SameM.new hb (.dic (dirK F (·.taker))));have hb4:updM M3 b (.dic (dirK F (·.taker))) b=some (.dic (dirK F (·.taker))):=Xg
 change wSs _ _ _ _ (updM M3 b (.dic (dirK F (·.taker))))
 generalize updM M3 b _=M4 at*;have ha4:=s4 _ _ ha2;have s5:=s2.trans s4;have hp4:=s5 _ _ hp;have hI4:=hI.keep s5;rw[L9]
 repeat (first|walk_at "s"|simp only[hp4])
 obtain⟨J,hJ⟩:∃J:Nat->Sm->MH->Prop,∀j σ M',J j σ M'↔M'=M4/\∃v v',σ=[some (.ref p),some (.ref f),some (.ref a),some (.ref b),v,v']:=⟨_,λ_ _ _=>Y8⟩;refine⟨J,(hJ _ _ _).mpr ⟨rfl,_,_,rfl⟩,λj σ M' h=>by rw[((hJ _ _ _).mp h).1];exact hp4,?_,?_⟩
 ·rintro j y σ M' hy h;obtain⟨rfl,v,v',rfl⟩:=(hJ _ _ _).mp h;obtain⟨I,hm,c,d,rfl,hc,hd⟩:=hI4.mem (XI hy);obtain⟨l12,hS⟩:=hE I hm;rw[L8]
  repeat (first|walk_at "s"|simp only[hd])
  obtain⟨J2,hJ2⟩:∃J2:Nat->Sm->MH->Prop,∀j σ M,J2 j σ M↔M=M'/\∃v',σ=[some (.ref p),some (.ref f),some (.ref a),some (.ref b),some (.tup [.str I.name,.ref c,.ref d]),v']:=⟨_,λ_ _ _=>Y8⟩;refine⟨J2,(hJ2 _ _ _).mpr ⟨rfl,_,rfl⟩,λj σ M h=>by rw[((hJ2 _ _ _).mp h).1];exact hd,?_,?_⟩
  ·rintro i x σ M'' hx h2;obtain⟨rfl,v',rfl⟩:=(hJ2 _ _ _).mp h2;obtain⟨hi,rfl⟩:=Yl hx;have hi:i<I.stps.length:=hi;obtain⟨e1,ns,n,e2⟩:=hS _ (XV hi);rw[L7];walk_at "s";refine⟨I.name,I.stps[i],a,b,F,rfl,ha4,hb4,nd,e1,Zbz e2,?_⟩;walk_at "s";exact(hJ2 _ _ _).mpr ⟨rfl,_,rfl⟩
  ·rintro σ M'' h2;obtain⟨rfl,v',rfl⟩:=(hJ2 _ _ _).mp h2
   try walk_at "s"
   exact(hJ _ _ _).mpr ⟨rfl,_,_,rfl⟩
 ·rintro σ M' h;obtain⟨rfl,_⟩:=(hJ _ _ _).mp h;exact q _ s5
theorem FroD.up{M:MH}:∀{n:Nat} {v v':MV},FroD n M v v'->FroD (n+1) M v v'
 |0,_,_,h=>.inl h
 |n+1,v,v',h=>by
  rcases h with h|⟨ps,h1,h2,h3,h4⟩
  ·exact .inl h
  ·exact .inr ⟨ps,h1,h2,h3,λp hp=>(h4 p hp).up⟩
theorem FroD.to{M:MH}{n m:Nat}{v v':MV}(h:FroD n M v v')(l:n≤m):FroD m M v v':=by
 obtain⟨d,rfl⟩:∃d,m=n+d:=⟨m - n,by lia⟩
 clear l
 induction d with
 |zero=>exact h
 |succ d ih=>exact ih.up
theorem fro_str{M:MH}{z:Str}:FroD 0 M (.str z) (.str z):=⟨.inr ⟨z,rfl⟩,rfl⟩
theorem fro_int{M:MH}{i:Int}:FroD 0 M (.int i) (.int i):=⟨.inl ⟨i,rfl⟩,rfl⟩
theorem UQ{M:MH}{n:Nat}{xs:List MV}(l:xs.length≤1000)(h:∀x∈xs,FroD n M x x):FroD (n+1) M (.tup xs) (.tup xs):=by
 have e1:(xs.map λx=>(x,x)).map (·.1)=xs:=by rw[XW];exact Bd xs
 have e2:(xs.map λx=>(x,x)).map (·.2)=xs:=by rw[XW];exact Bd xs
 refine .inr ⟨xs.map λx=>(x,x),.inl (by rw[e1]),by rw[e2],by rw[X7];exact l,λp hp=>?_⟩
 obtain⟨x,hx,rfl⟩:=XN.mp hp;exact h x hx
theorem FB{M:MH}{n:Nat}{a:Addr}{xs:List MV}(e:M a=some (.lst xs))(l:xs.length≤1000)(h:∀x∈xs,FroD n M x x):FroD (n+1) M (.ref a) (.tup xs):=by
 have e1:(xs.map λx=>(x,x)).map (·.1)=xs:=by rw[XW];exact Bd xs
 have e2:(xs.map λx=>(x,x)).map (·.2)=xs:=by rw[XW];exact Bd xs
 refine .inr ⟨xs.map λx=>(x,x),.inr ⟨a,rfl,by rw[e1];exact e⟩,by rw[e2],by rw[X7];exact l,λp hp=>?_⟩
 obtain⟨x,hx,rfl⟩:=XN.mp hp;exact h x hx
theorem Vm{M:MH}:∀U:Tm,FroD U.depth M U.mv U.mv
 |.num n=>UQ (xs:=[.str "num",.int n]) (by simp) (by
   intro x hx;simp only[Xt,Y1,or_false]at hx;rcases hx with rfl|rfl
   ·exact fro_str
   ·exact fro_int)
 |.var z=>UQ (xs:=[.str "var",.str z]) (by simp) (by
   intro x hx;simp only[Xt,Y1,or_false]at hx;rcases hx with rfl|rfl
   ·exact fro_str
   ·exact fro_str)
 |.two f a b=>by
  have ha:=Vm (M:=M) a;have hb:=Vm (M:=M) b;show FroD (1+max a.depth b.depth) M (.tup [.str f.str,a.mv,b.mv]) (.tup [.str f.str,a.mv,b.mv]);rw[Nat.add_comm];refine UQ (by simp) λx hx=>?_
  simp only[Xt,Y1,or_false]at hx;rcases hx with rfl|rfl|rfl
  ·exact fro_str.to (YD _)
  ·exact ha.to (by lia)
  ·exact hb.to (by lia)
 |.pick c a b=>by
  have hc:=Vm (M:=M) c;have ha:=Vm (M:=M) a;have hb:=Vm (M:=M) b;show FroD (1+max c.depth (max a.depth b.depth)) M (.tup [.str "pick",c.mv,a.mv,b.mv]) (.tup [.str "pick",c.mv,a.mv,b.mv]);rw[Nat.add_comm];refine UQ (by simp) λx hx=>?_
  simp only[Xt,Y1,or_false]at hx;rcases hx with rfl|rfl|rfl|rfl
  ·exact fro_str.to (YD _)
  ·exact hc.to (by lia)
  ·exact ha.to (by lia)
  ·exact hb.to (by lia)
theorem Zki{M:MH}{fs ns:List Str}{n:Nat}{S:Stp}(h:Zb fs ns n S):FroD 9 M S.mv S.mv:=by
 cases S with
 |take f x=>
  refine UQ (xs:=[.str "take",.str f,.str x]) (by simp) fun v hv=>?_
  simp only[Xt,Y1,or_false]at hv;rcases hv with rfl|rfl|rfl<;>exact fro_str.to (by decide)
 |give f U=>
  refine UQ (xs:=[.str "give",.str f,U.mv]) (by simp) fun v hv=>?_
  simp only[Xt,Y1,or_false]at hv;rcases hv with rfl|rfl|rfl
  ·exact fro_str.to (by decide)
  ·exact fro_str.to (by decide)
  ·exact(Vm U).to h.2.1
 |put f U=>
  refine UQ (xs:=[.str "put",.str f,U.mv]) (by simp) fun v hv=>?_
  simp only[Xt,Y1,or_false]at hv;rcases hv with rfl|rfl|rfl
  ·exact fro_str.to (by decide)
  ·exact fro_str.to (by decide)
  ·exact(Vm U).to h.2.1
 |jump U i=>
  refine UQ (xs:=[.str "jump",U.mv,.int i]) (by simp) fun v hv=>?_
  simp only[Xt,Y1,or_false]at hv;rcases hv with rfl|rfl|rfl
  ·exact fro_str.to (by decide)
  ·exact(Vm U).to h.1.1
  ·exact fro_int.to (by decide)
theorem Zlh{M:MH}{k:Nat}{fs:List Str}{I:Isl}{y:MV}(ok:IslOk k fs I)(h:IslIn M I y):FroD 11 M y I.mv:=by
 obtain⟨a,b,rfl,ha,hb⟩:=h;have l1:=ok.nv;have l2:=ok.ns;refine .inr ⟨[(.str I.name,.str I.name),(.ref a,.tup (I.prs.map prV)),(.ref b,.tup (I.stps.map Stp.mv))],.inl rfl,rfl,by simp,λp hp=>?_⟩
 simp only[Xt,Y1,or_false]at hp;rcases hp with rfl|rfl|rfl
 ·exact fro_str.to (by decide)
 ·refine FB ha (by rw[X7];lia) λx hx=>?_
  obtain⟨q,_,rfl⟩:=XN.mp hx;refine(UQ (n:=0) (xs:=[.str q.1,.int q.2]) (by simp) λv hv=>?_).to (by decide)
  simp only[Xt,Y1,or_false]at hv;rcases hv with rfl|rfl
  ·exact fro_str
  ·exact fro_int
 ·refine FB hb (by rw[X7];lia) λx hx=>?_
  obtain⟨S,hS,rfl⟩:=XN.mp hx;exact Zki (ok.st S hS)
theorem ZlD{M:MH}(f:Fer):FroD 1 M f.mv f.mv:=by
 refine UQ (xs:=[.str f.name,.str f.giver,.str f.taker,.int f.k,.int f.st]) (by simp) λv hv=>?_
 simp only[Xt,Y1,or_false]at hv;rcases hv with rfl|rfl|rfl|rfl|rfl
 ·exact fro_str
 ·exact fro_str
 ·exact fro_str
 ·exact fro_int
 ·exact fro_int
theorem ZiF{M:MH}{k:Nat}{fs:List Str}{Is:List Isl}{ys:List MV}{p:Addr}(hp:M p=some (.lst ys))(h:IslsIn M Is ys)(l:Is.length≤5)(ok:∀I∈Is,IslOk k fs I):FroD 12 M (.ref p) (.tup (Is.map Isl.mv)):=by
 have hl:=h.1;have e1:(ys.zip (Is.map Isl.mv)).map (·.1)=ys:=CV (by rw[X7];lia)
 have e2:(ys.zip (Is.map Isl.mv)).map (·.2)=Is.map Isl.mv:=List.map_snd_zip (by rw[X7];lia)
 refine .inr ⟨ys.zip (Is.map Isl.mv),.inr ⟨p,rfl,by rw[e1];exact hp⟩,by rw[e2],by rw[UB,X7];lia,λq hq=>?_⟩
 obtain⟨i,hi,rfl⟩:=Yd hq;rw[UB,X7]at hi;have hi1:i<ys.length:=by lia
 have hi2:i<Is.length:=by lia
 rw[List.getElem_zip,CW];exact Zlh (ok _ (XV hi2)) (h.2 i _ _ (Xc hi2) (Xc hi1))
noncomputable def fstM:MV->MV
 |.tup (x::_)=>x
 |v=>v
noncomputable abbrev Wz:SpM:=λvs M Q=>∃(p f:Addr) (ys:List MV) (W:Wld),vs=[.int W.w,.ref p,.ref f]/\M p=some (.lst ys)/\IslsIn M W.isl ys/\M f=some (.lst (W.fer.map Fer.mv))/\W.Good/\∀M',SameM M M'->Q W.mv M'
theorem FC:MonW Wz:=by walk_at "m"
theorem ZkY(T:Txt K mg t):FnOk P w K mg base CX0 56 t.f_made t.d_made ["width","islands","ferries"] (liSp K Wz):=by
 refine T.F_made.okM Zkm (Xw (Φ:=[("frozen",(Ua 13)),("is_width",AF),("refuse_ferry",AK),("refuse_ferry_names",AG),("refuse_islands",AJ),("refuse_wrong_ends",AM)]) (Xx T) (Xy T) rfl (fMc ⟨(Ce _),(fMc ⟨OT,(fMc ⟨OY,(fMc ⟨OU,(fMc ⟨OX,(fMc ⟨P1,nl0⟩)⟩)⟩)⟩)⟩)⟩) (fMc ⟨⟨_,_,_,FnOk.mono (OQ T 13) (by decide),T.m_frozen,T.F_frozen.kp,T.b_frozen⟩,(fMc ⟨⟨_,_,_,FnOk.mono (Zdr T) (by decide),T.m_is_width,T.F_is_width.kp,T.b_is_width⟩,(fMc ⟨⟨_,_,_,FnOk.mono (Z9h T) (by decide),T.m_refuse_ferry,T.F_refuse_ferry.kp,T.b_refuse_ferry⟩,(fMc ⟨⟨_,_,_,FnOk.mono (Z4j T) (by decide),T.m_refuse_ferry_names,T.F_refuse_ferry_names.kp,T.b_refuse_ferry_names⟩,(fMc ⟨⟨_,_,_,FnOk.mono (Z7B T) (by decide),T.m_refuse_islands,T.F_refuse_islands.kp,T.b_refuse_islands⟩,(fMc ⟨⟨_,_,_,FnOk.mono (Z5o T) (by decide),T.m_refuse_wrong_ends,T.F_refuse_wrong_ends.kp,T.b_refuse_wrong_ends⟩,nl0⟩)⟩)⟩)⟩)⟩)⟩):Fts P w K mg base 55 Lp [("frozen",(Ua 13)),("is_width",AF),("refuse_ferry",AK),("refuse_ferry_names",AG),("refuse_islands",AJ),("refuse_wrong_ends",AM)]) EM ZlM (fun vs M Q h=>?_) (fun vs M Q h=>?_)
 ·obtain⟨p,f,ys,W,rfl,_⟩:=h;rfl
 obtain⟨p,f,ys,W,rfl,hp,hI,hf,G,q⟩:=h;have hΦ:=Z2 (Φ:=[("frozen",Ua 13),("is_width",AF),("refuse_ferry",AK),("refuse_ferry_names",AG),("refuse_islands",AJ),("refuse_wrong_ends",AM)]) (fMc ⟨Ce 13,fMc ⟨OT,fMc ⟨OY,fMc ⟨OU,fMc ⟨OX,fMc ⟨P1,fun _ h=>nomatch h⟩⟩⟩⟩⟩⟩);show wSs _ _ _ [some (.int W.w),some (.ref p),some (.ref f),none,none] M;have w1:=G.w1;have w2:=G.w2;have i5:=G.i5;have f6:=G.f6;have hl:=hI.1;have nd:=UU.mp G.nd;rw[EM,Lo];walk_at "s";refine⟨W.w,rfl,by lia,by lia,?_⟩
 walk_at "s";rw[Ln]
 repeat (first|walk_at "s"|simp only[hp])
 refine YC (λz=>by lia) (λ_=>?_)
 rw[Lm]
 repeat (first|walk_at "s"|simp only[hf,X7])
 refine YC (λz=>by lia) (λ_=>?_)
 rw[Ll];walk_at "s";refine⟨f,W.fer,rfl,hf,f6,nd.1,λx hx=>G.fg _ (XN.mpr ⟨x,hx,rfl⟩),λM1 s1=>?_⟩;walk_at "s";have hf1:=s1 _ _ hf;rw[Lk];walk_at "s";refine UP W.fer Fer.mv (λx=>.str x.name) ?_ ?_ hΦ λD hD=>?_
 ·repeat (first|walk_at "s"|simp only[hf1])
  exact⟨rfl,by lia,hf1⟩
 ·intro x hx M' s;simp only[sCm,XC,Y2,Ye,Yf,Yb,Y7]
  repeat (first|walk_at "s"|simp only[Fer.mv])
  try exact⟨rfl,rfl⟩
 have eF:(W.fer.map λx=>MV.str x.name)=W.fns.map MV.str:=by unfold Wld.fns;rw[XW];rfl
 rw[eF];have s2:=s1.trans (SameM.new hD (.lst (W.fns.map MV.str)));have hD2:updM M1 D (.lst (W.fns.map MV.str)) D=some (.lst (W.fns.map MV.str)):=Xg;generalize updM M1 D _=M2 at*
 try walk_at "s"
 refine⟨W.w,p,D,W.isl,ys,W.fns,rfl,w2,s2 _ _ hp,hI.keep s2,i5,by unfold Wld.fns;rw[X7];exact f6,hD2,G.nd,λI hi=>G.ig _ (XN.mpr ⟨I,hi,rfl⟩),G.io,λM3 s3=>?_⟩
 have s4:=s2.trans s3;have hp3:=s4 _ _ hp;have hf3:=s4 _ _ hf;have hI3:=hI.keep s4;walk_at "s";rw[Lj];walk_at "s";refine UP ys (λy=>y) fstM ?_ ?_ hΦ λD hD=>?_
 ·repeat (first|walk_at "s"|simp only[hp3])
  exact⟨by simp[Src.items],by lia,hp3⟩
 ·intro y hy M' s;obtain⟨I,_,a,b,rfl,_⟩:=hI3.mem hy;simp only[sCm,XC,Y2,Ye,Yf,Yb,Y7];walk_at "s"
  rfl
 have eI:ys.map fstM=W.ins.map MV.str:=hI.fst λz r=>rfl;rw[eI];have s5:=s4.trans (SameM.new hD (.lst (W.ins.map MV.str)));have hD5:updM M3 D (.lst (W.ins.map MV.str)) D=some (.lst (W.ins.map MV.str)):=Xg;generalize updM M3 D _=M5 at*;have hf5:=s5 _ _ hf;rw[Li]
 repeat (first|walk_at "s"|simp only[hf5])
 obtain⟨J,hJ⟩:∃J:Nat->Sm->MH->Prop,∀j σ M',J j σ M'↔M'=M5/\∃v,σ=[some (.int W.w),some (.ref p),some (.ref f),some (.ref D),v]:=⟨_,λ_ _ _=>Y8⟩;refine⟨J,(hJ _ _ _).mpr ⟨rfl,_,rfl⟩,λj σ M' h=>by rw[((hJ _ _ _).mp h).1];exact hf5,?_,?_⟩
 ·rintro j y σ M' hy h;obtain⟨rfl,v,rfl⟩:=(hJ _ _ _).mp h;obtain⟨hj,rfl⟩:=Yl hy;have hj:j<W.fer.length:=hj;rw[Lh];walk_at "s";refine⟨W.fer[j],D,W.ins,rfl,hD5,G.fo _ (XV hj),?_⟩;walk_at "s";exact(hJ _ _ _).mpr ⟨rfl,_,rfl⟩
 ·rintro σ M' h;obtain⟨rfl,v,rfl⟩:=(hJ _ _ _).mp h;rw[Lg];walk_at "s";refine⟨p,f,ys,W.isl,W.fer,rfl,s5 _ _ hp,hI.keep s5,i5,hf5,f6,nd.1,λI hi=>⟨(G.io I hi).ns,λS hS=>⟨G.en I hi S hS,_,_,(G.io I hi).st S hS⟩⟩,λM6 s6=>?_⟩;have s7:=s5.trans s6;walk_at "s";rw[Lf];walk_at "s";refine⟨_,W.mv,rfl,?_,λM' s'=>q M' (s7.trans s')⟩;refine .inr ⟨[(.int W.w,.int W.w),(.ref p,.tup (W.isl.map Isl.mv)),(.ref f,.tup (W.fer.map Fer.mv))],.inl rfl,rfl,by simp,λz hz=>?_⟩
  simp only[Xt,Y1,or_false]at hz;rcases hz with rfl|rfl|rfl
  ·exact fro_int.to (by decide)
  ·exact ZiF (s7 _ _ hp) (hI.keep s7) i5 G.io
  ·refine(FB (n:=1) (s7 _ _ hf) (by rw[X7];lia) λx hx=>?_).to (by decide)
   obtain⟨y,_,rfl⟩:=XN.mp hx;exact ZlD y
noncomputable abbrev Cj:SpM:=λvs M Q=>∃(ns:List Int) (k:Nat),vs=[.frl (ns.map .int),.int k]/\Q (.int (ns.getD k 0)) M
theorem Z6t:MonW Cj:=by walk_at "m"
theorem Z9k(T:Txt K mg t):FnOk P w K mg base CX0 1 t.f__law_cell_at t.d__law_cell_at ["script","k"] (liSp K Cj):=by
 refine T.F__law_cell_at.okM Z99 (Xw (Φ:=[]) (Xx T) (Xy T) rfl nl0 nl0:Fts P w K mg base 0 MW []) F6 Z9Z (λvs M Q h=>?_) (λvs M Q h=>?_)
 ·obtain⟨ns,k,rfl,_⟩:=h;rfl
 obtain⟨ns,k,rfl,q⟩:=h;show wSs _ _ _ [some (.frl (ns.map .int)),some (.int k)] M;rw[F6,MU];walk_at "s";refine YC (λc=>?_) (λc=>?_)
 ·rw[X7]at c;have hk:k<ns.length:=by omega
  rw[MS];walk_at "s";have e:ns.getD k 0=ns[k]:=by simp[Yc,hk]
  rw[e]at q;exact⟨_,Z9 (by rw[Xq,Xc hk];rfl),q⟩
 ·rw[X7]at c;have e:ns.getD k 0=0:=by simp[Yc,CM.mpr (show ns.length≤k by omega)]
  rw[e]at q;rw[MR];walk_at "s";exact q
noncomputable abbrev AN:SpM:=λvs M Q=>∃i,vs=[.int i]/\Q (.bl true) M
theorem P3:MonW AN:=by walk_at "m"
theorem Zbw(T:Txt K mg t):FnOk P w K mg base CX0 1 t.f__law_whole t.d__law_whole ["found"] (liSp K AN):=by
 refine T.F__law_whole.okM Zbs (Xw (Φ:=[]) (Xx T) (Xy T) rfl nl0 nl0:Fts P w K mg base 0 MY []) F7 ZbS (λvs M Q h=>?_) (λvs M Q h=>?_)
 ·obtain⟨i,rfl,_⟩:=h;rfl
 obtain⟨i,rfl,q⟩:=h;show wSs _ _ _ [some (.int i)] M;rw[F7,MX];walk_at "s"
 simpa using q
noncomputable def alph:Str:="abcdefghijklmnopqrstuvwxyz"
theorem Zjg:alph.cps.toList.length=26:=by decide+kernel
theorem ZhP:alph.length≤16777216:=by decide+kernel
theorem FD{i:Int}(h0:0≤i)(h1:i<26):∃c,atI alph.cps.toList i=some c:=by
 have hk:i.toNat<alph.cps.toList.length:=by rw[Zjg];omega
 refine⟨alph.cps.toList[i.toNat],?_⟩;have:=Z9 (xs:=alph.cps.toList) (j:=i.toNat) (Xc hk)
 rwa [A5 h0]at this
theorem P4(c:Nat):(⟨#[c]⟩:Str).length=1:=rfl
theorem Zm1(a b:Str):(a++b).length=a.length+b.length:=by
 show(a.cps++b.cps).size=_;rw[Array.size_append]
 rfl
noncomputable def ltr(i:Int):Str:=match atI alph.cps.toList i with
 |some c=>⟨#[c]⟩
 |none=>Wc
noncomputable def YU(n k:Int):Str:=if n%3=2 then Txt.mul (ltr (n/192%26)) (1+(3*k+n/192)%7)++Txt.mul (ltr ((n/192%26+1+n/4992%25)%26)) (k/7)
 else Txt.mul (ltr (n/192%26)) (n/24%8%(1+n/3%8))++ltr ((n/4992+7*k)%26)++Txt.mul (ltr (n/192%26)) (1+n/3%8 - 1 - n/24%8%(1+n/3%8))
noncomputable abbrev VM:SpM:=λvs M Q=>∃(n k:Int),vs=[.int n,.int k]/\0≤k/\k≤50/\Q (.str (YU n k)) M
theorem P5:MonW VM:=by walk_at "m"
theorem P6(T:Txt K mg t):FnOk P w K mg base CX0 1 t.f__law_name t.d__law_name ["number","k"] (liSp K VM):=by
 refine T.F__law_name.okM Zcc (Xw (Φ:=[]) (Xx T) (Xy T) rfl nl0 nl0:Fts P w K mg base 0 Nb []) F8 ZcT (λvs M Q h=>?_) (λvs M Q h=>?_)
 ·obtain⟨n,k,rfl,_⟩:=h;rfl
 obtain⟨n,k,rfl,hk0,hk1,q⟩:=h;show wSs _ _ _ [some (.int n),some (.int k),none,none,none,none,none,none] M;rw[F8,Na];walk_at "s";rw[N9];walk_at "s";rw[N8];walk_at "s";have al:=ZhP;obtain⟨c1,a1⟩:=FD (i:=n/192%26) (by omega) (by omega)
 have e1:ltr (n/192%26)=⟨#[c1]⟩:=by unfold ltr;rw[a1]
 unfold YU at q;rw[e1]at q;refine YC (λc=>?_) (λc=>?_)
 ·rw[if_pos c]at q;rw[N7];walk_at "s";obtain⟨c2,a2⟩:=FD (i:=(n/192%26+1+n/4992%25)%26) (by omega) (by omega)
  have e2:ltr ((n/192%26+1+n/4992%25)%26)=⟨#[c2]⟩:=by unfold ltr;rw[a2]
  rw[e2]at q;refine⟨al,c2,a2,?_⟩;rw[N6];walk_at "s";refine⟨al,c1,a1,?_⟩;have l1:=BJ (z:=⟨#[c1]⟩) (i:=1+(3*k+n/192)%7) 8 (by omega) (Xl 1)
  have l2:=BJ (z:=⟨#[c2]⟩) (i:=k/7) 8 (by omega) (Xl 1)
  simp only[P4];exact⟨by decide,by omega,by omega,by decide,by omega,by omega,by omega,q⟩
 ·rw[if_neg c]at q;obtain⟨lo,hlo⟩:∃lo:Int,1+n/3%8=lo:=⟨_,rfl⟩;obtain⟨c3,a3⟩:=FD (i:=(n/4992+7*k)%26) (by omega) (by omega)
  have e3:ltr ((n/4992+7*k)%26)=⟨#[c3]⟩:=by unfold ltr;rw[a3]
  rw[e3,hlo]at q;rw[N5];walk_at "s";rw[hlo,N2];walk_at "s";have hp:(0:Int)<lo:=by omega
  refine⟨hp,?_⟩;obtain⟨at',hat⟩:∃at':Int,n/24%8%lo=at':=⟨_,rfl⟩;have h0:0≤at':=by rw[<- hat];exact UZ _ (by omega)
  have h1:at'<lo:=by rw[<- hat];exact UY _ hp
  rw[hat]at q;rw[hat,N0];walk_at "s";refine⟨al,c3,a3,?_⟩;rw[MZ];walk_at "s";have l1:=BJ (z:=⟨#[c1]⟩) (i:=at') 8 (by omega) (Xl 1)
  have l2:=BJ (z:=⟨#[c1]⟩) (i:=lo - 1 - at') 8 (by omega) (Xl 1)
  refine⟨al,c1,a1,?_⟩;simp only[P4,Zm1];exact⟨by decide,by omega,by omega,by omega,al,c1,a1,by decide,by omega,by omega,by omega,q⟩
theorem P7(c:Nat):∀(k:Nat) (acc:Array Nat),((Ze k #[c]).foldl (·++·) acc).toList=acc.toList++Ze k c
 |0,acc=>by simp
 |k+1,acc=>by
  rw[CP,W7,P7 c k,Array.toList_append,B9,CP];rfl
theorem mul_one(c:Nat)(i:Int):(Txt.mul (⟨#[c]⟩:Str) i).cps.toList=Ze i.toNat c:=by
 unfold Txt.mul;by_cases h:i<1
 ·rw[if_pos h];have:i.toNat=0:=by omega
  rw[this];rfl
 rw[if_neg h];by_cases h2:(i==1||(⟨#[c]⟩:Str).length==0)=true
 ·rw[if_pos h2];rcases(D7 _ _).mp h2 with e|e
  ·have:i=1:=by simpa using e
   subst this;rfl
  ·have:(⟨#[c]⟩:Str).length=0:=by simpa using e
   cases this
 ·rw[if_neg h2];show((Ze i.toNat #[c]).foldl (·++·) #[]).toList=_;rw[P7];rfl
theorem Zm2:alph.cps.toList=(XX 26).map (97+·):=by decide+kernel
theorem Ck{i:Int}(h0:0≤i)(h1:i<26):ltr i=⟨#[97+i.toNat]⟩:=by
 unfold ltr;have hk:i.toNat<26:=by omega
 have e:atI alph.cps.toList i=some (97+i.toNat):=by
  have:=Z9 (xs:=alph.cps.toList) (j:=i.toNat) (v:=97+i.toNat) (by rw[Zm2,Xq,List.getElem?_range hk];rfl)
  rwa [A5 h0]at this
 rw[e]
theorem FE(a b:Str):(a++b).cps.toList=a.cps.toList++b.cps.toList:=by
 show(a.cps++b.cps).toList=_;rw[Array.toList_append]
theorem FF{n:Int}(c:n%3=2){k:Int}(h0:0≤k)(h1:k≤10):∃c1 c2:Nat,c1≠c2/\97≤c1/\c1≤122/\97≤c2/\c2≤122/\c1=97+(n/192%26).toNat/\c2=97+((n/192%26+1+n/4992%25)%26).toNat/\(YU n k).cps.toList=Ze (1+(3*k+n/192)%7).toNat c1++Ze (k/7).toNat c2:=by
 refine⟨_,_,?_,?_,?_,?_,?_,rfl,rfl,?_⟩
 ·omega
 ·omega
 ·omega
 ·omega
 ·omega
 ·unfold YU;rw[if_pos c,FE,Ck (by omega) (by omega),Ck (by omega) (by omega),mul_one,mul_one]
theorem FG{n:Int}(c:¬n%3=2)(k:Int):∃at' lo c1:Nat,at'<lo/\lo≤8/\97≤c1/\c1≤122/\at'=(n/24%8%(1+n/3%8)).toNat/\
  (YU n k).cps.toList=Ze at' c1++(97+((n/4992+7*k)%26).toNat)::Ze (lo - 1 - at') c1:=by
 have h0:0≤n/24%8%(1+n/3%8):=UZ _ (by omega)
 have h1:n/24%8%(1+n/3%8)<1+n/3%8:=UY _ (by omega)
 refine⟨(n/24%8%(1+n/3%8)).toNat,(1+n/3%8).toNat,97+(n/192%26).toNat,by omega,by omega,by omega,by omega,rfl,?_⟩
 unfold YU;rw[if_neg c,FE,FE,Ck (by omega) (by omega),Ck (by omega) (by omega),mul_one,mul_one]
 have e:(1+n/3%8 - 1 - n/24%8%(1+n/3%8)).toNat=(1+n/3%8).toNat - 1 - (n/24%8%(1+n/3%8)).toNat:=by omega
 rw[e,B9];rfl
theorem Cl{n k:Int}(h0:0≤k)(h1:k≤10):Up (YU n k):=by
 have el:∀z:Str,z.length=z.cps.toList.length:=λz=>XU.symm;by_cases c:n%3=2
 ·obtain⟨c1,c2,ne,a1,a2,b1,b2,_,_,e⟩:=FF c h0 h1;refine⟨?_,?_,?_⟩
  ·rw[el,e,YY,Zd,Zd];omega
  ·rw[el,e,YY,Zd,Zd];omega
  ·intro x hx;rw[e]at hx;rcases YA.mp hx with hx|hx
   ·rw[B7 hx];exact⟨a1,a2⟩
   ·rw[B7 hx];exact⟨b1,b2⟩
 ·obtain⟨at',lo,c1,l1,l2,a1,a2,_,e⟩:=FG c k;refine⟨?_,?_,?_⟩
  ·rw[el,e,YY,YZ,Zd,Zd];omega
  ·rw[el,e,YY,YZ,Zd,Zd];omega
  ·intro x hx;rw[e]at hx;rcases YA.mp hx with hx|hx
   ·rw[B7 hx];exact⟨a1,a2⟩
   ·rcases Xt.mp hx with hx|hx
    ·rw[hx];omega
    ·rw[B7 hx];exact⟨a1,a2⟩
theorem AO{n k k':Int}(h0:0≤k)(h1:k≤10)(h0':0≤k')(h1':k'≤10)(h:YU n k=YU n k'):k=k':=by
 by_cases c:n%3=2
 ·obtain⟨c1,c2,ne,_,_,_,_,e1,e2,e⟩:=FF c h0 h1;obtain⟨d1,d2,_,_,_,_,_,f1,f2,f⟩:=FF c h0' h1';rw[<- e1]at f1;rw[<- e2]at f2;subst f1 f2;rw[<- h,e]at f;have p1:=congrArg (List.count d1) f;have p2:=congrArg (List.count d2) f;simp only[List.count_append,List.count_replicate,beq_iff_eq,if_true,ne,YI ne,if_false,Nat.add_zero,Nat.zero_add]at p1 p2
  try simp at p1 p2
  omega
 ·obtain⟨at',lo,c1,l1,l2,a1,a2,e0,e⟩:=FG c k;obtain⟨at2,lo2,c2,_,_,_,_,f0,f⟩:=FG c k';rw[<- e0]at f0;subst f0;rw[<- h,e]at f;have p:=congrArg (λl=>l[at2]?) f
  try simp only at p
  rw[Ug (by rw[Zd];exact Xl _),Ug (by rw[Zd];exact Xl _),Zd,Nat.sub_self]at p
  have p:97+((n/4992+7*k)%26).toNat=97+((n/4992+7*k')%26).toNat:=by simpa using p
  omega
noncomputable abbrev VN:SpM:=λvs M Q=>∃(n:Int) (a:Addr) (x y:Str),vs=[.int n,.ref a]/\M a=some (.lst [.str x,.str y])/\0≤n/\n≤10^8/\∀(U:Tm) M',SameM M M'->TmIn [x,y] U->Q U.mv M'
theorem P8:MonW VN:=by walk_at "m"
theorem Zci(T:Txt K mg t):FnOk P w K mg base CX0 1 t.f__law_term t.d__law_term ["number","names"] (liSp K VN):=by
 refine T.F__law_term.okM Zca (Xw (Φ:=[]) (Xx T) (Xy T) rfl nl0 nl0:Fts P w K mg base 0 Nm []) F9 ZcR (λvs M Q h=>?_) (λvs M Q h=>?_)
 ·obtain⟨n,a,x,y,rfl,_⟩:=h;rfl
 obtain⟨n,a,x,y,rfl,ha,n0,n1,q⟩:=h;show wSs _ _ _ [some (.int n),some (.ref a),none,none] M;obtain⟨z,hz,az⟩:∃z,(z=x\/z=y)/\atI [MV.str x,.str y] (n/8%2)=some (.str z):=by
  rcases(show n/8%2=0\/n/8%2=1 by lia)with e|e<;>rw[e]
  ·exact⟨x,.inl rfl,at0⟩
  ·exact⟨y,.inr rfl,at1⟩
 obtain⟨z',hz',az'⟩:∃z,(z=x\/z=y)/\atI [MV.str x,.str y] (n/224%2)=some (.str z):=by
  rcases(show n/224%2=0\/n/224%2=1 by lia)with e|e<;>rw[e]
  ·exact⟨x,.inl rfl,at0⟩
  ·exact⟨y,.inr rfl,at1⟩
 rw[F9,Nl]
 repeat (first|walk_at "s"|simp only[ha,az])
 rw[Nk];walk_at "s";intro p hp;obtain⟨r,hr⟩:∃r:Int,atI [MV.int (n/16%7 - 3),MV.int (n/16*1000000007%100000000000000000000)] (n/112%2)=some (.int r):=by
  rcases(show n/112%2=0\/n/112%2=1 by lia)with e|e<;>rw[e]
  ·exact⟨_,at0⟩
  ·exact⟨_,at1⟩
 refine⟨_,hr,?_⟩;have s1:=SameM.new hp (.lst [MV.int (n/16%7 - 3),MV.int (n/16*1000000007%100000000000000000000)]);generalize updM M p _=M1 at*;have ha1:=s1 _ _ ha;have rd:∀u,u∈ [z]->u∈ [x,y]:=λu hu=>by
  rw[Yk.mp hu];rcases hz with rfl|rfl<;>simp
 rw[Nj];walk_at "s";refine YC (λ_=>?_) (λc2=>?_)
 ·rw[Ni];walk_at "s";intro p2 hp2;have s2:=s1.trans (SameM.new hp2 (.lst [.tup [.str "var",.str z],.tup [.str "num",.int r]]));rcases(show n%2=0\/n%2=1 by lia)with e|e<;>rw[e]
  ·exact⟨_,at0,q (.var z) _ s2 ⟨by simp[Tm.depth],by simp[Tm.size],λu hu=>rd u hu⟩⟩
  ·exact⟨_,at1,q (.num r) _ s2 ⟨by simp[Tm.depth],by simp[Tm.size],λu hu=>by simp[Tm.reads]at hu⟩⟩
 rw[Nh];walk_at "s";refine YC (λc5=>?_) (λc5=>?_)
 ·rw[Ng];walk_at "s";intro p2 hp2;have s2:=s1.trans (SameM.new hp2 (.lst [.str "plus",.str "minus",.str "times"]));have fin:∀f:Form,Q (.tup [.str f.str,.tup [.str "var",.str z],.tup [.str "num",.int r]]) (updM M1 p2 (.lst [.str "plus",.str "minus",.str "times"])):=fun f=>
   q (.two f (.var z) (.num r)) _ s2 ⟨by simp[Tm.depth],by simp[Tm.size],λu hu=>rd u (by simpa [Tm.reads]using hu)⟩
  rcases(show n%8 - 2=0\/n%8 - 2=1\/n%8 - 2=2 by lia)with e|e|e<;>rw[e]
  ·exact⟨_,at0,fin .plus⟩
  ·exact⟨_,at1,fin .minus⟩
  ·exact⟨_,at2,fin .times⟩
 rw[Nf];walk_at "s";refine YC (λ_=>?_) (λ_=>?_)
 ·rw[Nd];walk_at "s";exact q (.pick (.two .less (.var z) (.num r)) (.num r) (.var z)) _ s1 ⟨by simp[Tm.depth],by simp[Tm.size],λu hu=>rd u (by simpa [Tm.reads]using hu)⟩
 ·rw[Nc]
  repeat (first|walk_at "s"|simp only[ha1,az'])
  refine q (.two .plus (.var z) (.var z')) _ s1 ⟨by simp[Tm.depth],by simp[Tm.size],λu hu=>?_⟩
  simp only[Tm.reads,Yb,Y7,Xt,Y1,or_false]at hu;rcases hu with rfl|rfl
  ·rcases hz with rfl|rfl<;>simp
  ·rcases hz' with rfl|rfl<;>simp
theorem P9{Φ:List (Str×SpM)}{own:List Str}{fr:List Nat}{src:ISr}{tg:ITg}{test elt:IE}{σ:Sm}{M:MH}{Q:QM}{α:Type}(xs:List α)(f g:α->MV)(b:α->Bool)
  (hs:wSr Φ src σ M λS M1=>S.items=xs.map f/\xs.length<sizeLine/\S.okF M1/\M1=M)
  (ht:∀x∈xs,∀M',SameM M M'->wTg tg (f x) (sCm own fr σ) λσ2=>wE Φ test σ2 M' λv M2=>v=.bl (b x)/\M2=M'/\(b x=true->wE Φ elt σ2 M' λy M2=>y=g x/\M2=M'))
  (hΦ:∀(j:Nat) f sp,Φ[j]?=some (f,sp)->MonW sp) (q:∀D,M D=none->Q (.ref D) (updM M D (.lst ((xs.filter b).map g)))):wE Φ (.comp own fr src tg (.some test) elt) σ M Q:=by
 rw[Ax];refine mon_sr hΦ src (λS M1 ⟨h1,h2,h3,h4⟩=>?_) hs;subst h4;have hl:S.len=xs.length:=by rw[<- S.items_len,h1,X7]
 refine⟨by rw[hl];exact h2,λD hD=>⟨λi ys M2=>M2=updM M1 D (.lst ys)/\ys=((xs.take i).filter b).map g,⟨rfl,by simp⟩,?_,?_,?_⟩⟩
 ·rintro i ys M2 ⟨rfl,rfl⟩;refine⟨Xg,?_,?_⟩
  ·rw[X7];have h1:=List.length_filter_le b (xs.take i);rw[Yz]at h1;lia
  cases S with
  |tup _=>trivial
  |rng _ _=>trivial
  |rst _ _ _=>trivial
  |dic _ _ _=>exact h3.elim
  |str _=>trivial
  |lst a zs=>exact SameM.new hD _ _ _ h3
 ·rintro i x ys M2 hx ⟨rfl,rfl⟩;rw[h1]at hx;obtain⟨hi,rfl⟩:=Yl hx;refine UN tg (λσ2 h=>?_) (ht xs[i] (XV hi) _ (SameM.new hD (.lst (((xs.take i).filter b).map g))));rw[wI];refine Xd hΦ test (λv M2 ⟨e1,e2,e3⟩=>?_) h;subst e1 e2;have et:xs.take (i+1)=xs.take i++[xs[i]]:=by rw[YN,Xc hi];rfl
  refine⟨b xs[i],rfl,?_⟩;by_cases hb:b xs[i]=true
  ·rw[if_pos hb];refine Xd hΦ elt (λy M2 ⟨e1,e2⟩=>?_) (e3 hb);subst e1 e2;refine⟨Xg,BO,?_⟩;rw[et,List.filter_append,Y6,List.filter_cons_of_pos hb]
   rfl
  ·rw[if_neg hb];refine⟨rfl,?_⟩;rw[et,List.filter_append,Y6,List.filter_cons_of_neg hb];simp
 ·rintro ys M2 ⟨rfl,rfl⟩;rw[hl,WU (Xl _),BX h3];exact q D hD
noncomputable abbrev AQ:SpM:=λvs M Q=>∃(n:Int) (z:Str) (a f:Addr) (x y:Str) (F:List Fer) (m:Nat),vs=[.int n,.str z,.ref a,.ref f,.int m]/\M a=some (.lst [.str x,.str y])/\M f=some (.lst (F.map Fer.mv))/\F.length≤6/\0≤n/\n≤10^8/\m≤100/\(F.map (·.name)).Nodup/\
 ∀(S:Stp) M',SameM M M'->Zb (F.map (·.name)) [x,y] m S->Vk F z S->Q S.mv M'
theorem Z8K:MonW AQ:=by walk_at "m"
theorem Pa{F:List Fer}(nd:(F.map (·.name)).Nodup){u v:Fer}(hu:u∈F)(hv:v∈F)(e:u.name=v.name):u=v:=by
 obtain⟨i,hi,rfl⟩:=Yd hu;obtain⟨j,hj,rfl⟩:=Yd hv;have:i=j:=by
  refine(CU (xs:=F.map (·.name)) (h₀:=by simpa using hi) (h₁:=by simpa using hj) nd).mp ?_
  rw[CW,CW];exact e
 subst this;rfl
theorem Pb{F:List Fer}{b:Fer->Bool}{i:Int}(h:F.filter b≠ []):∃v∈F,b v=true/\atI ((F.filter b).map λv=>MV.str v.name) (i%((F.filter b).length:Int))=some (.str v.name):=by
 have hl:0<(F.filter b).length:=CQ.mpr h;have h0:=UZ i (b:=((F.filter b).length:Int)) (by lia)
 have h1:=UY i (b:=((F.filter b).length:Int)) (by lia)
 obtain⟨j,hj⟩:∃j:Nat,i%((F.filter b).length:Int)=(j:Int):=⟨(i%((F.filter b).length:Int)).toNat,by lia⟩
 have hj2:j<(F.filter b).length:=by lia
 have hm:=XV hj2;rw[CY]at hm;refine⟨(F.filter b)[j],hm.1,hm.2,?_⟩;rw[hj];exact Z9 (by rw[Xq,Xc hj2];rfl)
theorem Zcj(T:Txt K mg t):FnOk P w K mg base CX0 2 t.f__law_step t.d__law_step ["number","name","names","ferries","many"] (liSp K AQ):=by
 refine T.F__law_step.okM Zcb (Xw (Φ:=[("_law_term",VN)]) (Xx T) (Xy T) rfl (fMc ⟨P8,nl0⟩) (fMc ⟨⟨_,_,_,(FnOk.mono (Zci T) (by decide)),T.m__law_term,T.F__law_term.kp,T.b__law_term⟩,nl0⟩):Fts P w K mg base 1 Nw [("_law_term",VN)]) Fc ZcS (fun vs M Q h=>?_) (fun vs M Q h=>?_)
 ·obtain⟨n,z,a,f,x,y,F,m,rfl,_⟩:=h;rfl
 obtain⟨n,z,a,f,x,y,F,m,rfl,ha,hf,h6,n0,n1,hm,nd,q⟩:=h;show wSs _ _ _ [some (.int n),some (.str z),some (.ref a),some (.ref f),some (.int m),none,none,none] M;have hΦ:=(Z2 (Φ:=[("_law_term",VN)]) (fMc ⟨P8,nl0⟩));rw[Fc,Nv];walk_at "s";refine P9 F Fer.mv (λv=>.str v.name) (λv=>decide (v.taker=z)) ?_ ?_ hΦ λD1 hD1=>?_
 ·repeat (first|walk_at "s"|simp only[hf])
  exact⟨rfl,by lia,hf⟩
 ·intro v hv M' s;simp only[sCm,XC,Y2,Ye,Yf,Yb,Y7]
  repeat (first|walk_at "s"|simp only[Fer.mv])
  try simp
 have s1:=SameM.new hD1 (.lst ((F.filter λv=>decide (v.taker=z)).map λv=>MV.str v.name));have d1:updM M D1 (.lst ((F.filter λv=>decide (v.taker=z)).map λv=>MV.str v.name)) D1=some (.lst ((F.filter λv=>decide (v.taker=z)).map λv=>MV.str v.name)):=Xg;generalize updM M D1 _=M1 at*;have hf1:=s1 _ _ hf;rw[Nu];walk_at "s";refine P9 F Fer.mv (λv=>.str v.name) (λv=>decide (v.giver=z)) ?_ ?_ hΦ λD2 hD2=>?_
 ·repeat (first|walk_at "s"|simp only[hf1])
  exact⟨rfl,by lia,hf1⟩
 ·intro v hv M' s;simp only[sCm,XC,Y2,Ye,Yf,Yb,Y7]
  repeat (first|walk_at "s"|simp only[Fer.mv])
  try simp
 have s2:=SameM.new hD2 (.lst ((F.filter λv=>decide (v.giver=z)).map λv=>MV.str v.name));have d2:updM M1 D2 (.lst ((F.filter λv=>decide (v.giver=z)).map λv=>MV.str v.name)) D2=some (.lst ((F.filter λv=>decide (v.giver=z)).map λv=>MV.str v.name)):=Xg;generalize updM M1 D2 _=M2 at*;have d12:=s2 _ _ d1;have ss:=s1.trans s2;have ha2:=ss _ _ ha;rw[Nt];walk_at "s";have last:∀M3,SameM M2 M3->wSs ([("_law_term",VN)]:List (Str×SpM)) Fa {nx:=fun x M'=>Q MV.non M',rt:=Q} [some (.int n),some (.str z),some (.ref a),some (.ref f),some (.int m),some (.ref D1),some (.ref D2),some (.int (n/128))] M3:=by
  intro M3 s3;have ha3:=s3 _ _ ha2;have st:=ss.trans s3;rw[Fa];walk_at "s";refine YC (λ_=>?_) (λ_=>?_)
  ·rw[No];walk_at "s";refine⟨n/128,a,x,y,rfl,ha3,by lia,by lia,λU M4 s4 hU=>?_⟩
   walk_at "s";have hp:(0:Int)<(m:Int)+1:=by lia
   exact⟨hp,q (.jump U (n/8%(m+1))) M4 (st.trans s4) ⟨hU,UZ _ (by lia),by have:=UY (n/8) hp;lia⟩ trivial⟩
  ·rw[Nn];obtain⟨u,hu,au⟩:∃u,u∈ [x,y]/\atI [MV.str x,.str y] (n/8%2)=some (.str u):=by
    rcases(show n/8%2=0\/n/8%2=1 by lia)with e|e<;>rw[e]
    ·exact⟨x,by simp,at0⟩
    ·exact⟨y,by simp,at1⟩
   repeat (first|walk_at "s"|simp only[ha3,au])
   refine⟨n/128,a,x,y,rfl,ha3,by lia,by lia,λU M4 s4 hU=>?_⟩
   try walk_at "s"
   exact q (.put u U) M4 (st.trans s4) ⟨hu,hU⟩ trivial
 have mid:∀M3,SameM M2 M3->wSs ([("_law_term",VN)]:List (Str×SpM)) Fb {nx:=fun x M'=>Q MV.non M',rt:=Q} [some (.int n),some (.str z),some (.ref a),some (.ref f),some (.int m),some (.ref D1),some (.ref D2),some (.int (n/128))] M3:=by
  intro M3 s3;rw[Fb];walk_at "s";refine YC (λ_=>?_) (λ_=>last M3 s3);intro p hp;have s4:=s3.trans (SameM.new hp (.lst []));have p4:updM M3 p (.lst []) p=some (.lst []):=Xg;generalize updM M3 p _=M4 at*;have d4:=s4 _ _ d2;have ha4:=s4 _ _ ha2;refine E5 d4 p4 ?_;by_cases hn:(F.filter λv=>decide (v.giver=z))=[]
  ·rw[hn];exact last M4 s4
  ·have he:((F.filter λv=>decide (v.giver=z)).map λv=>MV.str v.name).isEmpty=false:=by
    cases e:F.filter λv=>decide (v.giver=z)with
    |nil=>exact absurd e hn
    |cons _ _=>rfl
   rw[he,if_pos rfl,Np];obtain⟨v,hv,hb,av⟩:=Pb (i:=n/8) hn;have hl:0<(F.filter λv=>decide (v.giver=z)).length:=CQ.mpr hn
   repeat (first|walk_at "s"|simp only[d4,X7,av])
   refine⟨by lia,?_⟩
   try repeat (first|walk_at "s"|simp only[av])
   refine⟨n/128,a,x,y,rfl,ha4,by lia,by lia,λU M5 s5 hU=>?_⟩
   try walk_at "s"
   refine q (.give v.name U) M5 ((ss.trans s4).trans s5) ⟨XN.mpr ⟨v,hv,rfl⟩,hU⟩ (λu hu e=>?_);rw[Pa nd hu hv e];exact of_decide_eq_true hb
 rw[Nr];walk_at "s";refine YC (λ_=>?_) (λ_=>mid M2 (SameM.refl _));intro p hp;have s4:=SameM.new hp (.lst []);have p4:updM M2 p (.lst []) p=some (.lst []):=Xg;generalize updM M2 p _=M4 at*;have d4:=s4 _ _ d12;have ha4:=s4 _ _ ha2;refine E5 d4 p4 ?_;by_cases hn:(F.filter λv=>decide (v.taker=z))=[]
 ·rw[hn];exact mid M4 s4
 ·have he:((F.filter λv=>decide (v.taker=z)).map λv=>MV.str v.name).isEmpty=false:=by
   cases e:F.filter λv=>decide (v.taker=z)with
   |nil=>exact absurd e hn
   |cons _ _=>rfl
  rw[he,if_pos rfl,Nq];obtain⟨v,hv,hb,av⟩:=Pb (i:=n/8) hn;have hl:0<(F.filter λv=>decide (v.taker=z)).length:=CQ.mpr hn;obtain⟨u,hu,au⟩:∃u,u∈ [x,y]/\atI [MV.str x,.str y] (n/128%2)=some (.str u):=by
   rcases(show n/128%2=0\/n/128%2=1 by lia)with e|e<;>rw[e]
   ·exact⟨x,by simp,at0⟩
   ·exact⟨y,by simp,at1⟩
  repeat (first|walk_at "s"|simp only[d4,X7,av,ha4,au])
  refine⟨by lia,?_⟩
  try repeat (first|walk_at "s"|simp only[av,ha4,au])
  refine q (.take v.name u) M4 (ss.trans s4) ⟨XN.mpr ⟨v,hv,rfl⟩,hu⟩ (λu' hu' e=>?_);rw[Pa nd hu' hv e];exact of_decide_eq_true hb
noncomputable abbrev Cm:SpM:=λvs M Q=>∃(n nm ar:Int) (k:Nat) (f:Addr) (F:List Fer),vs=[.int n,.int k,.int nm,.ref f,.int ar]/\M f=some (.lst (F.map Fer.mv))/\F.length≤6/\(F.map (·.name)).Nodup/\0≤n/\n≤10^60/\k≤4/\
 ∀(I:Isl) (a b:Addr) M',SameM M M'->M a=none->M b=none->a≠b->M' a=some (.lst (I.prs.map prV))->M' b=some (.lst (I.stps.map Stp.mv))->I.name=YU nm k->(∀w,1≤w->IslOk w (F.map (·.name)) I)->(∀s∈I.stps,Vk F I.name s)->Q (.tup [.str I.name,.ref a,.ref b]) M'
theorem Z6R:MonW Cm:=by walk_at "m"
theorem Zak(T:Txt K mg t):FnOk P w K mg base CX0 3 t.f__law_island t.d__law_island ["number","k","naming","ferries","around"] (liSp K Cm):=by
 refine T.F__law_island.okM Zaf (Xw (Φ:=[("_law_name",VM),("_law_step",AQ)]) (Xx T) (Xy T) rfl (fMc ⟨P5,(fMc ⟨Z8K,nl0⟩)⟩) (fMc ⟨⟨_,_,_,(FnOk.mono (P6 T) (by decide)),T.m__law_name,T.F__law_name.kp,T.b__law_name⟩,(fMc ⟨⟨_,_,_,(FnOk.mono (Zcj T) (by decide)),T.m__law_step,T.F__law_step.kp,T.b__law_step⟩,nl0⟩)⟩):Fts P w K mg base 2 NK [("_law_name",VM),("_law_step",AQ)]) Fe ZaD (fun vs M Q h=>?_) (fun vs M Q h=>?_)
 ·obtain⟨n,nm,ar,k,f,F,rfl,_⟩:=h;rfl
 obtain⟨n,nm,ar,k,f,F,rfl,hf,h6,nd,n0,n1,hk,q⟩:=h;show wSs _ _ _ [some (.int n),some (.int k),some (.int nm),some (.ref f),some (.int ar),none,none,none,none,none,none,none] M;rw[Fe,NJ];walk_at "s";refine⟨nm,k,rfl,by lia,by lia,?_⟩
 obtain⟨z,hz⟩:∃z,YU nm k=z:=⟨_,rfl⟩;rw[hz]at q ⊢;rw[NI];walk_at "s";refine⟨nm,9,rfl,by lia,by lia,?_⟩
 refine⟨nm,10,rfl,by lia,by lia,?_⟩
 walk_at "s";intro pn hpn;obtain⟨x,hx⟩:∃x,YU nm 9=x:=⟨_,rfl⟩;obtain⟨y,hy⟩:∃y,YU nm 10=y:=⟨_,rfl⟩;have gx:Up x:=hx▸Cl (by decide) (by decide)
 have gy:Up y:=hy▸Cl (by decide) (by decide)
 have xy:x≠y:=λe=>by
  have:=AO (n:=nm) (k:=9) (k':=10) (by decide) (by decide) (by decide) (by decide) (by rw[hx,hy];exact e)
  lia
 rw[hx,hy];have s1:=SameM.new hpn (.lst [.str x,.str y]);have a1:updM M pn (.lst [.str x,.str y]) pn=some (.lst [.str x,.str y]):=Xg;generalize updM M pn _=M1 at*;rw[NH]
 repeat (first|walk_at "s"|simp only[a1])
 intro pp hpp;have s2:=SameM.new hpp (.lst [.tup [.str x,.int (n%2)],.tup [.str y,.int (n/2%2)]]);have b2:updM M1 pp (.lst [.tup [.str x,.int (n%2)],.tup [.str y,.int (n/2%2)]]) pp=some (.lst ([(x,n%2),(y,n/2%2)].map prV)):=Xg;generalize updM M1 pp _=M2 at*;have a2:=s2 _ _ a1;have fpp:=s1.free hpp;rw[NG];walk_at "s";obtain⟨m,hm,hm7⟩:∃m:Nat,n/4%7=(m:Int)/\m<7:=⟨(n/4%7).toNat,by lia,by lia⟩
 rw[hm,NF];walk_at "s";obtain⟨en,hen,hen2⟩:∃en:Nat,(if n/28%4<ar then(1:Int)else 0)=(en:Int)/\en≤1:=by
  by_cases c:n/28%4<ar
  ·exact⟨1,by rw[if_pos c];rfl,by decide⟩
  ·exact⟨0,by rw[if_neg c];rfl,by decide⟩
 rw[hen,NE];walk_at "s";rw[ND];walk_at "s";intro ps hps;have s3:=SameM.new hps (.lst []);have c3:updM M2 ps (.lst []) ps=some (.lst []):=Xg;have fps:=(s1.trans s2).free hps;have pps:=neM b2 hps;have old:∀a o,M2 a=some o->a≠ps:=λa o h=>neM h hps;generalize updM M2 ps _=M3 at*;rw[NC];walk_at "s";obtain⟨J,hJ⟩:∃J:Nat->Sm->MH->Prop,∀j σ M',J j σ M'↔∃(n':Int) (Ss:List Stp) (v:Option MV),σ=[some (.int n'),some (.int k),some (.int nm),some (.ref f),some (.int ar),some (.str z),some (.ref pn),some (.ref pp),some (.int m),some (.int en),some (.ref ps),v]/\0≤n'/\Ss.length=j/\SameM M2 M'/\M' ps=some (.lst (Ss.map Stp.mv))/\(∀S∈Ss,Zb (F.map (·.name)) [x,y] (m+en) S/\Vk F z S):=⟨_,λ_ _ _=>Y8⟩;refine⟨by lia,by lia,J,(hJ _ _ _).mpr ⟨n/112,[],_,rfl,by lia,rfl,s3,c3,λS hS=>nomatch hS⟩,λ_ _ _ _=>trivial,?_,?_⟩
 ·rintro j u σ M' hu h;obtain⟨n',Ss,v,rfl,p0,hl,s4,c4,hS⟩:=(hJ _ _ _).mp h;obtain⟨hj,rfl⟩:=Ww hu;rw[NB]
  repeat (first|walk_at "s"|simp only[c4])
  refine⟨⟨_,rfl⟩,n'%100000000,z,pn,f,x,y,F,m+en,rfl,s4 _ _ a2,s4 _ _ (s2 _ _ (s1 _ _ hf)),h6,by lia,by lia,by lia,nd,λS M5 s5 hS1 hS2=>?_⟩
  have c5:=s5 _ _ c4
  repeat (first|walk_at "s"|simp only[c5,X7])
  refine⟨by lia,?_⟩
  rw[NA];walk_at "s";refine(hJ _ _ _).mpr ⟨n'/100000000,Ss++[S],_,rfl,by lia,by simp[hl],λa o h=>by rw[Xp (old a o h)];exact s5 _ _ (s4 _ _ h),by rw[Xg,Y6];rfl,λS' hS'=>?_⟩
  rcases YA.mp hS' with h'|h'
  ·exact hS _ h'
  ·rw[Yk.mp h'];exact⟨hS1,hS2⟩
 ·rintro σ M' h;obtain⟨n',Ss,v,rfl,p0,hl,s4,c4,hS⟩:=(hJ _ _ _).mp h;have hl:Ss.length=m:=hl;have fin:∀(M5:MH) (Ss:List Stp) (v:Option MV),SameM M2 M5->M5 ps=some (.lst (Ss.map Stp.mv))->Ss.length=m+en->(∀S∈Ss,Zb (F.map (·.name)) [x,y] (m+en) S/\Vk F z S)->wSs ([("_law_name",VM),("_law_step",AQ)]:List (Str×SpM)) Fd {nx:=fun x M'=>Q MV.non M',rt:=Q} [some (.int n'),some (.int k),some (.int nm),some (.ref f),some (.int ar),some (.str z),some (.ref pn),some (.ref pp),some (.int m),some (.int en),some (.ref ps),v] M5:=by
   intro M5 Ss v s5 c5 hl5 hS5;rw[Fd];walk_at "s";refine q ⟨z,[(x,n%2),(y,n/2%2)],Ss⟩ pp ps M5 ((s1.trans s2).trans s5) fpp fps pps (s5 _ _ b2) c5 rfl (λw hw=>?_) (λS hS=>(hS5 S hS).2);refine⟨by simp,?_,?_,?_,?_,?_⟩
   ·show Ss.length≤12;lia
   ·show [x,y].Nodup;simp[xy]
   ·intro u hu;have hu:u∈ [x,y]:=hu;simp only[Xt,Y1,or_false]at hu;rcases hu with rfl|rfl
    ·exact gx
    ·exact gy
   ·intro p hp;have:=Oz hw;have hp:p∈ [(x,n%2),(y,n/2%2)]:=hp;simp only[Xt,Y1,or_false]at hp;rcases hp with rfl|rfl
    ·exact⟨by show 0≤n%2;lia,by show n%2<_;lia⟩
    ·exact⟨by show 0≤n/2%2;lia,by show n/2%2<_;lia⟩
   ·intro S hS;show Zb _ [x,y] Ss.length S;rw[hl5];exact(hS5 S hS).1
  rw[Nz];walk_at "s";refine YC (λc=>?_) (λc=>?_)
  ·rw[Ny]
   repeat (first|walk_at "s"|simp only[c4,X7])
   have e1:en=1:=by lia
   refine⟨⟨_,rfl⟩,by lia,fin _ (Ss++[.jump (.num 1) 0]) _ (λa o h=>by rw[Xp (old a o h)];exact s4 _ _ h) (by rw[Xg,Y6];rfl) (by simp;lia) λS' hS'=>?_⟩
   rcases YA.mp hS' with h'|h'
   ·exact hS _ h'
   ·rw[Yk.mp h'];exact⟨⟨⟨by simp[Tm.depth],by simp[Tm.size],λu hu=>by simp[Tm.reads]at hu⟩,by lia,by lia⟩,trivial⟩
  ·exact fin M' Ss _ s4 c4 (by lia) hS
structure IslsNew (M0 M:MH) (Is:List Isl) (ys:List MV):Prop where
 len:ys.length=Is.length
 at_:∀(i:Nat) (I:Isl) (y:MV),Is[i]?=some I->ys[i]?=some y->∃a b,y=.tup [.str I.name,.ref a,.ref b]/\M0 a=none/\M0 b=none/\M a=some (.lst (I.prs.map prV))/\M b=some (.lst (I.stps.map Stp.mv))
theorem IslsNew.inn{M0 M:MH}{Is:List Isl}{ys:List MV}(h:IslsNew M0 M Is ys):IslsIn M Is ys:=⟨h.len,λi I y a b=>by
 obtain⟨c,d,e,_,_,h1,h2⟩:=h.at_ i I y a b;exact⟨c,d,e,h1,h2⟩⟩
theorem IslsNew.keep{M0 M M':MH}{Is:List Isl}{ys:List MV}(h:IslsNew M0 M Is ys)(s:∀a o,M a=some o->M0 a=none->M' a=some o):IslsNew M0 M' Is ys:=⟨h.len,λi I y a b=>by
 obtain⟨c,d,e,n1,n2,h1,h2⟩:=h.at_ i I y a b;exact⟨c,d,e,n1,n2,s _ _ h1 n1,s _ _ h2 n2⟩⟩
theorem Pc{α:Type}{v y:α}{xs:List α}{i:Nat}(h:(xs++[v])[i]?=some y):xs[i]?=some y\/(i=xs.length/\y=v):=by
 rw[List.getElem?_append]at h;split at h
 ·exact .inl h
 ·rename_i e
  obtain⟨d,hd⟩:∃d,i - xs.length=d:=⟨_,rfl⟩;rw[hd]at h;cases d with
  |zero=>simp at h;exact .inr ⟨by lia,h.symm⟩
  |succ d=>simp at h
theorem IslsNew.add{M0 M:MH}{Is:List Isl}{ys:List MV}(h:IslsNew M0 M Is ys){I:Isl}{a b:Addr}(n1:M0 a=none)(n2:M0 b=none)(h1:M a=some (.lst (I.prs.map prV)))(h2:M b=some (.lst (I.stps.map Stp.mv))):IslsNew M0 M (Is++[I]) (ys++[.tup [.str I.name,.ref a,.ref b]]):=by
 refine⟨by simp[h.len],λi J y hJ hy=>?_⟩
 have l:=h.len;rcases Pc hJ with hJ'|⟨e1,rfl⟩<;>rcases Pc hy with hy'|⟨e2,rfl⟩
 ·exact h.at_ i J y hJ' hy'
 ·have:=(XE.mp hJ').1;lia
 ·have:=(XE.mp hy').1;lia
 ·exact⟨a,b,rfl,n1,n2,h1,h2⟩
noncomputable def fnm(nm:Int)(i:Nat):Str:=YU nm (5+(i:Int))
noncomputable def inm(nm:Int)(i:Nat):Str:=YU nm (i:Int)
theorem Pd{f:Nat->Str}{n:Nat}(h:∀a b,a<n->b<n->f a=f b->a=b):((XX n).map f).Nodup:=by
 unfold List.Nodup;rw[CT];exact List.Pairwise.imp_of_mem (λha hb ne e=>ne (h _ _ (UC.mp ha) (UC.mp hb) e)) List.nodup_range
noncomputable abbrev WB:SpM:=λvs M Q=>∃(ns:List Int) (ar:Int),vs=[.frl (ns.map .int),.int ar]/\
 ∀(W:Wld) (pi pf:Addr) (ys:List MV) M',SameM M M'->W.Good->1≤W.isl.length->M pi=none->M pf=none->pi≠pf->M' pi=some (.lst ys)->IslsIn M' W.isl ys->M' pf=some (.lst (W.fer.map Fer.mv))->Q (.tup [.int W.w,.ref pi,.ref pf]) M'
theorem FH:MonW WB:=by walk_at "m"
theorem Zaj(T:Txt K mg t):FnOk P w K mg base CX0 4 t.f__law_things t.d__law_things ["script","around"] (liSp K WB):=by
 refine T.F__law_things.okM Zae (Xw (Φ:=[("_law_cell_at",Cj),("_law_island",Cm),("_law_name",VM)]) (Xx T) (Xy T) rfl (fMc ⟨Z6t,(fMc ⟨Z6R,(fMc ⟨P5,nl0⟩)⟩)⟩) (fMc ⟨⟨_,_,_,(FnOk.mono (Z9k T) (by decide)),T.m__law_cell_at,T.F__law_cell_at.kp,T.b__law_cell_at⟩,(fMc ⟨⟨_,_,_,(FnOk.mono (Zak T) (by decide)),T.m__law_island,T.F__law_island.kp,T.b__law_island⟩,(fMc ⟨⟨_,_,_,(FnOk.mono (P6 T) (by decide)),T.m__law_name,T.F__law_name.kp,T.b__law_name⟩,nl0⟩)⟩)⟩):Fts P w K mg base 3 O0 [("_law_cell_at",Cj),("_law_island",Cm),("_law_name",VM)]) Ff ZaC (fun vs M Q h=>?_) (fun vs M Q h=>?_)
 ·obtain⟨ns,ar,rfl,_⟩:=h;rfl
 obtain⟨ns,ar,rfl,q⟩:=h;show wSs _ _ _ [some (.frl (ns.map .int)),some (.int ar),none,none,none,none,none,none,none,none,none,none,none] M;rw[Ff,NZ];walk_at "s";refine⟨ns,0,rfl,?_⟩;walk_at "s";rw[NY];walk_at "s";refine⟨ns,1,rfl,?_⟩;walk_at "s";obtain⟨hd,hhd,hd0⟩:∃hd:Int,ns.getD 0 0%1000000000=hd/\0≤hd:=⟨_,rfl,by lia⟩
 obtain⟨nm,hnm⟩:∃nm:Int,ns.getD 1 0%1000000000=nm:=⟨_,rfl⟩;rw[hhd,hnm,NX];walk_at "s";intro p0 hp0;obtain⟨w,hw,w1,w2⟩:∃w:Nat,atI [MV.int (1+hd/16%64),MV.int (1+hd/16%5)] (hd/1024%2)=some (.int w)/\1≤w/\w≤64:=by
  rcases(show hd/1024%2=0\/hd/1024%2=1 by lia)with e|e<;>rw[e]
  ·refine⟨(1+hd/16%64).toNat,?_,by lia,by lia⟩
   rw[A5 (by lia)];exact at0
  ·refine⟨(1+hd/16%5).toNat,?_,by lia,by lia⟩
   rw[A5 (by lia)];exact at1
 refine⟨_,hw,?_⟩;have s0:=SameM.new hp0 (.lst [MV.int (1+hd/16%64),MV.int (1+hd/16%5)]);generalize updM M p0 _=M0 at*;obtain⟨my,hmy,my1,my5⟩:∃my:Nat,1+hd%5=(my:Int)/\1≤my/\my≤5:=⟨(1+hd%5).toNat,by lia,by lia,by lia⟩
 rw[NW];walk_at "s";rw[hmy,NV];walk_at "s";intro pf hpf;have s1:=SameM.new hpf (.lst []);have f1:updM M0 pf (.lst []) pf=some (.lst []):=Xg;have fpf:=s0.free hpf;have old:∀a o,M0 a=some o->a≠pf:=λa o h=>neM h hpf;generalize updM M0 pf _=M1 at*;rw[NU];walk_at "s";obtain⟨cn,hcn,cn6,cn1⟩:∃cn:Nat,(if hd/2048%7<6*(my:Int) - 6 then hd/2048%7 else 6*(my:Int) - 6)=(cn:Int)/\cn≤6/\(1≤cn->2≤my):=by
  by_cases c:hd/2048%7<6*(my:Int) - 6
  ·exact⟨(hd/2048%7).toNat,by rw[if_pos c];lia,by lia,by lia⟩
  ·exact⟨(6*(my:Int) - 6).toNat,by rw[if_neg c];lia,by lia,by lia⟩
 rw[hcn,Wd];obtain⟨J,hJ⟩:∃J:Nat->Sm->MH->Prop,∀j σ M',J j σ M'↔∃(Fs:List Fer) (v7 v8 v9 v10 v11:Option MV),σ=[some (.frl (ns.map .int)),some (.int ar),some (.int hd),some (.int nm),some (.int w),some (.int my),some (.ref pf),v7,v8,v9,v10,v11,none]/\Fs.map (·.name)=(XX j).map (fnm nm)/\SameM M0 M'/\M' pf=some (.lst (Fs.map Fer.mv))/\(∀F∈Fs,FerOk ((XX my).map (inm nm)) F):=⟨_,λ_ _ _=>Y8⟩;refine⟨by lia,by lia,J,(hJ _ _ _).mpr ⟨[],_,_,_,_,_,rfl,rfl,s1,f1,λF hF=>nomatch hF⟩,λ_ _ _ _=>trivial,?_,?_⟩
 ·rintro j u σ M' hu h;obtain⟨Fs,v7,v8,v9,v10,v11,rfl,hN,s2,f2,hF⟩:=(hJ _ _ _).mp h;obtain⟨hj,rfl⟩:=Ww hu;have my2:=cn1 (by lia)
  have hl:Fs.length=j:=by have:=congrArg WX hN;simpa using this
  rw[Int.zero_add,NT];obtain⟨c,hc⟩:∃c:Nat,2+(j:Int)%4=(c:Int):=⟨(2+(j:Int)%4).toNat,by lia⟩
  repeat (first|walk_at "s"|simp only[hc])
  refine⟨ns,c,rfl,?_⟩;walk_at "s";intro p1 hp1;obtain⟨dv,hdv,dv0⟩:∃dv:Int,atI [MV.int 1,MV.int 1000000] ((j:Int)/4)=some (.int dv)/\(dv=1\/dv=1000000):=by
   rcases(show(j:Int)/4=0\/(j:Int)/4=1 by lia)with e|e<;>rw[e]
   ·exact⟨1,at0,.inl rfl⟩
   ·exact⟨1000000,at1,.inr rfl⟩
  refine⟨_,hdv,?_⟩;have s3:=s2.trans (SameM.new hp1 (.lst [MV.int 1,MV.int 1000000]));have f3:=SameM.new hp1 (.lst [MV.int 1,MV.int 1000000]) _ _ f2;generalize updM M' p1 _=M3 at*;walk_at "s";obtain⟨nb,hnb,nb0⟩:∃nb:Int,ns.getD c 0%1000000000000000/dv=nb/\0≤nb:=by
   refine⟨_,rfl,?_⟩;rcases dv0 with rfl|rfl<;>lia
  rw[hnb];refine⟨by rcases dv0 with rfl|rfl<;>decide,?_⟩
  rw[NS];walk_at "s";have gp:(0:Int)<(my:Int):=by lia
  refine⟨gp,?_⟩;obtain⟨g,hg,hg2⟩:∃g:Nat,nb%(my:Int)=(g:Int)/\g<my:=by
   have h0:=UZ nb (b:=(my:Int)) (by lia)
   have h1:=UY nb gp;exact⟨(nb%(my:Int)).toNat,by lia,by lia⟩
  rw[hg,NR];walk_at "s";have gp1:(0:Int)<(my:Int) - 1:=by lia
  refine⟨gp1,gp,?_⟩;obtain⟨tk,ht,ht2,ht3⟩:∃tk:Nat,((g:Int)+1+nb/5%((my:Int) - 1))%(my:Int)=(tk:Int)/\tk<my/\tk≠g:=by
   have r0:=UZ (nb/5) (b:=(my:Int) - 1) (by lia)
   have r1:=UY (nb/5) gp1;obtain⟨r,hr⟩:∃r,nb/5%((my:Int) - 1)=r:=⟨_,rfl⟩;rw[hr]at r0 r1 ⊢;have h0:=UZ ((g:Int)+1+r) (b:=(my:Int)) (by lia)
   have h1:=UY ((g:Int)+1+r) gp;refine⟨(((g:Int)+1+r)%(my:Int)).toNat,by lia,by lia,λe=>?_⟩
   have e2:((g:Int)+1+r)%(my:Int)=(g:Int):=by lia
   rcases(show my=2\/my=3\/my=4\/my=5 by lia)with rfl|rfl|rfl|rfl<;>lia
  rw[ht,NQ];walk_at "s";refine⟨nm,g,rfl,by lia,by lia,?_⟩
  refine⟨nm,tk,rfl,by lia,by lia,?_⟩
  try walk_at "s"
  rw[NP]
  repeat (first|walk_at "s"|simp only[f3])
  refine⟨⟨_,rfl⟩,nm,5+(j:Int),rfl,by lia,by lia,?_⟩
  obtain⟨kk,hkk,kk3⟩:∃kk:Nat,nb/20%4=(kk:Int)/\kk≤3:=⟨(nb/20%4).toNat,by lia,by lia⟩
  obtain⟨st,hst,st1,st3⟩:∃st:Nat,1+nb/80%3=(st:Int)/\1≤st/\st≤3:=⟨(1+nb/80%3).toNat,by lia,by lia,by lia⟩
  repeat (first|walk_at "s"|simp only[f3,hkk,hst,X7])
  refine⟨by lia,(hJ _ _ _).mpr ⟨Fs++[⟨fnm nm j,inm nm g,inm nm tk,kk,st⟩],_,_,_,_,_,rfl,?_,λa o h=>by rw[Xp (old a o h)];exact s3 _ _ h,by rw[Xg,Y6];rfl,λF hF'=>?_⟩⟩
  ·rw[Y6,hN,List.range_succ,Y6];rfl
  ·rcases YA.mp hF' with h'|h'
   ·exact hF _ h'
   ·rw[Yk.mp h'];refine⟨XN.mpr ⟨g,UC.mpr hg2,rfl⟩,XN.mpr ⟨tk,UC.mpr ht2,rfl⟩,λe=>?_,kk3,st1,st3⟩;have:=AO (n:=nm) (k:=(g:Int)) (k':=(tk:Int)) (by lia) (by lia) (by lia) (by lia) e
    lia
 ·rintro σ M2 h;obtain⟨Fs,v7,v8,v9,v10,v11,rfl,hN,s2,f2,hF⟩:=(hJ _ _ _).mp h;have hN:Fs.map (·.name)=(XX cn).map (fnm nm):=hN;have hl:Fs.length=cn:=by have:=congrArg WX hN;simpa using this
  have ndF:(Fs.map (·.name)).Nodup:=by
   rw[hN];refine Pd λa b ha hb e=>?_;have:=AO (n:=nm) (k:=5+(a:Int)) (k':=5+(b:Int)) (by lia) (by lia) (by lia) (by lia) e
   lia
  clear hJ h;rw[NO];walk_at "s";intro pi hpi;have s3:=SameM.new hpi (.lst []);have i3:updM M2 pi (.lst []) pi=some (.lst []):=Xg;have fpi:=(s0.trans s2).free hpi;have ipf:=(neM f2 hpi).symm;have old2:∀a o,M2 a=some o->a≠pi:=λa o h=>neM h hpi;have only:∀a o,updM M2 pi (.lst []) a=some o->a≠pi->M2 a=some o:=λa o h n=>by rw[Xp n]at h;exact h
  generalize updM M2 pi _=M3 at*;rw[NN];walk_at "s";obtain⟨J,hJ⟩:∃J:Nat->Sm->MH->Prop,∀j σ M',J j σ M'↔∃(Is:List Isl) (ys:List MV) (v7:Option MV),σ=[some (.frl (ns.map .int)),some (.int ar),some (.int hd),some (.int nm),some (.int w),some (.int my),some (.ref pf),v7,v8,v9,v10,v11,some (.ref pi)]/\Is.map (·.name)=(XX j).map (inm nm)/\SameM M2 M'/\M' pi=some (.lst ys)/\IslsNew M3 M' Is ys/\(∀I∈Is,IslOk w (Fs.map (·.name)) I/\∀s∈I.stps,Vk Fs I.name s):=⟨_,λ_ _ _=>Y8⟩;refine⟨by lia,by lia,J,(hJ _ _ _).mpr ⟨[],[],_,rfl,rfl,s3,i3,⟨rfl,λi I y hI=>by simp at hI⟩,λI hI=>nomatch hI⟩,λ_ _ _ _=>trivial,?_,?_⟩
  ·rintro j u σ M4 hu h;obtain⟨Is,ys,v7,rfl,hNI,s4,i4,hI,hO⟩:=(hJ _ _ _).mp h;obtain⟨hj,rfl⟩:=Ww hu;have hlI:Is.length=j:=by have:=congrArg WX hNI;simpa using this
   have hly:=hI.len;rw[Int.zero_add,NM];obtain⟨c,hc⟩:∃c:Nat,6+(j:Int)=(c:Int):=⟨6+j,by lia⟩
   repeat (first|walk_at "s"|simp only[i4,hc])
   refine⟨⟨_,rfl⟩,ns,c,rfl,?_⟩;walk_at "s";refine⟨ns.getD c 0%1000000000000000000000000000000000000000000000000000000000000,nm,ar,j,pf,Fs,rfl,s4 _ _ f2,by lia,ndF,by lia,by lia,by lia,λI a b M5 s5 na nb nab ha hb hn hok hen=>?_⟩
   have i5:=s5 _ _ i4
   repeat (first|walk_at "s"|simp only[i5])
   have bk:∀x,M4 x=none->M3 x=none:=λx hx=>by
    cases e:M3 x with
    |none=>rfl
    |some v=>
     by_cases hx2:x=pi
     ·subst hx2;rw[i4]at hx;cases hx
     ·rw[s4 _ _ (only _ _ e hx2)]at hx;cases hx
   refine⟨by lia,(hJ _ _ _).mpr ⟨Is++[I],ys++[.tup [.str I.name,.ref a,.ref b]],_,rfl,?_,λa o h=>by rw[Xp (old2 a o h)];exact s5 _ _ (s4 _ _ h),Xg,?_,?_⟩⟩
   ·rw[Y6,hNI,List.range_succ,Y6];show _++[I.name]=_;rw[hn];rfl
   ·have h3:∀x o,M5 x=some o->M3 x=none->updM M5 pi (.lst (ys++[.tup [.str I.name,.ref a,.ref b]])) x=some o:=λx o h n=>by
     rw[Xp (λe=>by subst e;rw[i3]at n;cases n)];exact h
    have hI5:=hI.keep (M':=updM M5 pi (.lst (ys++[.tup [.str I.name,.ref a,.ref b]]))) λx o h n=>h3 x o (s5 _ _ h) n;exact hI5.add (bk _ na) (bk _ nb) (h3 _ _ ha (bk _ na)) (h3 _ _ hb (bk _ nb))
   ·intro I' hI';rcases YA.mp hI' with h'|h'
    ·exact hO _ h'
    ·rw[Yk.mp h'];exact⟨hok w w1,hen⟩
  ·rintro σ M4 h;obtain⟨Is,ys,v7,rfl,hNI,s4,i4,hI,hO⟩:=(hJ _ _ _).mp h;have hNI:Is.map (·.name)=(XX my).map (inm nm):=hNI;have hlI:Is.length=my:=by have:=congrArg WX hNI;simpa using this
   rw[NL];walk_at "s";refine q ⟨w,Is,Fs⟩ pi pf ys M4 ((s0.trans s2).trans s4) ?_ (by show 1≤Is.length;lia) fpi fpf ipf i4 hI.inn (s4 _ _ f2)
   refine⟨w1,w2,by show Is.length≤5;lia,by show Fs.length≤6;lia,?_,?_,?_,λI hi=>(hO I hi).1,?_,λI hi=>(hO I hi).2⟩
   ·intro z hz;have hz:z∈Fs.map (·.name):=hz;rw[hN]at hz;obtain⟨i,hi,rfl⟩:=XN.mp hz;have:=UC.mp hi;exact Cl (by lia) (by lia)
   ·intro z hz;have hz:z∈Is.map (·.name):=hz;rw[hNI]at hz;obtain⟨i,hi,rfl⟩:=XN.mp hz;have:=UC.mp hi;exact Cl (by lia) (by lia)
   ·show(Fs.map (·.name)++Is.map (·.name)).Nodup;rw[UU];refine⟨ndF,?_,?_⟩
    ·rw[hNI];refine Pd λa b ha hb e=>?_;have:=AO (n:=nm) (k:=(a:Int)) (k':=(b:Int)) (by lia) (by lia) (by lia) (by lia) e
     lia
    ·rw[hN,hNI];intro a ha b hb e;obtain⟨i,hi,rfl⟩:=XN.mp ha;obtain⟨j,hj,rfl⟩:=XN.mp hb;have hi:=UC.mp hi;have hj:=UC.mp hj;have:=AO (n:=nm) (k:=5+(i:Int)) (k':=(j:Int)) (by lia) (by lia) (by lia) (by lia) e
     lia
   ·intro F hF';show FerOk (Is.map (·.name)) F;rw[hNI];exact hF F hF'
noncomputable def zipK:List Str->List MV->List (Key×MV)
 |k::ks,v::vs=>(Xv k,v)::zipK ks vs
 |_,_=>[]
theorem VO:∀{ks:List Str} {vs:List MV},vs.length=ks.length->(zipK ks vs).length=ks.length
 |[],[],_=>rfl
 |[],_::_,h=>by cases h
 |_::_,[],h=>by cases h
 |k::ks,v::vs,h=>by
  show(zipK ks vs).length+1=_;rw[VO (by simpa using h)];rfl
theorem WC:∀{ks:List Str} {vs:List MV},vs.length=ks.length->(zipK ks vs).map (·.1)=ks.map Xv
 |[],[],_=>rfl
 |[],_::_,h=>by cases h
 |_::_,[],h=>by cases h
 |k::ks,v::vs,h=>by
  show Xv k::(zipK ks vs).map (·.1)=_;rw[WC (by simpa using h)];rfl
theorem Ub:∀{ks:List Str} {vs:List MV} {i:Nat} {k:Str} {v:MV},ks.Nodup->ks[i]?=some k->vs[i]?=some v->valM (zipK ks vs) (Xv k)=some v
 |[],_,_,_,_,_,h,_=>by simp at h
 |_::_,[],_,_,_,_,_,h=>by simp at h
 |a::ks,b::vs,0,k,v,_,h1,h2=>by
  simp at h1 h2;subst h1 h2;simp[zipK,valM]
 |a::ks,b::vs,i+1,k,v,nd,h1,h2=>by
  rw[YO]at nd;simp at h1 h2;have:a≠k:=λe=>nd.1 (e▸XI h1);simp only[zipK,valM];rw[if_neg (λe=>this (Vf e))];exact Ub nd.2 h1 h2
theorem WD:∀{ks:List Str} {vs:List MV} {i:Nat} {k:Str} {v:MV},vs.length=ks.length->ks.Nodup->ks[i]?=some k->putM (zipK ks vs) (Xv k) v=zipK ks (vs.set i v)
 |[],_,_,_,_,_,_,h=>by simp at h
 |_::_,[],_,_,_,h,_,_=>by cases h
 |a::ks,b::vs,0,k,v,_,_,h1=>by
  simp at h1;subst h1;simp[zipK,putM]
 |a::ks,b::vs,i+1,k,v,hl,nd,h1=>by
  rw[YO]at nd;simp at h1;have:a≠k:=λe=>nd.1 (e▸XI h1);simp only[zipK,putM,List.set_cons_succ];rw[if_neg (λe=>this (Vf e)),WD (by simpa using hl) nd.2 h1]
theorem Pe{kvs:List (Key×MV)}{k:Key}{v:MV}:(∀p∈kvs,p.1≠k)->putM kvs k v=kvs++[(k,v)]:=by
 induction kvs with
 |nil=>intro _;rfl
 |cons p r ih=>
  intro h;unfold putM;rw[if_neg (h p (Yg ..)),ih λq hq=>h q (Ya _ hq)];rfl
theorem Zgm{ps:List (Key×MV)}(nd:(ps.map (·.1)).Nodup):UM ps=ps:=by
 have gen:∀(ps c:List (Key×MV)),((c++ps).map (·.1)).Nodup->ps.foldl (λc z=>putM c z.1 z.2) c=c++ps:=by
  intro ps
  induction ps with
  |nil=>intro c _;simp
  |cons p r ih=>
   intro c nd;rw[W7,Pe,ih]
   ·simp
   ·simpa using nd
   ·intro q hq e;rw[Y6,UU]at nd;exact nd.2.2 _ (XN.mpr ⟨q,hq,rfl⟩) _ (XN.mpr ⟨p,Yg ..,rfl⟩) e
 have:=gen ps [] (by simpa using nd)
 rw[Y7]at this;exact this
theorem V4{ks:List Str}{vs:List MV}(hl:vs.length=ks.length)(nd:ks.Nodup):UM (zipK ks vs)=zipK ks vs:=by
 refine Zgm ?_;rw[WC hl];unfold List.Nodup;rw[CT];exact Gv (λh e=>h (Vf e)) nd
theorem Cn{α:Type}(xs:List α)(f:α->Str)(g:α->MV):(xs.map λx=>MV.tup [.str (f x),g x])=(zipK (xs.map f) (xs.map g)).map prM:=by
 induction xs with
 |nil=>rfl
 |cons x r ih=>
  rw[XC,ih];rfl
noncomputable def SrcFrom(S:Src)(M M1:MH):Prop:=(S.okF M1/\M1=M)\/∃a o kvs,S=.dic a o kvs/\M a=some (.dic kvs)/\M1=updM M a (.fdic o kvs)
theorem SrcFrom.free{S:Src}{M M1:MH}(h:SrcFrom S M M1){p:Addr}(hp:M1 p=none):M p=none:=by
 rcases h with⟨_,rfl⟩|⟨a,o,kvs,_,h1,rfl⟩
 ·exact hp
 ·by_cases e:p=a
  ·subst e;rw[Xg]at hp;cases hp
  ·rwa [Xp e]at hp
theorem SrcFrom.ok{S:Src}{M M1 M2:MH}(h:SrcFrom S M M1)(s:SameM M1 M2):S.ok M2:=by
 rcases h with⟨h1,rfl⟩|⟨a,o,kvs,rfl,h1,rfl⟩
 ·cases S with
  |tup _=>trivial
  |rng _ _=>trivial
  |rst _ _ _=>trivial
  |dic _ _ _=>exact h1.elim
  |str _=>trivial
  |lst a zs=>exact s _ _ h1
 ·exact s _ _ Xg
theorem SrcFrom.thaw{S:Src}{M M1 M2:MH}(h:SrcFrom S M M1)(s:SameM M1 M2):SameM M (S.thaw M2)/\∀a,M1 a=none->(S.thaw M2) a=M2 a:=by
 rcases h with⟨h1,rfl⟩|⟨a,o,kvs,rfl,h1,rfl⟩
 ·rw[BX h1];exact⟨s,λ_ _=>rfl⟩
 ·refine⟨λb u e=>?_,λb hb=>?_⟩
  ·show updM M2 a (.dic kvs) b=_;by_cases z:b=a
   ·subst z;rw[Xg];rw[h1]at e;exact e
   ·rw[Xp z];exact s _ _ (by rw[Xp z];exact e)
  ·show updM M2 a (.dic kvs) b=_;refine Xp λz=>?_;subst z;rw[Xg]at hb;cases hb
theorem FI{Φ:List (Str×SpM)}{own:List Str}{fr:List Nat}{src:ISr}{tg:ITg}{elt:IE}{σ:Sm}{M:MH}{Q:QM}{α:Type}(xs:List α)(f:α->MV)(C:α->MV->List Addr->MH->Prop)(Pm:MH->Prop)
  (hC:∀x y N M2 M3,(∀a∈N,M3 a=M2 a)->C x y N M2->C x y N M3)
  (hs:wSr Φ src σ M λS M1=>S.items=xs.map f/\xs.length<sizeLine/\SrcFrom S M M1/\Pm M1)
  (ht:∀x∈xs,∀M1 M',Pm M1->SameM M1 M'->wTg tg (f x) (sCm own fr σ) λσ2=>wE Φ elt σ2 M' λy M2=>SameM M' M2/\∃N:List Addr,N.Nodup/\(∀a∈N,M' a=none/\∃o,M2 a=some o)/\C x y N M2)
  (hΦ:∀(j:Nat) f sp,Φ[j]?=some (f,sp)->MonW sp)
  (q:∀D (ys:List MV) (Ns:List (List Addr)) M',M D=none->SameM M M'->ys.length=xs.length->Ns.length=xs.length->Ns.flatten.Nodup->D∉Ns.flatten->(∀a∈Ns.flatten,M a=none)->
   (∀(j:Nat) x y N,xs[j]?=some x->ys[j]?=some y->Ns[j]?=some N->C x y N M')->M' D=some (.lst ys)->Q (.ref D) M'):wE Φ (.comp own fr src tg .none elt) σ M Q:=by
 rw[Ax];refine mon_sr hΦ src (λS M1 ⟨h1,h2,h3,h4⟩=>?_) hs;have hl:S.len=xs.length:=by rw[<- S.items_len,h1,X7]
 refine⟨by rw[hl];exact h2,λD hD=>⟨λi ys M2=>SameM M1 M2/\M2 D=some (.lst ys)/\ys.length=i/\∃Ns:List (List Addr),Ns.length=i/\Ns.flatten.Nodup/\D∉Ns.flatten/\(∀a∈Ns.flatten,M1 a=none/\∃o,M2 a=some o)/\(∀(j:Nat) x y N,xs[j]?=some x->ys[j]?=some y->Ns[j]?=some N->C x y N M2),⟨SameM.new hD _,Xg,rfl,[],rfl,by simp,by simp,by simp,by simp⟩,?_,?_,?_⟩⟩
 ·rintro i ys M2 ⟨s2,d2,e,_⟩;exact⟨d2,by lia,h3.ok s2⟩
 ·rintro i x ys M2 hx ⟨s2,d2,e,Ns,n1,n2,n3,n4,n5⟩;rw[h1]at hx;obtain⟨hi,rfl⟩:=Yl hx;refine UN tg (λσ2 h=>?_) (ht xs[i] (XV hi) M1 M2 h4 s2);rw[wI,if_pos rfl];refine Xd hΦ elt (λy M3 ⟨s3,N,m1,m2,m3⟩=>?_) h;have dN:D∉N:=λz=>by have:=(m2 _ z).1;rw[d2]at this;cases this
  have keep:∀a,a≠D->updM M3 D (.lst (ys++[y])) a=M3 a:=λa z=>Xp z;have fl:(Ns++[N]).flatten=Ns.flatten++N:=by simp
  refine⟨s3 _ _ d2,λa o z=>by rw[Xp (neM z hD)];exact s3 _ _ (s2 _ _ z),Xg,by simp[e],Ns++[N],by simp[n1],?_,?_,?_,?_⟩
  ·rw[fl,UU];refine⟨n2,m1,λa ha b hb z=>?_⟩;subst z;obtain⟨_,o,ho⟩:=n4 _ ha;rw[(m2 _ hb).1]at ho;cases ho
  ·rw[fl,YA];exact λz=>z.elim n3 dN
  ·rw[fl];intro a ha;have aD:a≠D:=λz=>by
    subst z;rcases YA.mp ha with ha|ha
    ·exact n3 ha
    ·exact dN ha
   rw[keep a aD];rcases YA.mp ha with ha|ha
   ·obtain⟨z1,o,z2⟩:=n4 _ ha;exact⟨z1,o,s3 _ _ z2⟩
   ·exact⟨s2.free (m2 _ ha).1,(m2 _ ha).2⟩
  ·intro j x' y' N' hxj hy hN;by_cases hj:j<i
   ·rw[Uy (by lia)]at hy hN
    refine hC _ _ _ M2 _ (λa ha=>?_) (n5 j x' y' N' hxj hy hN);have hm:a∈Ns.flatten:=List.mem_flatten.mpr ⟨N',XI hN,ha⟩;rw[keep a λz=>n3 (z▸hm)];obtain⟨_,o,z2⟩:=n4 _ hm;rw[z2];exact s3 _ _ z2
   ·have hj:j=i:=by
     have:=(XE.mp hy).1;simp at this;lia
    subst hj;rw[Ug (by lia),e,Nat.sub_self]at hy
    rw[Ug (by lia),n1,Nat.sub_self]at hN
    rw[Xc hi]at hxj;simp at hxj hy hN;subst hxj hy hN;exact hC _ _ _ M3 _ (λa ha=>keep a λz=>dN (z▸ha)) m3
 ·rintro ys M2 ⟨s2,d2,e,Ns,n1,n2,n3,n4,n5⟩;obtain⟨t1,t2⟩:=h3.thaw s2;refine q D ys Ns _ (h3.free hD) t1 (by lia) (by lia) n2 n3 (λa ha=>h3.free (n4 a ha).1) (λj x y N a b c=>?_) (by rw[t2 _ hD];exact d2)
  exact hC _ _ _ M2 _ (λz hz=>t2 _ (n4 z (List.mem_flatten.mpr ⟨N,XI c,hz⟩)).1) (n5 j x y N a b c)
theorem Co{Φ:List (Str×SpM)}{own:List Str}{fr:List Nat}{src:ISr}{tg:ITg}{elt:IE}{σ:Sm}{M:MH}{Q:QM}{α:Type}(xs:List α)(f:α->MV)(nm:α->Str)(ob:α->MO)(Pm:MH->Prop)
  (hs:wSr Φ src σ M λS M1=>S.items=xs.map f/\xs.length<sizeLine/\SrcFrom S M M1/\Pm M1)
  (ht:∀x∈xs,∀M1 M',Pm M1->SameM M1 M'->wTg tg (f x) (sCm own fr σ) λσ2=>wE Φ elt σ2 M' λy M2=>∃p,M' p=none/\y=.tup [.str (nm x),.ref p]/\M2=updM M' p (ob x))
  (hΦ:∀(j:Nat) f sp,Φ[j]?=some (f,sp)->MonW sp)
  (q:∀D (as:List Addr) M',M D=none->SameM M M'->as.length=xs.length->as.Nodup->D∉as->(∀a∈as,M a=none)->
   (∀(j:Nat) a x,as[j]?=some a->xs[j]?=some x->M' a=some (ob x))->M' D=some (.lst ((zipK (xs.map nm) (as.map MV.ref)).map prM))->Q (.ref D) M'):wE Φ (.comp own fr src tg .none elt) σ M Q:=by
 refine FI xs f (λx y N M2=>∃p,N=[p]/\y=.tup [.str (nm x),.ref p]/\M2 p=some (ob x)) Pm ?_ hs ?_ hΦ ?_
 ·rintro x y N M2 M3 hk ⟨p,rfl,e1,e2⟩;exact⟨p,rfl,e1,by rw[hk p (by simp)];exact e2⟩
 ·intro x hx M1 M' h1 h2;refine UN tg (λσ2 h=>?_) (ht x hx M1 M' h1 h2);refine Xd hΦ elt (λy M3 ⟨p,m1,m2,m3⟩=>?_) h;subst m3;exact⟨SameM.new m1 _,[p],by simp,by simp[m1,Xg],p,rfl,m2,Xg⟩
 ·intro D ys Ns M' h1 h2 h3 h4 h5 h6 h7 h8 h9;have key:∀(xs:List α) (ys:List MV) (Ns:List (List Addr)),ys.length=xs.length->Ns.length=xs.length->(∀(j:Nat) x y N,xs[j]?=some x->ys[j]?=some y->Ns[j]?=some N->∃p,N=[p]/\y=.tup [.str (nm x),.ref p]/\M' p=some (ob x))->
    Ns.flatten.length=xs.length/\ys=(zipK (xs.map nm) (Ns.flatten.map MV.ref)).map prM/\∀(j:Nat) a x,Ns.flatten[j]?=some a->xs[j]?=some x->M' a=some (ob x):=by
   intro xs
   induction xs with
   |nil=>
    intro ys Ns h1 h2 _;cases ys with
    |nil=>
     cases Ns with
     |nil=>exact⟨rfl,rfl,λj a x h=>by simp at h⟩
     |cons _ _=>cases h2
    |cons _ _=>cases h1
   |cons x xs ih=>
    intro ys Ns h1 h2 h3;cases ys with
    |nil=>cases h1
    |cons y ys=>
     cases Ns with
     |nil=>cases h2
     |cons N Ns=>
      obtain⟨p,rfl,rfl,ep⟩:=h3 0 x y N rfl rfl rfl;obtain⟨i1,i2,i3⟩:=ih ys Ns (by simpa using h1) (by simpa using h2) λj x y N a b c=>h3 (j+1) x y N (by simpa using a) (by simpa using b) (by simpa using c)
      refine⟨by simp at i1 ⊢;lia,?_,?_⟩
      ·show _=prM (Xv (nm x),MV.ref p)::((zipK (xs.map nm) (Ns.flatten.map MV.ref)).map prM);rw[<- i2];rfl
      ·intro j a x' ha hx;cases j with
       |zero=>simp at ha hx;subst ha hx;exact ep
       |succ j=>exact i3 j a x' (by simpa using ha) (by simpa using hx)
  obtain⟨k1,k2,k3⟩:=key xs ys Ns h3 h4 h8;exact q D Ns.flatten M' h1 h2 k1 h5 h6 h7 k3 (by rw[<- k2];exact h9)
structure Std where
 num:List Nat
 wd:List (List (Key×MV))
 giv:List (List Int)
 tak:List Nat
structure StA where
 pn:Addr
 pw:Addr
 pg:Addr
 pt:Addr
 ws:List Addr
 gs:List Addr
noncomputable def StA.mv(A:StA):MV:=.tup [.ref A.pn,.ref A.pw,.ref A.pg,.ref A.pt]
noncomputable def natM(n:Nat):MV:=.int n
structure StdAt (W:Wld) (S:Std) (M:MH) (A:StA):Prop where
 n:M A.pn=some (.dic (zipK W.ins (S.num.map natM)))
 w:M A.pw=some (.dic (zipK W.ins (A.ws.map MV.ref)))
 g:M A.pg=some (.dic (zipK W.fns (A.gs.map MV.ref)))
 t:M A.pt=some (.dic (zipK W.fns (S.tak.map natM)))
 wl:A.ws.length=W.isl.length
 gl:A.gs.length=W.fer.length
 wv:∀(i:Nat) a kvs,A.ws[i]?=some a->S.wd[i]?=some kvs->M a=some (.dic kvs)
 gv:∀(j:Nat) a xs,A.gs[j]?=some a->S.giv[j]?=some xs->M a=some (.lst (xs.map MV.int))
theorem StdAt.keep{W:Wld}{S:Std}{M M':MH}{A:StA}(s:SameM M M')(h:StdAt W S M A):StdAt W S M' A:=
 ⟨s _ _ h.n,s _ _ h.w,s _ _ h.g,s _ _ h.t,h.wl,h.gl,λi a k x y=>s _ _ (h.wv i a k x y),λi a k x y=>s _ _ (h.gv i a k x y)⟩
noncomputable def WdOk(w:Nat)(I:Isl)(kvs:List (Key×MV)):Prop:=∃vs:List Int,vs.length=I.vars.length/\kvs=zipK I.vars (vs.map MV.int)/\∀v∈vs,0≤v/\v<2^w
structure SOk (W:Wld) (c:Nat) (S:Std):Prop where
 nl:S.num.length=W.isl.length
 wl:S.wd.length=W.isl.length
 gl:S.giv.length=W.fer.length
 tl:S.tak.length=W.fer.length
 ni:∀(i:Nat) I n,W.isl[i]?=some I->S.num[i]?=some n->n≤I.stps.length
 wi:∀(i:Nat) I kvs,W.isl[i]?=some I->S.wd[i]?=some kvs->WdOk W.w I kvs
 gi:∀xs∈S.giv,xs.length≤c/\∀v∈xs,0≤v/\v<2^W.w
 ti:∀(j:Nat) xs n,S.giv[j]?=some xs->S.tak[j]?=some n->n≤xs.length
noncomputable def rhoK(kvs:List (Key×MV))(x:Str):Int:=match valM kvs (Xv x)with
 |some (.int i)=>i
 |_=>0
theorem WdOk.at{k:Nat}{I:Isl}{kvs:List (Key×MV)}(h:WdOk k I kvs)(nd:I.vars.Nodup){x:Str}(hx:x∈I.vars):valM kvs (Xv x)=some (.int (rhoK kvs x))/\0≤rhoK kvs x/\rhoK kvs x<2^k:=by
 obtain⟨vs,hl,rfl,hv⟩:=h;obtain⟨i,hi,rfl⟩:=Yd hx;have hi2:i<vs.length:=by lia
 have e:valM (zipK I.vars (vs.map MV.int)) (Xv I.vars[i])=some (.int vs[i]):=Ub (i:=i) nd (Xc hi) (by rw[Xq,Xc hi2];rfl)
 have e2:rhoK (zipK I.vars (vs.map MV.int)) I.vars[i]=vs[i]:=by unfold rhoK;rw[e]
 rw[e2];exact⟨e,hv _ (XV hi2)⟩
theorem WdOk.reads{k:Nat}{I:Isl}{kvs:List (Key×MV)}(h:WdOk k I kvs)(nd:I.vars.Nodup):readsOk I.vars kvs (rhoK kvs) k:=λ_ hx=>h.at nd hx
theorem WdOk.len{k:Nat}{I:Isl}{kvs:List (Key×MV)}(h:WdOk k I kvs):kvs.length=I.vars.length:=by
 obtain⟨vs,hl,rfl,hv⟩:=h;exact VO (by rw[X7];exact hl)
theorem WdOk.nodup{k:Nat}{I:Isl}{kvs:List (Key×MV)}(h:WdOk k I kvs)(nd:I.vars.Nodup):(kvs.map (·.1)).Nodup/\∀p∈kvs,Yu p.2=true:=by
 obtain⟨vs,hl,rfl,hv⟩:=h;have l2:(vs.map MV.int).length=I.vars.length:=by rw[X7];exact hl
 refine⟨?_,?_⟩
 ·rw[WC l2];unfold List.Nodup;rw[CT];exact Gv (λh e=>h (Vf e)) nd
 ·have gen:∀(ks:List Str) (vs:List Int),∀p∈zipK ks (vs.map MV.int),Yu p.2=true:=by
   intro ks
   induction ks with
   |nil=>intro vs p hp;cases hp
   |cons k ks ih=>
    intro vs p hp;cases vs with
    |nil=>cases hp
    |cons v vs=>
     rcases Xt.mp hp with rfl|hp
     ·rfl
     ·exact ih vs p hp
  exact gen _ _
theorem WdOk.put{k:Nat}{I:Isl}{kvs:List (Key×MV)}(h:WdOk k I kvs)(nd:I.vars.Nodup){x:Str}(hx:x∈I.vars){v:Int}(hv:0≤v/\v<2^k):WdOk k I (putM kvs (Xv x) (.int v)):=by
 obtain⟨vs,hl,rfl,hr⟩:=h;obtain⟨i,hi,rfl⟩:=Yd hx;refine⟨vs.set i v,by rw[Vq];exact hl,?_,λu hu=>?_⟩
 ·rw[WD (i:=i) (by rw[X7];exact hl) nd (Xc hi),W8]
 ·rcases WT hu with hu|rfl
  ·exact hr u hu
  ·exact hv
noncomputable def Wld.fat(W:Wld)(f:Str):Nat:=W.fns.idxOf f
theorem Uq{W:Wld}{f:Str}(h:f∈W.fns):W.fns[W.fat f]?=some f/\W.fat f<W.fer.length:=by
 have l:W.fns.idxOf f<W.fns.length:=FX.mpr h;refine⟨?_,by unfold Wld.fns at l;rw[X7]at l;exact l⟩
 unfold Wld.fat;rw[Xc l,List.getElem_idxOf l]
noncomputable def canM(W:Wld)(S:Std):Stp->Bool
 |.take f _=>decide (S.tak.getD (W.fat f) 0<(S.giv.getD (W.fat f) []).length)
 |.give f _=>decide (((S.giv.getD (W.fat f) []).length:Int) - (S.tak.getD (W.fat f) 0:Nat)<2^(W.fer.map (·.k)).getD (W.fat f) 0)
 |_=>true
noncomputable def UR(W:Wld)(S:Std):Stp->MV
 |.take f _=>.int ((S.giv.getD (W.fat f) []).getD (S.tak.getD (W.fat f) 0) 0)
 |_=>.non
noncomputable def givM(W:Wld)(ρ:Str->Int)(s:Stp)(g:List (List Int)):List (List Int):=match s with
 |.give f T=>g.set (W.fat f) (g.getD (W.fat f) []++[T.val ρ W.w])
 |_=>g
noncomputable def takM(W:Wld)(S:Std)(s:Stp)(t:List Nat):List Nat:=match s with
 |.take f _=>t.set (W.fat f) (S.tak.getD (W.fat f) 0+1)
 |_=>t
noncomputable def Vn(W:Wld)(S:Std)(i:Nat)(s:Stp)(B:Std):Std:=
 {num:=B.num.set i (Yi s (rhoK (S.wd.getD i [])) W.w (S.num.getD i 0)).toNat
  wd:=B.wd.set i (V3 s (S.wd.getD i []) (rhoK (S.wd.getD i [])) W.w (UR W S s))
  giv:=givM W (rhoK (S.wd.getD i [])) s B.giv
  tak:=takM W S s B.tak}
noncomputable def Ur(W:Wld)(S:Std)(i:Nat)(I:Isl):Option Stp:=match I.stps[S.num.getD i 0]? with
 |some s=>if canM W S s then some s else none
 |none=>none
noncomputable def Us(W:Wld)(S:Std)(i:Nat)(p:Std×List Str):Std×List Str:=match W.isl[i]? with
 |some I=>match Ur W S i I with
  |some s=>(Vn W S i s p.1,p.2++[I.name])
  |none=>p
 |none=>p
noncomputable def Y9(W:Wld)(S:Std):Nat->Std×List Str
 |0=>(S,[])
 |i+1=>Us W S i (Y9 W S i)
theorem Cp{W:Wld}(G:W.Good){i:Nat}{I:Isl}(hI:W.isl[i]?=some I) {n:Nat} {s:Stp} (hs:I.stps[n]?=some s):Zb W.fns I.vars I.stps.length s:=(G.io I (XI hI)).st s (XI hs)
theorem Pf{fs ns:List Str}{n:Nat}{s:Stp}(h:Zb fs ns n s):s.ok ns n:=by
 cases s with
 |take f x=>exact h.2
 |give f T=>exact h.2
 |put x T=>exact h
 |jump T i=>exact h
theorem Pg{s:Stp}{fs ns:List Str}{k:Nat}(h:Zb fs ns k s){ρ:Str->Int}{w n:Nat}(hn:n<k):0≤Yi s ρ w n/\(Yi s ρ w n).toNat≤k/\Yi s ρ w n=((Yi s ρ w n).toNat:Int):=by
 have a:0≤Yi s ρ w n/\Yi s ρ w n≤k:=by
  cases s with
  |jump T j=>
   obtain⟨_,h1,h2⟩:=h;unfold Yi;dsimp only;split
   ·exact⟨h1,h2⟩
   ·lia
  |take f x=>unfold Yi;dsimp only;lia
  |give f x=>unfold Yi;dsimp only;lia
  |put f x=>unfold Yi;dsimp only;lia
 lia
theorem YJ{α:Type}{xs:List α}{i j:Nat}{v x:α}(h:(xs.set i v)[j]?=some x):(j=i/\x=v)\/(j≠i/\xs[j]?=some x):=by
 rw[WV]at h;by_cases e:i=j
 ·subst e;rw[if_pos rfl]at h;split at h
  ·exact .inl ⟨rfl,(Yq h).symm⟩
  ·cases h
 ·rw[if_neg e]at h;exact .inr ⟨λz=>e z.symm,h⟩
noncomputable def Cq(S B:Std):Prop:=∀(j:Nat) xs ys,S.giv[j]?=some xs->B.giv[j]?=some ys->xs.length≤ys.length
theorem SOk.up{W:Wld}{c d:Nat}{S:Std}(h:SOk W c S)(l:c≤d):SOk W d S:=⟨h.nl,h.wl,h.gl,h.tl,h.ni,h.wi,λxs hx=>⟨Y3 (h.gi xs hx).1 l,(h.gi xs hx).2⟩,h.ti⟩
theorem Ph{W:Wld}{c:Nat}{S:Std}(h:SOk W c S){i:Nat}{I:Isl}(hI:W.isl[i]?=some I):S.num[i]?=some (S.num.getD i 0):=by
 have l:i<S.num.length:=by rw[h.nl];exact(XE.mp hI).1
 rw[Yc,Xc l];rfl
theorem VP{W:Wld}{c:Nat}{S:Std}(h:SOk W c S){i:Nat}{I:Isl}(hI:W.isl[i]?=some I):S.wd[i]?=some (S.wd.getD i []):=by
 have l:i<S.wd.length:=by rw[h.wl];exact(XE.mp hI).1
 rw[Yc,Xc l];rfl
theorem AR{W:Wld}{c:Nat}{S:Std}(h:SOk W c S){j:Nat}(hj:j<W.fer.length):S.giv[j]?=some (S.giv.getD j []):=by
 have l:j<S.giv.length:=by rw[h.gl];exact hj
 rw[Yc,Xc l];rfl
theorem Zo4{W:Wld}{c:Nat}{S:Std}(h:SOk W c S){j:Nat}(hj:j<W.fer.length):S.tak[j]?=some (S.tak.getD j 0):=by
 have l:j<S.tak.length:=by rw[h.tl];exact hj
 rw[Yc,Xc l];rfl
theorem FJ{W:Wld}{S:Std}{i:Nat}{I:Isl}{s:Stp}(h:Ur W S i I=some s):I.stps[S.num.getD i 0]?=some s/\canM W S s=true:=by
 unfold Ur at h;split at h
 ·rename_i s' e
  split at h
  ·cases h;exact⟨e,‹_›⟩
  ·cases h
 ·cases h
theorem Pi{W:Wld}{c:Nat}{S:Std}(hS:SOk W c S){f x:Str}(hf:f∈W.fns)(hc:canM W S (.take f x)=true):∃v,UR W S (.take f x)=.int v/\(S.giv.getD (W.fat f) [])[S.tak.getD (W.fat f) 0]?=some v/\0≤v/\v<2^W.w:=by
 have l:=(Uq hf).2;have hc:S.tak.getD (W.fat f) 0<(S.giv.getD (W.fat f) []).length:=of_decide_eq_true hc;refine⟨_,rfl,?_,?_⟩
 ·rw[Yc (l:=S.giv.getD (W.fat f) []),Xc hc];rfl
 ·rw[Yc (l:=S.giv.getD (W.fat f) []),Xc hc];exact(hS.gi _ (XI (AR hS l))).2 _ (XV hc)
theorem ZhL{W:Wld}(G:W.Good){c:Nat}{S:Std}(hS:SOk W c S){i:Nat}{I:Isl}(hI:W.isl[i]?=some I) {s:Stp} (hg:Ur W S i I=some s):WdOk W.w I (V3 s (S.wd.getD i []) (rhoK (S.wd.getD i [])) W.w (UR W S s)):=by
 obtain⟨hs,hc⟩:=FJ hg;have si:=Cp G hI hs;have wd:=hS.wi i I _ hI (VP hS hI);have nd:=(G.io I (XI hI)).nd;cases s with
 |take f x=>
  obtain⟨v,e,_,hv⟩:=Pi hS si.1 hc;rw[e];exact wd.put nd si.2 hv
 |give f T=>exact wd
 |put x T=>exact wd.put nd si.1 (Tm.val_in G.w1 λy hy=>(wd.at nd (si.2.2.2 y hy)).2)
 |jump T j=>exact wd
theorem Zg3{W:Wld}(G:W.Good){c d:Nat}{S B:Std}(hS:SOk W c S)(hB:SOk W d B)(gr:Cq S B){i:Nat}{I:Isl}(hI:W.isl[i]?=some I) {s:Stp} (hg:Ur W S i I=some s):
  SOk W (d+1) (Vn W S i s B)/\Cq S (Vn W S i s B):=by
 obtain⟨hs,hc⟩:=FJ hg;have si:=Cp G hI hs;have hn:S.num.getD i 0<I.stps.length:=(XE.mp hs).1;have wd:=hS.wi i I _ hI (VP hS hI);have nd:=(G.io I (XI hI)).nd;have gl:(givM W (rhoK (S.wd.getD i [])) s B.giv).length=B.giv.length:=by
  cases s<;>simp[givM]
 have tl:(takM W S s B.tak).length=B.tak.length:=by
  cases s<;>simp[takM]
 have gat:∀(j:Nat) ys,(givM W (rhoK (S.wd.getD i [])) s B.giv)[j]?=some ys->∃zs,B.giv[j]?=some zs/\zs.length≤ys.length/\ys.length≤zs.length+1/\∀v∈ys,v∈zs\/(0≤v/\v<2^W.w):=by
  intro j ys h;cases s with
  |give f T=>
   have h:(B.giv.set (W.fat f) (B.giv.getD (W.fat f) []++[T.val (rhoK (S.wd.getD i [])) W.w]))[j]?=some ys:=h;rcases YJ h with⟨rfl,rfl⟩|⟨_,h⟩
   ·refine⟨_,AR hB (Uq si.1).2,by simp,by simp,λv hv=>?_⟩
    rcases YA.mp hv with hv|hv
    ·exact .inl hv
    ·rw[Yk]at hv;subst hv;exact .inr (Tm.val_in G.w1 λy hy=>(wd.at nd (si.2.2.2 y hy)).2)
   ·exact⟨ys,h,Xl _,Ul _,λv hv=>.inl hv⟩
  |take f x=>exact⟨ys,h,Xl _,Ul _,λv hv=>.inl hv⟩
  |put f x=>exact⟨ys,h,Xl _,Ul _,λv hv=>.inl hv⟩
  |jump f x=>exact⟨ys,h,Xl _,Ul _,λv hv=>.inl hv⟩
 have tat:∀(j:Nat) n,(takM W S s B.tak)[j]?=some n->B.tak[j]?=some n\/(j<W.fer.length/\n=S.tak.getD j 0+1/\S.tak.getD j 0<(S.giv.getD j []).length):=by
  intro j n h;cases s with
  |take f x=>
   have h:(B.tak.set (W.fat f) (S.tak.getD (W.fat f) 0+1))[j]?=some n:=h;rcases YJ h with⟨rfl,rfl⟩|⟨_,h⟩
   ·exact .inr ⟨(Uq si.1).2,rfl,of_decide_eq_true hc⟩
   ·exact .inl h
  |give f x=>exact .inl h
  |put f x=>exact .inl h
  |jump f x=>exact .inl h
 refine⟨⟨by simp[Vn,hB.nl],by simp[Vn,hB.wl],gl.trans hB.gl,tl.trans hB.tl,?_,?_,?_,?_⟩,?_⟩
 ·intro i' I' n hI' h;rcases YJ (show(B.num.set i _)[i']?=some n from h)with⟨rfl,rfl⟩|⟨_,h⟩
  ·rw[hI]at hI';cases hI';exact(Pg si hn).2.1
  ·exact hB.ni i' I' n hI' h
 ·intro i' I' kvs hI' h;rcases YJ (show(B.wd.set i _)[i']?=some kvs from h)with⟨rfl,rfl⟩|⟨_,h⟩
  ·rw[hI]at hI';cases hI';exact ZhL G hS hI hg
  ·exact hB.wi i' I' kvs hI' h
 ·intro ys hy;obtain⟨j,hj,rfl⟩:=Yd hy;obtain⟨zs,z1,z2,z3,z4⟩:=gat j _ (Xc hj);have:=hB.gi zs (XI z1);refine⟨by have:=this.1;lia,λv hv=>?_⟩
  rcases z4 v hv with hv|hv
  ·exact this.2 v hv
  ·exact hv
 ·intro j ys n hy hn;obtain⟨zs,z1,z2,z3,z4⟩:=gat j _ hy;rcases tat j n hn with h|⟨h1,rfl,h2⟩
  ·exact Y3 (hB.ti j zs n z1 h) z2
  ·have:=gr j _ zs (AR hS h1) z1;lia
 ·intro j xs ys hx hy;obtain⟨zs,z1,z2,z3,z4⟩:=gat j _ hy;exact Y3 (gr j xs zs hx z1) z2
theorem Cr{W:Wld}(G:W.Good){c:Nat}{S:Std}(hS:SOk W c S):∀i:Nat,SOk W (c+i) (Y9 W S i).1/\Cq S (Y9 W S i).1/\(∀z∈(Y9 W S i).2,z∈W.ins)/\(Y9 W S i).2.length≤i
 |0=>⟨hS,λj xs ys h1 h2=>by rw[show(Y9 W S 0).1=S from rfl,h1]at h2;cases h2;exact Xl _,λz h=>(nomatch h),Xl _⟩
 |i+1=>by
  obtain⟨h1,h2,h3,h4⟩:=Cr G hS i;show SOk W (c+(i+1)) (Us W S i (Y9 W S i)).1/\Cq S (Us W S i (Y9 W S i)).1/\(∀z∈(Us W S i (Y9 W S i)).2,z∈W.ins)/\(Us W S i (Y9 W S i)).2.length≤i+1;unfold Us;split
  ·rename_i I hI
   split
   ·rename_i s hg
    obtain⟨a,b⟩:=Zg3 G hS h1 h2 hI hg;refine⟨a,b,λz hz=>?_,by simp;lia⟩
    rcases YA.mp hz with hz|hz
    ·exact h3 z hz
    ·rw[Yk]at hz;subst hz;exact XN.mpr ⟨I,XI hI,rfl⟩
   ·exact⟨h1.up (by lia),h2,h3,by lia⟩
  ·exact⟨h1.up (by lia),h2,h3,by lia⟩
noncomputable def Pj(W:Wld)(S:Std):Std:=(Y9 W S W.isl.length).1
noncomputable def Y4(W:Wld)(S:Std):List Str:=(Y9 W S W.isl.length).2
theorem Wld.Good.in_nd{W:Wld}(G:W.Good):W.ins.Nodup:=(UU.mp G.nd).2.1
theorem Wld.Good.fn_nd{W:Wld}(G:W.Good):W.fns.Nodup:=(UU.mp G.nd).1
theorem V5{W:Wld}{i:Nat}{I:Isl}(h:W.isl[i]?=some I):W.ins[i]?=some I.name:=by unfold Wld.ins;rw[Xq,h];rfl
theorem FK{W:Wld}{i:Nat}{f:Fer}(h:W.fer[i]?=some f):W.fns[i]?=some f.name:=by unfold Wld.fns;rw[Xq,h];rfl
noncomputable abbrev WE:SpM:=λvs M Q=>∃(ns:List Str) (ys:List MV) (i:Nat) (z:Str) (y:MV),vs=[.tup ys,.str z]/\(∀(j:Nat) u,ys[j]?=some u->∃x r,u=.tup (.str x::r)/\ns[j]?=some x)/\ns.Nodup/\ns[i]?=some z/\ys[i]?=some y/\Q y M
theorem Pk:MonW WE:=by walk_at "m"
theorem Pl(T:Txt K mg t):FnOk P w K mg base CX0 1 t.f_one_called t.d_one_called ["row","name"] (liSp K WE):=by
 refine T.F_one_called.okM Zbq (Xw (Φ:=[]) (Xx T) (Xy T) rfl nl0 nl0:Fts P w K mg base 0 Lu []) EN ZbQ (λvs M Q h=>?_) (λvs M Q h=>?_)
 ·obtain⟨_,_,_,_,_,rfl,_⟩:=h;rfl
 obtain⟨ns,ys,i,z,y,rfl,ha,nd,hz,hy,q⟩:=h;show wSs _ _ _ [some (.tup ys),some (.str z),none] M;rw[EN,Ls];walk_at "s";obtain⟨J,hJ⟩:∃J:Nat->Sm->MH->Prop,∀j σ M',J j σ M'↔M'=M/\j≤i/\∃v,σ=[some (.tup ys),some (.str z),v]:=⟨_,λ_ _ _=>Y8⟩;refine⟨J,(hJ _ _ _).mpr ⟨rfl,YD _,_,rfl⟩,λj σ M' h=>trivial,?_,?_⟩
 ·rintro j u σ M' hu h;obtain⟨rfl,hj,v,rfl⟩:=(hJ _ _ _).mp h;have hu:ys[j]?=some u:=hu;obtain⟨x,r,rfl,hx⟩:=ha j u hu;rw[Lr];walk_at "s";refine YC (λe=>?_) (λe=>?_)
  ·subst e;have hij:j=i:=(Bb (XE.mp hx).1 nd).mp (hx.trans hz.symm);subst hij;rw[Lq];walk_at "s";rw[hy]at hu;cases hu;exact q
  ·refine(hJ _ _ _).mpr ⟨rfl,?_,_,rfl⟩;rcases Nat.lt_or_ge j i with l|l
   ·exact l
   ·exfalso;have hij:j=i:=Nat.le_antisymm hj l;subst hij;rw[hx]at hz;exact e (Yq hz)
 ·rintro σ M' h;exfalso;obtain⟨_,hj,_⟩:=(hJ _ _ _).mp h;have hj:ys.length≤i:=hj;have:=(XE.mp hy).1;lia
noncomputable abbrev VQ:SpM:=λvs M Q=>∃(W:Wld) (i:Nat) (I:Isl),vs=[W.mv,.str I.name]/\W.Good/\W.isl[i]?=some I/\Q I.mv M
theorem Pn:MonW VQ:=by walk_at "m"
theorem Po(T:Txt K mg t):FnOk P w K mg base CX0 2 t.f_island_of t.d_island_of ["world","name"] (liSp K VQ):=by
 refine T.F_island_of.okM Zc8 (Xw (Φ:=[("one_called",WE)]) (Xx T) (Xy T) rfl (fMc ⟨Pk,nl0⟩) (fMc ⟨⟨_,_,_,(FnOk.mono (Pl T) (by decide)),T.m_one_called,T.F_one_called.kp,T.b_one_called⟩,nl0⟩):Fts P w K mg base 1 Lw [("one_called",WE)]) EO ZcP (fun vs M Q h=>?_) (fun vs M Q h=>?_)
 ·obtain⟨_,_,_,rfl,_⟩:=h;rfl
 obtain⟨W,i,I,rfl,G,hI,q⟩:=h;show wSs _ _ _ [some W.mv,some (.str I.name)] M;rw[EO,Lv,Wld.mv];walk_at "s";refine⟨W.ins,W.isl.map Isl.mv,i,I.name,I.mv,rfl,λj u hu=>?_,G.in_nd,V5 hI,by rw[Xq,hI];rfl,q⟩
 obtain⟨hj,rfl⟩:=Yl hu;exact⟨_,_,rfl,V5 (Xc hj)⟩
noncomputable abbrev Cs:SpM:=λvs M Q=>∃(W:Wld) (i:Nat) (f:Fer),vs=[W.mv,.str f.name]/\W.Good/\W.fer[i]?=some f/\Q f.mv M
theorem Z9m:MonW Cs:=by walk_at "m"
theorem Zds(T:Txt K mg t):FnOk P w K mg base CX0 2 t.f_ferry_of t.d_ferry_of ["world","name"] (liSp K Cs):=by
 refine T.F_ferry_of.okM Zdo (Xw (Φ:=[("one_called",WE)]) (Xx T) (Xy T) rfl (fMc ⟨Pk,nl0⟩) (fMc ⟨⟨_,_,_,(FnOk.mono (Pl T) (by decide)),T.m_one_called,T.F_one_called.kp,T.b_one_called⟩,nl0⟩):Fts P w K mg base 1 Ly [("one_called",WE)]) EQ Ze1 (fun vs M Q h=>?_) (fun vs M Q h=>?_)
 ·obtain⟨_,_,_,rfl,_⟩:=h;rfl
 obtain⟨W,i,I,rfl,G,hI,q⟩:=h;show wSs _ _ _ [some W.mv,some (.str I.name)] M;rw[EQ,Lx,Wld.mv];walk_at "s";refine⟨W.fns,W.fer.map Fer.mv,i,I.name,I.mv,rfl,λj u hu=>?_,G.fn_nd,FK hI,by rw[Xq,hI];rfl,q⟩
 obtain⟨hj,rfl⟩:=Yl hu;exact⟨_,_,rfl,FK (Xc hj)⟩
theorem FL{W:Wld}(G:W.Good){c:Nat}{S:Std}(hS:SOk W c S){i:Nat}{I:Isl}(hI:W.isl[i]?=some I):valM (zipK W.ins (S.num.map natM)) (Xv I.name)=some (.int (S.num.getD i 0:Nat)):=Ub G.in_nd (V5 hI) (by rw[Xq,Ph hS hI];rfl)
theorem FM{W:Wld}(G:W.Good){ws:List Addr}{i:Nat}{I:Isl}{a:Addr}(hI:W.isl[i]?=some I) (ha:ws[i]?=some a):valM (zipK W.ins (ws.map MV.ref)) (Xv I.name)=some (.ref a):=Ub G.in_nd (V5 hI) (by rw[Xq,ha];rfl)
theorem Ct{W:Wld}(G:W.Good){gs:List Addr}{f:Str}{a:Addr}(hf:f∈W.fns)(ha:gs[W.fat f]?=some a):valM (zipK W.fns (gs.map MV.ref)) (Xv f)=some (.ref a):=Ub G.fn_nd (Uq hf).1 (by rw[Xq,ha];rfl)
theorem Cu{W:Wld}(G:W.Good){c:Nat}{S:Std}(hS:SOk W c S){f:Str}(hf:f∈W.fns):valM (zipK W.fns (S.tak.map natM)) (Xv f)=some (.int (S.tak.getD (W.fat f) 0:Nat)):=Ub G.fn_nd (Uq hf).1 (by rw[Xq,Zo4 hS (Uq hf).2];rfl)
theorem StdAt.ws_at{W:Wld}{S:Std}{M:MH}{A:StA}(h:StdAt W S M A){c:Nat}(hS:SOk W c S){i:Nat}{I:Isl}(hI:W.isl[i]?=some I):∃a,A.ws[i]?=some a/\M a=some (.dic (S.wd.getD i [])):=by
 have l:i<A.ws.length:=by rw[h.wl];exact(XE.mp hI).1
 exact⟨_,Xc l,h.wv i _ _ (Xc l) (VP hS hI)⟩
theorem StdAt.gs_at{W:Wld}{S:Std}{M:MH}{A:StA}(h:StdAt W S M A){c:Nat}(hS:SOk W c S){f:Str}(hf:f∈W.fns):∃a,A.gs[W.fat f]?=some a/\M a=some (.lst ((S.giv.getD (W.fat f) []).map MV.int)):=by
 have l:W.fat f<A.gs.length:=by rw[h.gl];exact(Uq hf).2
 exact⟨_,Xc l,h.gv _ _ _ (Xc l) (AR hS (Uq hf).2)⟩
noncomputable abbrev Cv:SpM:=λvs M Q=>∃(W:Wld) (S:Std) (A:StA) (c i:Nat) (I:Isl),vs=[W.mv,A.mv,.str I.name]/\W.Good/\SOk W c S/\StdAt W S M A/\W.isl[i]?=some I/\Q (dueM I.stps (rhoK (S.wd.getD i [])) W.w (S.num.getD i 0)) M
theorem Zal:MonW Cv:=by walk_at "m"
theorem Zfe(T:Txt K mg t):FnOk P w K mg base CX0 51 t.f_wish_of t.d_wish_of ["world","stand","name"] (liSp K Cv):=by
 refine T.F_wish_of.okM Zf3 (Xw (Φ:=[("island_of",VQ),("wish",C9)]) (Xx T) (Xy T) rfl (fMc ⟨Pn,(fMc ⟨Zdv,nl0⟩)⟩) (fMc ⟨⟨_,_,_,(FnOk.mono (Po T) (by decide)),T.m_island_of,T.F_island_of.kp,T.b_island_of⟩,(fMc ⟨⟨_,_,_,(FnOk.mono (ZkX T) (by decide)),T.m_wish,T.F_wish.kp,T.b_wish⟩,nl0⟩)⟩):Fts P w K mg base 50 LK [("island_of",VQ),("wish",C9)]) ET ZfA (fun vs M Q h=>?_) (fun vs M Q h=>?_)
 ·obtain⟨_,_,_,_,_,_,rfl,_⟩:=h;rfl
 obtain⟨W,S,A,c,i,I,rfl,G,hS,hA,hI,q⟩:=h;show wSs _ _ _ [some W.mv,some A.mv,some (.str I.name)] M;obtain⟨a,a1,a2⟩:=hA.ws_at hS hI;have ok:=G.io I (XI hI);rw[ET,LJ,Wld.mv,StA.mv]
 repeat (first|walk_at "s"|simp only[hA.n,hA.w])
 refine⟨W,i,I,rfl,G,hI,?_⟩;rw[Isl.mv]
 repeat (first|walk_at "s"|simp only[hA.n,hA.w])
 refine⟨_,FL G hS hI,_,FM G hI a1,?_⟩;refine⟨_,a,I.stps,S.num.getD i 0,W.w,S.wd.getD i [],rhoK (S.wd.getD i []),I.vars,rfl,.inl rfl,λs hs=>Pf (ok.st s hs),hS.ni i I _ hI (Ph hS hI),G.w1,G.w2,a2,(hS.wi i I _ hI (VP hS hI)).reads ok.nd,q⟩
noncomputable def askM(s:Stp)(ρ:Str->Int)(w:Nat):MV:=match s with
 |.take f _=>.tup [.str "take",.str f]
 |.give f T=>.tup [.str "give",.str f,.int (T.val ρ w)]
 |_=>.tup [.str "own"]
theorem ZlG{ss:List Stp}{i:Nat}{s:Stp}(h:ss[i]?=some s) (ρ:Str->Int) (w:Nat):dueM ss ρ w i=askM s ρ w:=by
 unfold dueM;rw[h];cases s<;>rfl
noncomputable abbrev Cw:SpM:=λvs M Q=>∃(W:Wld) (S:Std) (A:StA) (c:Nat) (s:Stp) (ρ:Str->Int) (ns:List Str) (k:Nat),vs=[W.mv,A.mv,askM s ρ W.w]/\W.Good/\SOk W c S/\StdAt W S M A/\Zb W.fns ns k s/\Q (.bl (canM W S s)) M
theorem ZbC:MonW Cw:=by walk_at "m"
theorem Zgx(T:Txt K mg t):FnOk P w K mg base CX0 3 t.f_can_be t.d_can_be ["world","stand","asked"] (liSp K Cw):=by
 refine T.F_can_be.okM Zgd (Xw (Φ:=[("ferry_of",Cs),("two_to",Vh)]) (Xx T) (Xy T) rfl (fMc ⟨Z9m,(fMc ⟨Fl,nl0⟩)⟩) (fMc ⟨⟨_,_,_,(FnOk.mono (Zds T) (by decide)),T.m_ferry_of,T.F_ferry_of.kp,T.b_ferry_of⟩,(fMc ⟨⟨_,_,_,(FnOk.mono (Fm T) (by decide)),T.m_two_to,T.F_two_to.kp,T.b_two_to⟩,nl0⟩)⟩):Fts P w K mg base 2 LO [("ferry_of",Cs),("two_to",Vh)]) EX Zhx (fun vs M Q h=>?_) (fun vs M Q h=>?_)
 ·obtain⟨_,_,_,_,_,_,_,_,rfl,_⟩:=h;rfl
 obtain⟨W,S,A,c,s,ρ,ns,k,rfl,G,hS,hA,si,q⟩:=h;show wSs _ _ _ [some W.mv,some A.mv,some (askM s ρ W.w),none] M;rw[EX,LN,Wld.mv,StA.mv];cases s with
 |put x T=>
  simp only[askM];walk_at "s";rw[EW];walk_at "s";exact q
 |jump x T=>
  simp only[askM];walk_at "s";rw[EW];walk_at "s";exact q
 |take f x=>
  simp only[askM];obtain⟨a,a1,a2⟩:=hA.gs_at hS si.1;walk_at "s";rw[EV]
  repeat (first|walk_at "s"|simp only[hA.g,hA.t])
  refine⟨_,Ct G si.1 a1,?_⟩
  repeat (first|walk_at "s"|simp only[a2,hA.t])
  refine⟨_,Cu G hS si.1,?_⟩;walk_at "s";rw[EU];walk_at "s";rw[LM];walk_at "s";have e:canM W S (.take f x)=decide ((((S.giv.getD (W.fat f) []).map MV.int).length:Int) - (S.tak.getD (W.fat f) 0:Nat)>0):=by
   unfold canM;rw[X7];exact decide_eq_decide.mpr ⟨λh=>by lia,λh=>by lia⟩
  rw[e]at q;exact q
 |give f T=>
  simp only[askM];obtain⟨a,a1,a2⟩:=hA.gs_at hS si.1;obtain⟨hf1,hf2⟩:=Uq si.1;have hf3:=Xc hf2;have hn:(W.fer[W.fat f]).name=f:=by have:=FK hf3;rw[hf1]at this;exact(Yq this).symm
  have fo:=G.fo _ (XV hf2);have k3:=fo.k3;walk_at "s";rw[EV]
  repeat (first|walk_at "s"|simp only[hA.g,hA.t])
  refine⟨_,Ct G si.1 a1,?_⟩
  repeat (first|walk_at "s"|simp only[a2,hA.t])
  refine⟨_,Cu G hS si.1,?_⟩;walk_at "s";rw[EU];walk_at "s";rw[LL];walk_at "s";refine⟨W,W.fat f,W.fer[W.fat f],by rw[hn];rfl,G,hf3,?_⟩
  rw[Fer.mv];walk_at "s";refine⟨(W.fer[W.fat f]).k,rfl,by lia,?_⟩
  walk_at "s";have e:(W.fer.map (·.k)).getD (W.fat f) 0=(W.fer[W.fat f]).k:=by rw[Yc,Xq,hf3];rfl
  have e2:canM W S (.give f T)=decide (((S.giv.getD (W.fat f) []).length:Int) - (S.tak.getD (W.fat f) 0:Nat)<2^(W.fer.map (·.k)).getD (W.fat f) 0):=rfl;rw[e2,e]at q;rw[X7];exact q
noncomputable def StA.own(A:StA):List Addr:=A.pn::A.pw::A.pg::A.pt::A.gs
structure StA.New (A:StA) (M0:MH):Prop where
 nd:A.own.Nodup
 fr:∀a∈A.own,M0 a=none
 ws:∀a∈A.ws,a∉A.own
theorem Cy{A:StA}(nd:A.own.Nodup):(A.pn≠A.pw/\A.pn≠A.pg/\A.pn≠A.pt/\A.pn∉A.gs)/\(A.pw≠A.pg/\A.pw≠A.pt/\A.pw∉A.gs)/\(A.pg≠A.pt/\A.pg∉A.gs)/\A.pt∉A.gs/\A.gs.Nodup:=by
 unfold StA.own at nd;simp only[YO,Xt,not_or]at nd;obtain⟨⟨a1,a2,a3,a4⟩,⟨b1,b2,b3⟩,⟨c1,c2⟩,d1,e⟩:=nd;exact⟨⟨a1,a2,a3,a4⟩,⟨b1,b2,b3⟩,⟨c1,c2⟩,d1,e⟩
theorem Pp{M:MH}{x a:Addr}{o:MO}(h:updM M x o a=none):M a=none:=by
 by_cases e:a=x
 ·subst e;rw[Xg]at h;cases h
 ·rwa [Xp e]at h
theorem AS{A:StA}{a:Addr}(h:a∈A.gs):a∈A.own:=by simp[StA.own,h]
theorem StdAt.put_t{W:Wld}{B:Std}{M M0:MH}{A:StA}(h:StdAt W B M A)(N:A.New M0)(t:List Nat):StdAt W {B with tak:=t} (updM M A.pt (.dic (zipK W.fns (t.map natM)))) A:=by
 obtain⟨⟨a1,a2,a3,a4⟩,⟨b1,b2,b3⟩,⟨c1,c2⟩,d1,e⟩:=Cy N.nd;refine⟨?_,?_,?_,Xg,h.wl,h.gl,λi a k x y=>?_,λi a k x y=>?_⟩
 ·rw[Xp a3];exact h.n
 ·rw[Xp b2];exact h.w
 ·rw[Xp c1];exact h.g
 ·rw[Xp λz=>N.ws a (XI x) (by rw[z];simp[StA.own])];exact h.wv i a k x y
 ·rw[Xp λz=>d1 (by rw[<- z];exact XI x)];exact h.gv i a k x y
theorem StdAt.put_n{W:Wld}{B:Std}{M M0:MH}{A:StA}(h:StdAt W B M A)(N:A.New M0)(t:List Nat):StdAt W {B with num:=t} (updM M A.pn (.dic (zipK W.ins (t.map natM)))) A:=by
 obtain⟨⟨a1,a2,a3,a4⟩,⟨b1,b2,b3⟩,⟨c1,c2⟩,d1,e⟩:=Cy N.nd;refine⟨Xg,?_,?_,?_,h.wl,h.gl,λi a k x y=>?_,λi a k x y=>?_⟩
 ·rw[Xp λz=>a1 z.symm];exact h.w
 ·rw[Xp λz=>a2 z.symm];exact h.g
 ·rw[Xp λz=>a3 z.symm];exact h.t
 ·rw[Xp λz=>N.ws a (XI x) (by rw[z];simp[StA.own])];exact h.wv i a k x y
 ·rw[Xp λz=>a4 (by rw[<- z];exact XI x)];exact h.gv i a k x y
theorem StdAt.put_g{W:Wld}{B:Std}{M M0:MH}{A:StA}(h:StdAt W B M A)(N:A.New M0){j:Nat}{b:Addr}(hb:A.gs[j]?=some b) (xs:List Int):StdAt W {B with giv:=B.giv.set j xs} (updM M b (.lst (xs.map MV.int))) A:=by
 obtain⟨⟨a1,a2,a3,a4⟩,⟨b1,b2,b3⟩,⟨c1,c2⟩,d1,e⟩:=Cy N.nd;have hm:=XI hb;refine⟨?_,?_,?_,?_,h.wl,h.gl,λi a k x y=>?_,λi a k x y=>?_⟩
 ·rw[Xp λz:A.pn=b=>a4 (by rw[z];exact hm)];exact h.n
 ·rw[Xp λz:A.pw=b=>b3 (by rw[z];exact hm)];exact h.w
 ·rw[Xp λz:A.pg=b=>c2 (by rw[z];exact hm)];exact h.g
 ·rw[Xp λz:A.pt=b=>d1 (by rw[z];exact hm)];exact h.t
 ·rw[Xp λz=>N.ws a (XI x) (by rw[z];exact AS hm)];exact h.wv i a k x y
 ·rcases YJ y with⟨rfl,rfl⟩|⟨ne,y⟩
  ·rw[hb]at x;cases x;exact Xg
  ·rw[Xp λz=>ne ?_]
   ·exact h.gv i a k x y
   ·subst z;exact(Bb (XE.mp x).1 e).mp (x.trans hb.symm)
theorem StdAt.put_w{W:Wld}{B:Std}{M M0:MH}{A:StA}(h:StdAt W B M A)(N:A.New M0)(i:Nat){p:Addr}{kvs:List (Key×MV)}(hp:M p=some (.dic kvs))(np:p∉A.own):
  StdAt W {B with wd:=B.wd.set i kvs} (updM M A.pw (.dic (zipK W.ins ((A.ws.set i p).map MV.ref)))) {A with ws:=A.ws.set i p}/\StA.New {A with ws:=A.ws.set i p} M0:=by
 obtain⟨⟨a1,a2,a3,a4⟩,⟨b1,b2,b3⟩,⟨c1,c2⟩,d1,e⟩:=Cy N.nd;refine⟨⟨?_,Xg,?_,?_,by rw[Vq];exact h.wl,h.gl,λi' a k x y=>?_,λj a k x y=>?_⟩,N.nd,N.fr,λa ha=>?_⟩
 ·rw[Xp a1];exact h.n
 ·rw[Xp λz=>b1 z.symm];exact h.g
 ·rw[Xp λz=>b2 z.symm];exact h.t
 ·have hm:a∉A.own:=by
   rcases YJ x with⟨_,rfl⟩|⟨_,x⟩
   ·exact np
   ·exact N.ws a (XI x)
  rw[Xp λz=>hm (by rw[z];simp[StA.own])]
  rcases YJ x with⟨rfl,rfl⟩|⟨ne,x⟩
  ·rcases YJ y with⟨_,rfl⟩|⟨ne,y⟩
   ·exact hp
   ·exact(ne rfl).elim
  ·rcases YJ y with⟨rfl,_⟩|⟨_,y⟩
   ·exact(ne rfl).elim
   ·exact h.wv i' a k x y
 ·rw[Xp λz=>b3 (by rw[<- z];exact XI x)];exact h.gv j a k x y
 ·rcases WT ha with ha|rfl
  ·exact N.ws a ha
  ·exact np
noncomputable abbrev Cz:SpM:=λvs M Q=>∃(W:Wld) (S B:Std) (A A2:StA) (M0:MH) (c d i:Nat) (I:Isl) (s:Stp),vs=[W.mv,A.mv,.str I.name,askM s (rhoK (S.wd.getD i [])) W.w,A2.mv]/\W.Good/\SOk W c S/\SOk W d B/\d≤1000/\StdAt W S M0 A/\SameM M0 M/\StdAt W B M A2/\A2.New M0/\W.isl[i]?=some I/\Ur W S i I=some s/\
 ∀M' ws,SameM M0 M'->StA.New {A2 with ws:=ws} M0->(∀a∈ws,a∈A2.ws\/M a=none)->StdAt W (Vn W S i s B) M' {A2 with ws:=ws}->Q .non M'
theorem Zao:MonW Cz:=by walk_at "m"
theorem Zfh(T:Txt K mg t):FnOk P w K mg base CX0 52 t.f_do_step t.d_do_step ["world","stand","name","asked","behind"] (liSp K Cz):=by
 refine T.F_do_step.okM Zf7 (Xw (Φ:=[("after",AE),("island_of",VQ)]) (Xx T) (Xy T) rfl (fMc ⟨Zcn,(fMc ⟨Pn,nl0⟩)⟩) (fMc ⟨⟨_,_,_,(FnOk.mono (Ziw T) (by decide)),T.m_after,T.F_after.kp,T.b_after⟩,(fMc ⟨⟨_,_,_,(FnOk.mono (Po T) (by decide)),T.m_island_of,T.F_island_of.kp,T.b_island_of⟩,nl0⟩)⟩):Fts P w K mg base 51 LY [("after",AE),("island_of",VQ)]) EZ ZfE (fun vs M Q h=>?_) (fun vs M Q h=>?_)
 ·obtain⟨_,_,_,_,_,_,_,_,_,_,_,rfl,_⟩:=h;rfl
 obtain⟨W,S,B,A,A2,M0,c,d,i,I,s,rfl,G,hS,hB,hd,hA,s0,h2,N,hI,hg,q⟩:=h;show wSs _ _ _ [some W.mv,some A.mv,some (.str I.name),some (askM s (rhoK (S.wd.getD i [])) W.w),some A2.mv,none,none,none,none] M;obtain⟨hs,hc⟩:=FJ hg;have si:=Cp G hI hs;have hn:S.num.getD i 0<I.stps.length:=(XE.mp hs).1;have ok:=G.io I (XI hI);have wd:=hS.wi i I _ hI (VP hS hI);have nv:=ok.nv;have i5:=G.i5;have f6:=G.f6;have vl:I.vars.length=I.prs.length:=by unfold Isl.vars;rw[X7]
 have li:W.ins.length=W.isl.length:=by unfold Wld.ins;rw[X7]
 have lf:W.fns.length=W.fer.length:=by unfold Wld.fns;rw[X7]
 have hIl:i<W.isl.length:=(XE.mp hI).1;have rest:∀(M1:MH) (B1:Std) (v6:Option MV),SameM M0 M1->(∀a,M1 a=none->M a=none)->StdAt W B1 M1 A2->B1.num.length=W.isl.length->B1.giv.length=W.fer.length->{B1 with num:=B1.num.set i (Yi s (rhoK (S.wd.getD i [])) W.w (S.num.getD i 0)).toNat,wd:=B1.wd.set i (V3 s (S.wd.getD i []) (rhoK (S.wd.getD i [])) W.w (UR W S s))}=Vn W S i s B->
   wSs ([("after",AE),("island_of",VQ)]:List (Str×SpM)) EY {nx:=fun _ M'=>Q .non M',rt:=Q} [some W.mv,some A.mv,some (.str I.name),some (askM s (rhoK (S.wd.getD i [])) W.w),some A2.mv,some (UR W S s),v6,none,none] M1:=by
  intro M1 B1 v6 s1 fd h1 ln lg eB;have hA1:=hA.keep s1;obtain⟨a,a1,a2⟩:=hA1.ws_at hS hI;rw[EY];walk_at "s";refine⟨W,i,I,rfl,G,hI,?_⟩;rw[Isl.mv];walk_at "s";rw[LR,Wld.mv,StA.mv]
  repeat (first|walk_at "s"|simp only[hA1.n,hA1.w])
  refine⟨_,FL G hS hI,_,FM G hI a1,?_⟩;refine⟨_,a,I.stps,S.num.getD i 0,W.w,S.wd.getD i [],rhoK (S.wd.getD i []),I.vars,s,UR W S s,rfl,.inl rfl,hs,Pf si,G.w1,G.w2,a2,by rw[wd.len];lia,wd.reads ok.nd,λp hp=>?_⟩
  have s2:=SameM.new hp (.dic (V3 s (S.wd.getD i []) (rhoK (S.wd.getD i [])) W.w (UR W S s)));have hp2:updM M1 p (.dic (V3 s (S.wd.getD i []) (rhoK (S.wd.getD i [])) W.w (UR W S s))) p=some (.dic (V3 s (S.wd.getD i []) (rhoK (S.wd.getD i [])) W.w (UR W S s))):=Xg;generalize updM M1 p _=M2 at*;have s02:=s1.trans s2;have h2:=h1.keep s2;have p0:=fd p hp;have np:p∉A2.own:=λz=>by
   have hh:∃o,M1 p=some o:=by
    unfold StA.own at z;simp only[Xt]at z;rcases z with z|z|z|z|z
    ·exact⟨_,z▸h1.n⟩
    ·exact⟨_,z▸h1.w⟩
    ·exact⟨_,z▸h1.g⟩
    ·exact⟨_,z▸h1.t⟩
    ·obtain⟨j,hj,e⟩:=Yd z;have hj2:j<B1.giv.length:=by rw[lg,<- h1.gl];exact hj
     exact⟨_,e▸h1.gv j _ _ (Xc hj) (Xc hj2)⟩
   obtain⟨o,ho⟩:=hh;rw[hp]at ho;cases ho
  obtain⟨l1,l2,l3⟩:=Pg (ρ:=rhoK (S.wd.getD i [])) (w:=W.w) si hn;walk_at "s";rw[LQ,StA.mv]
  repeat (first|walk_at "s"|simp only[h2.n])
  rw[VO (by rw[X7,ln,li]),WD (i:=i) (by rw[X7,ln,li]) G.in_nd (V5 hI),l3]
  refine⟨by lia,?_⟩
  have e3:(B1.num.map natM).set i (.int ((Yi s (rhoK (S.wd.getD i [])) W.w (S.num.getD i 0)).toNat:Nat))=(B1.num.set i (Yi s (rhoK (S.wd.getD i [])) W.w (S.num.getD i 0)).toNat).map natM:=by rw[W8];rfl
  rw[e3];have h3:=h2.put_n N (B1.num.set i (Yi s (rhoK (S.wd.getD i [])) W.w (S.num.getD i 0)).toNat);have s3:=s02.upd (N.fr A2.pn (by simp[StA.own])) (.dic (zipK W.ins ((B1.num.set i (Yi s (rhoK (S.wd.getD i [])) W.w (S.num.getD i 0)).toNat).map natM)))
  have hp3:updM M2 A2.pn (.dic (zipK W.ins ((B1.num.set i (Yi s (rhoK (S.wd.getD i [])) W.w (S.num.getD i 0)).toNat).map natM))) p=some (.dic (V3 s (S.wd.getD i []) (rhoK (S.wd.getD i [])) W.w (UR W S s))):=by rw[Xp λz=>np (by rw[z];simp[StA.own])];exact hp2
  generalize updM M2 A2.pn _=M3 at*;rw[LP]
  repeat (first|walk_at "s"|simp only[h3.w])
  rw[VO (by rw[X7,h1.wl,li]),WD (i:=i) (by rw[X7,h1.wl,li]) G.in_nd (V5 hI)]
  refine⟨by lia,?_⟩
  have e4:(A2.ws.map MV.ref).set i (.ref p)=(A2.ws.set i p).map MV.ref:=by rw[W8]
  rw[e4];obtain⟨h4,N4⟩:=h3.put_w N i hp3 np;exact q _ _ (s3.upd (N.fr A2.pw (by simp[StA.own])) _) N4 (λx hx=>(WT hx).elim .inl λz=>.inr (by rw[z];exact p0)) (eB▸h4)
 rw[EZ,LX];walk_at "s";rw[LW];cases s with
 |take f x=>
  obtain⟨v,w1,w2,w3⟩:=Pi hS si.1 hc;have hA1:=hA.keep s0;obtain⟨b,b1,b2⟩:=hA1.gs_at hS si.1;simp only[askM];walk_at "s";rw[LV];walk_at "s";rw[LU,StA.mv]
  repeat (first|walk_at "s"|simp only[hA1.g,hA1.t])
  refine⟨_,Ct G si.1 b1,?_⟩
  repeat (first|walk_at "s"|simp only[hA1.t,b2])
  refine⟨_,Cu G hS si.1,?_⟩
  repeat (first|walk_at "s"|simp only[b2])
  refine⟨.int v,Z9 (by rw[Xq,w2];rfl),?_⟩
  rw[LT]
  repeat (first|walk_at "s"|simp only[hA1.t])
  refine⟨_,Cu G hS si.1,?_⟩;rw[StA.mv]
  repeat (first|walk_at "s"|simp only[h2.t])
  rw[VO (by rw[X7,hB.tl,lf]),WD (i:=W.fat f) (by rw[X7,hB.tl,lf]) G.fn_nd (Uq si.1).1]
  refine⟨by lia,?_⟩
  have e3:(B.tak.map natM).set (W.fat f) (.int ((S.tak.getD (W.fat f) 0:Nat)+1))=(B.tak.set (W.fat f) (S.tak.getD (W.fat f) 0+1)).map natM:=by rw[W8];rfl
  rw[e3];have h3:=h2.put_t N (B.tak.set (W.fat f) (S.tak.getD (W.fat f) 0+1));have s3:=s0.upd (N.fr A2.pt (by simp[StA.own])) (.dic (zipK W.fns ((B.tak.set (W.fat f) (S.tak.getD (W.fat f) 0+1)).map natM)))
  have fd3:∀a,updM M A2.pt (.dic (zipK W.fns ((B.tak.set (W.fat f) (S.tak.getD (W.fat f) 0+1)).map natM))) a=none->M a=none:=λ_=>Pp;generalize updM M A2.pt _=M3 at*;rw[AD];walk_at "s";have r:=rest M3 _ (some (.str f)) s3 fd3 h3 hB.nl hB.gl rfl;rw[w1]at r;exact r
 |give f T=>
  obtain⟨b,b1,b2⟩:=h2.gs_at hB si.1;have hgi:=(hB.gi _ (XI (AR hB (Uq si.1).2))).1;simp only[askM];walk_at "s";rw[AD];walk_at "s";rw[LS,StA.mv,StA.mv]
  repeat (first|walk_at "s"|simp only[h2.g])
  refine⟨_,Ct G si.1 b1,?_⟩
  repeat (first|walk_at "s"|simp only[b2])
  rw[X7];refine⟨⟨_,rfl⟩,by lia,?_⟩
  have e3:(B.giv.getD (W.fat f) []).map MV.int++[.int (T.val (rhoK (S.wd.getD i [])) W.w)]=(B.giv.getD (W.fat f) []++[T.val (rhoK (S.wd.getD i [])) W.w]).map MV.int:=by simp
  rw[e3];have h3:=h2.put_g N b1 (B.giv.getD (W.fat f) []++[T.val (rhoK (S.wd.getD i [])) W.w]);have s3:=s0.upd (N.fr b (AS (XI b1))) (.lst ((B.giv.getD (W.fat f) []++[T.val (rhoK (S.wd.getD i [])) W.w]).map MV.int));have fd3:∀a,updM M b (.lst ((B.giv.getD (W.fat f) []++[T.val (rhoK (S.wd.getD i [])) W.w]).map MV.int)) a=none->M a=none:=λ_=>Pp;generalize updM M b _=M3 at*;exact rest M3 _ none s3 fd3 h3 hB.nl (by rw[Vq];exact hB.gl) rfl
 |put x T=>
  simp only[askM];walk_at "s";rw[AD];walk_at "s";exact rest M B none s0 (λ_ z=>z) h2 hB.nl hB.gl rfl
 |jump T j=>
  simp only[askM];walk_at "s";rw[AD];walk_at "s";exact rest M B none s0 (λ_ z=>z) h2 hB.nl hB.gl rfl
theorem VR{ks:List Str}{α:Type}{xs:List α}(h:xs.length=ks.length):(ks.zip xs).map (·.1)=ks:=CV (by lia)
theorem CA{ks:List Str}{vs:List MV}(h:vs.length=ks.length):(zipK ks vs).map (λp=>kM p.1)=ks.map MV.str:=by
 have:=WC h;have e:(zipK ks vs).map (λp=>kM p.1)=((zipK ks vs).map (·.1)).map kM:=by rw[XW];rfl
 rw[e,this,XW];rfl
theorem CB{α β:Type}{xs:List α}{ys:List β}{p:α×β}(h:p∈xs.zip ys):∃i:Nat,xs[i]?=some p.1/\ys[i]?=some p.2:=by
 obtain⟨i,hi,rfl⟩:=Yd h;rw[UB]at hi;refine⟨i,?_,?_⟩<;>rw[List.getElem_zip,Xc]
theorem Pq{α β:Type}{xs:List α}{ys:List β}{i:Nat}{x:α}{y:β}(h1:xs[i]?=some x) (h2:ys[i]?=some y):(xs.zip ys)[i]?=some (x,y):=by
 rw[CN];exact⟨h1,h2⟩
theorem Pr:∀{ks:List Str} {vs:List MV} {i:Nat} {k:Str} {v:MV},ks[i]?=some k->vs[i]?=some v->(Xv k,v)∈zipK ks vs
 |[],_,_,_,_,h,_=>by simp at h
 |_::_,[],_,_,_,_,h=>by simp at h
 |a::ks,b::vs,0,k,v,h1,h2=>by simp at h1 h2;subst h1 h2;exact Yg ..
 |a::ks,b::vs,i+1,k,v,h1,h2=>Ya _ (Pr (by simpa using h1) (by simpa using h2))
theorem StdAt.ws_ne{W:Wld}{S:Std}{M:MH}{A:StA}(h:StdAt W S M A)(G:W.Good){c:Nat}(hS:SOk W c S){i:Nat}{a:Addr}(ha:A.ws[i]?=some a):a≠A.pw:=by
 intro e;have hi:i<W.isl.length:=by rw[<- h.wl];exact(XE.mp ha).1
 have hI:=Xc hi;have h1:=h.wv i a _ ha (VP hS hI);rw[e,h.w]at h1;have z:zipK W.ins (A.ws.map MV.ref)=S.wd.getD i []:=by injection h1 with h1;injection h1
 have:=((hS.wi i _ _ hI (VP hS hI)).nodup (G.io _ (XV hi)).nd).2 (Xv (W.isl[i]).name,.ref a);have:=this (by rw[<- z];exact Pr (V5 hI) (by rw[Xq,ha];rfl))
 cases this
noncomputable abbrev CC:SpM:=λvs M Q=>∃(W:Wld) (S:Std) (A:StA) (c:Nat),vs=[A.mv]/\W.Good/\SOk W c S/\StdAt W S M A/\∀M' A',SameM M M'->StdAt W S M' A'->A'.New M->(∀a∈A'.ws,M a=none)->Q A'.mv M'
theorem Zap:MonW CC:=by walk_at "m"
theorem Zfi(T:Txt K mg t):FnOk P w K mg base CX0 1 t.f_copy_of t.d_copy_of ["stand"] (liSp K CC):=by
 refine T.F_copy_of.okM Zf8 (Xw (Φ:=[]) (Xx T) (Xy T) rfl nl0 nl0:Fts P w K mg base 0 LI []) ES ZfF (λvs M Q h=>?_) (λvs M Q h=>?_)
 ·obtain⟨_,_,_,_,rfl,_⟩:=h;rfl
 obtain⟨W,S,A,c,rfl,G,hS,hA,q⟩:=h;show wSs _ _ _ [some A.mv,none,none] M;have i5:=G.i5;have f6:=G.f6;have li:W.ins.length=W.isl.length:=by unfold Wld.ins;rw[X7]
 have lf:W.fns.length=W.fer.length:=by unfold Wld.fns;rw[X7]
 have hΦ:=(Z2 (Φ:=[]) nl0);rw[ES,LH,StA.mv];walk_at "s";refine Co (W.ins.zip S.wd) (λx=>.str x.1) (·.1) (λx=>.dic x.2) (λM1=>∃o,M1=updM M A.pw (.fdic o (zipK W.ins (A.ws.map MV.ref)))) ?_ ?_ hΦ λD1 ws M1 hD1 s1 l1 nd1 dn1 fr1 at1 hd1=>?_
 ·repeat (first|walk_at "s"|simp only[hA.w])
  intro o;refine⟨?_,by rw[UB];lia,.inr ⟨_,_,_,rfl,hA.w,rfl⟩,o,rfl⟩
  show(zipK W.ins (A.ws.map MV.ref)).map (λp=>kM p.1)=_;rw[CA (by rw[X7,hA.wl,li])]
  conv=>lhs;rw[<- VR (ks:=W.ins) (xs:=S.wd) (by rw[hS.wl,li])]
  rw[XW];rfl
 ·rintro⟨z,kvs⟩ hx M1 M' ⟨o,rfl⟩ s;obtain⟨i,i1,i2⟩:=CB hx;have hw:=s _ _ (Xg (M:=M));have hi:i<A.ws.length:=by rw[hA.wl,<- li];exact(XE.mp i1).1
  have hv:=hA.wv i _ _ (Xc hi) i2;have hne:A.ws[i]≠A.pw:=hA.ws_ne G hS (Xc hi);have hv':=s _ _ ((Xp (M:=M) hne).trans hv);simp only[sCm,XC,Y2,Ye,Yf,Yb,Y7]
  repeat (first|walk_at "s"|simp only[hw])
  refine⟨.ref A.ws[i],Ub G.in_nd i1 (by rw[Xq,Xc hi];rfl),?_⟩
  repeat (first|walk_at "s"|simp only[hv'])
  intro p hp;exact⟨p,hp,rfl,rfl⟩
 rw[VR (by rw[hS.wl,li])]at hd1
 rw[UB,hS.wl,li,Nat.min_self]at l1;have lw:(ws.map MV.ref).length=W.ins.length:=by rw[X7,l1,li]
 repeat (first|walk_at "s"|simp only[hd1])
 refine⟨_,rfl,λpw hpw=>?_⟩;rw[V4 lw G.in_nd];have s2:=SameM.new hpw (.dic (zipK W.ins (ws.map MV.ref)));have h2:updM M1 pw (.dic (zipK W.ins (ws.map MV.ref))) pw=some (.dic (zipK W.ins (ws.map MV.ref))):=Xg;generalize updM M1 pw _=M2 at*;have hA2:=hA.keep (s1.trans s2);rw[LG];walk_at "s";refine Co (W.fns.zip S.giv) (λx=>.str x.1) (·.1) (λx=>.lst (x.2.map MV.int)) (λM3=>∃o,M3=updM M2 A.pg (.fdic o (zipK W.fns (A.gs.map MV.ref)))) ?_ ?_ hΦ λD2 gs M3 hD2 s3 l3 nd3 dn3 fr3 at3 hd3=>?_
 ·repeat (first|walk_at "s"|simp only[hA2.g])
  intro o;refine⟨?_,by rw[UB];lia,.inr ⟨_,_,_,rfl,hA2.g,rfl⟩,o,rfl⟩
  show(zipK W.fns (A.gs.map MV.ref)).map (λp=>kM p.1)=_;rw[CA (by rw[X7,hA.gl,lf])]
  conv=>lhs;rw[<- VR (ks:=W.fns) (xs:=S.giv) (by rw[hS.gl,lf])]
  rw[XW];rfl
 ·rintro⟨z,xs⟩ hx Ma M' ⟨o,rfl⟩ s;obtain⟨i,i1,i2⟩:=CB hx;have hw:=s _ _ (Xg (M:=M2));have hi:i<A.gs.length:=by rw[hA.gl,<- lf];exact(XE.mp i1).1
  have hv:=hA2.gv i _ _ (Xc hi) i2;have hne:A.gs[i]≠A.pg:=λe=>by rw[e,hA2.g]at hv;cases hv
  have hv':=s _ _ ((Xp (M:=M2) hne).trans hv);simp only[sCm,XC,Y2,Ye,Yf,Yb,Y7]
  repeat (first|walk_at "s"|simp only[hw])
  refine⟨.ref A.gs[i],Ub G.fn_nd i1 (by rw[Xq,Xc hi];rfl),?_⟩
  repeat (first|walk_at "s"|simp only[hv'])
  intro p hp;exact⟨p,hp,rfl,rfl⟩
 rw[VR (by rw[hS.gl,lf])]at hd3
 rw[UB,hS.gl,lf,Nat.min_self]at l3;have lg:(gs.map MV.ref).length=W.fns.length:=by rw[X7,l3,lf]
 repeat (first|walk_at "s"|simp only[hd3])
 refine⟨_,rfl,λpg hpg=>?_⟩;rw[V4 lg G.fn_nd];have s4:=SameM.new hpg (.dic (zipK W.fns (gs.map MV.ref)));have h4:updM M3 pg (.dic (zipK W.fns (gs.map MV.ref))) pg=some (.dic (zipK W.fns (gs.map MV.ref))):=Xg;generalize updM M3 pg _=M4 at*;have s24:=s3.trans s4;have s04:=(s1.trans s2).trans s24;have hA4:=hA.keep s04;rw[LF]
 repeat (first|walk_at "s"|simp only[hA4.n])
 intro pn hpn;have s5:=SameM.new hpn (.dic (zipK W.ins (S.num.map natM)));have h5:updM M4 pn (.dic (zipK W.ins (S.num.map natM))) pn=some (.dic (zipK W.ins (S.num.map natM))):=Xg;generalize updM M4 pn _=M5 at*;have hA5:=hA4.keep s5
 repeat (first|walk_at "s"|simp only[hA5.t])
 intro pt hpt;have s6:=SameM.new hpt (.dic (zipK W.fns (S.tak.map natM)));have h6:updM M5 pt (.dic (zipK W.fns (S.tak.map natM))) pt=some (.dic (zipK W.fns (S.tak.map natM))):=Xg;generalize updM M5 pt _=M6 at*;have s46:=s5.trans s6;have s36:=s4.trans s46;have wv:∀(i:Nat) a kvs,ws[i]?=some a->S.wd[i]?=some kvs->M1 a=some (.dic kvs):=λi a kvs x y=>by
  have hi:i<W.ins.length:=by rw[li,<- l1];exact(XE.mp x).1
  exact at1 i a (W.ins[i],kvs) x (Pq (Xc hi) y)
 have gv:∀(i:Nat) a xs,gs[i]?=some a->S.giv[i]?=some xs->M3 a=some (.lst (xs.map MV.int)):=λi a xs x y=>by
  have hi:i<W.fns.length:=by rw[lf,<- l3];exact(XE.mp x).1
  exact at3 i a (W.fns[i],xs) x (Pq (Xc hi) y)
 have wm:∀a∈ws,∃o,M1 a=some o:=λa ha=>by
  obtain⟨i,hi,rfl⟩:=Yd ha;have hi2:i<S.wd.length:=by rw[hS.wl,<- l1];exact hi
  exact⟨_,wv i _ _ (Xc hi) (Xc hi2)⟩
 have gm:∀a∈gs,∃o,M3 a=some o:=λa ha=>by
  obtain⟨i,hi,rfl⟩:=Yd ha;have hi2:i<S.giv.length:=by rw[hS.gl,<- l3];exact hi
  exact⟨_,gv i _ _ (Xc hi) (Xc hi2)⟩
 refine q M6 ⟨pn,pw,pg,pt,ws,gs⟩ (s04.trans s46) ⟨s6 _ _ h5,(s24.trans s46) _ _ h2,s46 _ _ h4,h6,l1,l3,λi a k x y=>((s2.trans s24).trans s46) _ _ (wv i a k x y),λi a k x y=>s36 _ _ (gv i a k x y)⟩ ⟨?_,?_,?_⟩ (λa ha=>fr1 a ha)
 ·show(pn::pw::pg::pt::gs).Nodup;simp only[YO,Xt,not_or];refine⟨⟨(neM (s24 _ _ h2) hpn).symm,(neM h4 hpn).symm,neM h5 hpt,λz=>?_⟩,⟨neM (s3 _ _ h2) hpg,neM ((s24.trans s5) _ _ h2) hpt,λz=>?_⟩,⟨neM (s5 _ _ h4) hpt,λz=>?_⟩,λz=>?_,nd3⟩
  ·obtain⟨o,ho⟩:=gm _ z;exact neM (s4 _ _ ho) hpn rfl
  ·exact neM h2 (fr3 _ z) rfl
  ·obtain⟨o,ho⟩:=gm _ z;exact neM ho hpg rfl
  ·obtain⟨o,ho⟩:=gm _ z;exact neM ((s4.trans s5) _ _ ho) hpt rfl
 ·intro a ha;have ha:a∈pn::pw::pg::pt::gs:=ha;simp only[Xt]at ha;rcases ha with rfl|rfl|rfl|rfl|ha
  ·exact s04.free hpn
  ·exact s1.free hpw
  ·exact((s1.trans s2).trans s3).free hpg
  ·exact(s04.trans s5).free hpt
  ·exact(s1.trans s2).free (fr3 _ ha)
 ·intro a ha hb;obtain⟨o,ho⟩:=wm a ha;have hb:a∈pn::pw::pg::pt::gs:=hb;simp only[Xt]at hb;rcases hb with rfl|rfl|rfl|rfl|hb
  ·exact neM ((s2.trans s24) _ _ ho) hpn rfl
  ·exact neM ho hpw rfl
  ·exact neM ((s2.trans s3) _ _ ho) hpg rfl
  ·exact neM (((s2.trans s24).trans s5) _ _ ho) hpt rfl
  ·exact neM (s2 _ _ ho) (fr3 _ hb) rfl
noncomputable def wd0(I:Isl):List (Key×MV):=zipK I.vars (I.prs.map λp=>.int p.2)
noncomputable def XZ(W:Wld):Std:=⟨W.isl.map λ_=>0,W.isl.map wd0,W.fer.map λ_=>[],W.fer.map λ_=>0⟩
theorem Ps{W:Wld}(G:W.Good):SOk W 0 (XZ W):=by
 refine⟨X7 _,X7 _,X7 _,X7 _,λi I n hI h=>?_,λi I kvs hI h=>?_,λxs hx=>?_,λj xs n h1 h2=>?_⟩
 ·rw[show(XZ W).num=W.isl.map λ_=>0 from rfl,Xq,hI]at h;cases h;exact YD _
 ·rw[show(XZ W).wd=W.isl.map wd0 from rfl,Xq,hI]at h;cases h;have ok:=G.io I (XI hI);refine⟨I.prs.map (·.2),by unfold Isl.vars;rw[X7,X7],?_,λv hv=>?_⟩
  ·unfold wd0;rw[XW];rfl
  ·obtain⟨p,hp,rfl⟩:=XN.mp hv;exact ok.wd p hp
 ·obtain⟨_,_,rfl⟩:=XN.mp hx;exact⟨Xl _,λv hv=>(nomatch hv)⟩
 ·rw[show(XZ W).tak=W.fer.map λ_=>0 from rfl,Xq]at h2;cases hf:W.fer[j]? with
  |none=>rw[hf]at h2;cases h2
  |some f=>rw[hf]at h2;cases h2;exact YD _
theorem Pt(I:Isl):I.prs.map prV=(wd0 I).map prM:=Cn I.prs (·.1) (λp=>.int p.2)
theorem Pu{I:Isl}(nd:I.vars.Nodup):UM (wd0 I)=wd0 I:=V4 (by unfold Isl.vars;rw[X7,X7]) nd
noncomputable abbrev VS:SpM:=λvs M Q=>∃W:Wld,vs=[W.mv]/\W.Good/\∀M' A,SameM M M'->StdAt W (XZ W) M' A->A.New M->(∀a∈A.ws,M a=none)->Q A.mv M'
theorem FN:MonW VS:=by walk_at "m"
theorem Pv(T:Txt K mg t):FnOk P w K mg base CX0 1 t.f_first_stand t.d_first_stand ["world"] (liSp K VS):=by
 refine T.F_first_stand.okM Zad (Xw (Φ:=[]) (Xx T) (Xy T) rfl nl0 nl0:Fts P w K mg base 0 LE []) ER ZaB (λvs M Q h=>?_) (λvs M Q h=>?_)
 ·obtain⟨_,rfl,_⟩:=h;rfl
 obtain⟨W,rfl,G,q⟩:=h;show wSs _ _ _ [some W.mv,none,none,none,none] M;have i5:=G.i5;have f6:=G.f6;have li:W.ins.length=W.isl.length:=by unfold Wld.ins;rw[X7]
 have lf:W.fns.length=W.fer.length:=by unfold Wld.fns;rw[X7]
 have hΦ:=(Z2 (Φ:=[]) nl0);rw[ER,LD,Wld.mv];walk_at "s";refine UP W.isl Isl.mv (λx=>.tup [.str x.name,.int 0]) ?_ ?_ hΦ λD hD=>?_
 ·walk_at "s";exact⟨rfl,by lia,trivial⟩
 ·intro x hx M' s;simp only[sCm,XC,Y2,Ye,Yf,Yb,Y7]
  repeat (first|walk_at "s"|simp only[Isl.mv])
  try exact⟨rfl,rfl⟩
 have e1:(W.isl.map λx=>MV.tup [.str x.name,.int 0])=(zipK W.ins ((XZ W).num.map natM)).map prM:=by
  rw[Cn W.isl (·.name) (λ_=>.int 0),show(XZ W).num=W.isl.map λ_=>0 from rfl,XW];rfl
 have ln:((XZ W).num.map natM).length=W.ins.length:=by rw[X7,li];exact X7 _
 have lt:((XZ W).tak.map natM).length=W.fns.length:=by rw[X7,lf];exact X7 _
 rw[e1];have s1:=SameM.new hD (.lst ((zipK W.ins ((XZ W).num.map natM)).map prM));have hd1:updM M D (.lst ((zipK W.ins ((XZ W).num.map natM)).map prM)) D=some (.lst ((zipK W.ins ((XZ W).num.map natM)).map prM)):=Xg;generalize updM M D _=M1 at*
 repeat (first|walk_at "s"|simp only[hd1])
 refine⟨_,rfl,λpn hpn=>?_⟩;rw[V4 ln G.in_nd];have s2:=s1.trans (SameM.new hpn (.dic (zipK W.ins ((XZ W).num.map natM))));have h2:updM M1 pn (.dic (zipK W.ins ((XZ W).num.map natM))) pn=some (.dic (zipK W.ins ((XZ W).num.map natM))):=Xg;generalize updM M1 pn _=M2 at*;rw[LC];walk_at "s";refine Co W.isl Isl.mv (·.name) (λx=>.dic (wd0 x)) (λM3=>M3=M2) ?_ ?_ hΦ λD2 ws M3 hD2 s3 l3 nd3 dn3 fr3 at3 hd3=>?_
 ·walk_at "s";exact⟨rfl,by lia,.inl ⟨trivial,rfl⟩⟩
 ·rintro I hI Ma M' rfl s;simp only[sCm,XC,Y2,Ye,Yf,Yb,Y7]
  repeat (first|walk_at "s"|simp only[Isl.mv])
  refine⟨wd0 I,Pt I,λp hp=>?_⟩;rw[Pu (G.io I hI).nd];exact⟨p,hp,rfl,rfl⟩
 have lw:(ws.map MV.ref).length=W.ins.length:=by rw[X7,l3,li]
 have hd3:M3 D2=some (.lst ((zipK W.ins (ws.map MV.ref)).map prM)):=hd3
 repeat (first|walk_at "s"|simp only[hd3])
 refine⟨_,rfl,λpw hpw=>?_⟩;rw[V4 lw G.in_nd];have s34:=SameM.new hpw (.dic (zipK W.ins (ws.map MV.ref)));have h4:updM M3 pw (.dic (zipK W.ins (ws.map MV.ref))) pw=some (.dic (zipK W.ins (ws.map MV.ref))):=Xg;generalize updM M3 pw _=M4 at*;have s24:=s3.trans s34;rw[LB];walk_at "s";refine Co W.fer Fer.mv (·.name) (λx=>.lst []) (λM5=>M5=M4) ?_ ?_ hΦ λD5 gs M5 hD5 s5 l5 nd5 dn5 fr5 at5 hd5=>?_
 ·walk_at "s";exact⟨rfl,by lia,.inl ⟨trivial,rfl⟩⟩
 ·rintro I hI Ma M' rfl s;simp only[sCm,XC,Y2,Ye,Yf,Yb,Y7]
  repeat (first|walk_at "s"|simp only[Fer.mv])
  intro p hp;exact⟨p,hp,rfl,rfl⟩
 have lg:(gs.map MV.ref).length=W.fns.length:=by rw[X7,l5,lf]
 have hd5:M5 D5=some (.lst ((zipK W.fns (gs.map MV.ref)).map prM)):=hd5
 repeat (first|walk_at "s"|simp only[hd5])
 refine⟨_,rfl,λpg hpg=>?_⟩;rw[V4 lg G.fn_nd];have s56:=SameM.new hpg (.dic (zipK W.fns (gs.map MV.ref)));have h6:updM M5 pg (.dic (zipK W.fns (gs.map MV.ref))) pg=some (.dic (zipK W.fns (gs.map MV.ref))):=Xg;generalize updM M5 pg _=M6 at*;rw[LA];walk_at "s";refine UP W.fer Fer.mv (λx=>.tup [.str x.name,.int 0]) ?_ ?_ hΦ λD hD=>?_
 ·walk_at "s";exact⟨rfl,by lia,trivial⟩
 ·intro x hx M' s;simp only[sCm,XC,Y2,Ye,Yf,Yb,Y7]
  repeat (first|walk_at "s"|simp only[Fer.mv])
  try exact⟨rfl,rfl⟩
 have e1:(W.fer.map λx=>MV.tup [.str x.name,.int 0])=(zipK W.fns ((XZ W).tak.map natM)).map prM:=by
  rw[Cn W.fer (·.name) (λ_=>.int 0),show(XZ W).tak=W.fer.map λ_=>0 from rfl,XW];rfl
 rw[e1];have s67:=SameM.new hD (.lst ((zipK W.fns ((XZ W).tak.map natM)).map prM));have hd7:updM M6 D (.lst ((zipK W.fns ((XZ W).tak.map natM)).map prM)) D=some (.lst ((zipK W.fns ((XZ W).tak.map natM)).map prM)):=Xg;generalize updM M6 D _=M7 at*
 repeat (first|walk_at "s"|simp only[hd7])
 refine⟨_,rfl,λpt hpt=>?_⟩;rw[V4 lt G.fn_nd];have s78:=SameM.new hpt (.dic (zipK W.fns ((XZ W).tak.map natM)));have h8:updM M7 pt (.dic (zipK W.fns ((XZ W).tak.map natM))) pt=some (.dic (zipK W.fns ((XZ W).tak.map natM))):=Xg;generalize updM M7 pt _=M8 at*;rw[Lz];walk_at "s";have s68:=s67.trans s78;have s48:=(s5.trans s56).trans s68;have wm:∀a∈ws,∃o,M3 a=some o:=λa ha=>by
  obtain⟨i,hi,rfl⟩:=Yd ha;exact⟨_,at3 i _ _ (Xc hi) (Xc (by rw[<- l3];exact hi))⟩
 have gm:∀a∈gs,∃o,M5 a=some o:=λa ha=>by
  obtain⟨i,hi,rfl⟩:=Yd ha;exact⟨_,at5 i _ _ (Xc hi) (Xc (by rw[<- l5];exact hi))⟩
 refine q M8 ⟨pn,pw,pg,pt,ws,gs⟩ (s2.trans (s24.trans s48)) ⟨(s24.trans s48) _ _ h2,s48 _ _ h4,s68 _ _ h6,h8,l3,l5,λi a k x y=>?_,λi a k x y=>?_⟩ ⟨?_,?_,?_⟩ (λa ha=>s2.free (fr3 a ha))
 ·rw[show(XZ W).wd=W.isl.map wd0 from rfl,Xq]at y;have hi:i<W.isl.length:=by rw[<- l3];exact(XE.mp x).1
  rw[Xc hi]at y;cases y;exact(s34.trans s48) _ _ (at3 i a _ x (Xc hi))
 ·rw[show(XZ W).giv=W.fer.map (λ_=>[])from rfl,Xq]at y;have hi:i<W.fer.length:=by rw[<- l5];exact(XE.mp x).1
  rw[Xc hi]at y;cases y;exact(s56.trans s68) _ _ (at5 i a _ x (Xc hi))
 ·show(pn::pw::pg::pt::gs).Nodup;simp only[YO,Xt,not_or];refine⟨⟨neM (s3 _ _ h2) hpw,neM ((s24.trans s5) _ _ h2) hpg,neM ((s24.trans (s5.trans (s56.trans s67))) _ _ h2) hpt,λz=>neM (s24 _ _ h2) (fr5 _ z) rfl⟩,⟨neM (s5 _ _ h4) hpg,neM ((s5.trans (s56.trans s67)) _ _ h4) hpt,λz=>neM h4 (fr5 _ z) rfl⟩,⟨neM (s67 _ _ h6) hpt,λz=>?_⟩,λz=>?_,nd5⟩
  ·obtain⟨o,ho⟩:=gm _ z;exact neM ho hpg rfl
  ·obtain⟨o,ho⟩:=gm _ z;exact neM ((s56.trans s67) _ _ ho) hpt rfl
 ·intro a ha;have ha:a∈pn::pw::pg::pt::gs:=ha;simp only[Xt]at ha;rcases ha with rfl|rfl|rfl|rfl|ha
  ·exact s1.free hpn
  ·exact(s2.trans s3).free hpw
  ·exact(s2.trans (s24.trans s5)).free hpg
  ·exact(s2.trans (s24.trans (s5.trans (s56.trans s67)))).free hpt
  ·exact(s2.trans s24).free (fr5 _ ha)
 ·intro a ha hb;obtain⟨o,ho⟩:=wm a ha;have hb:a∈pn::pw::pg::pt::gs:=hb;simp only[Xt]at hb;rcases hb with rfl|rfl|rfl|rfl|hb
  ·exact neM h2 (fr3 _ ha) rfl
  ·exact neM ho hpw rfl
  ·exact neM ((s34.trans s5) _ _ ho) hpg rfl
  ·exact neM ((s34.trans (s5.trans (s56.trans s67))) _ _ ho) hpt rfl
  ·exact neM (s34 _ _ ho) (fr5 _ hb) rfl
noncomputable def AT(L:List Addr)(M:MH):MH:=λa=>if a∈L then none else M a
theorem FO{L:List Addr}{M:MH}{a:Addr}(h:a∉L):AT L M a=M a:=if_neg h
theorem Pw{L:List Addr}{M:MH}{a:Addr}(h:a∈L):AT L M a=none:=if_pos h
theorem Zhi(L:List Addr)(M:MH):SameM (AT L M) M:=λa o h=>by
 by_cases e:a∈L
 ·rw[Pw e]at h;cases h
 ·rwa [FO e]at h
theorem StdAt.off{W:Wld}{S:Std}{M:MH}{A:StA}(h:StdAt W S M A){D:Addr}{xs:List MV}(hD:M D=some (.lst xs))(nD:D∉A.gs)(o:MO):StdAt W S (updM M D o) A:=by
 have ne:∀{a:Addr} {kvs:List (Key×MV)},M a=some (.dic kvs)->updM M D o a=some (.dic kvs):=fun{a kvs} e=>by
  rw[Xp λz=>by rw[z,hD]at e;cases e];exact e
 refine⟨ne h.n,ne h.w,ne h.g,ne h.t,h.wl,h.gl,λi a k x y=>ne (h.wv i a k x y),λi a k x y=>?_⟩;rw[Xp λz=>nD (by rw[<- z];exact XI x)]
 exact h.gv i a k x y
noncomputable abbrev VT:SpM:=λvs M Q=>∃(W:Wld) (S:Std) (A:StA) (c:Nat),vs=[W.mv,A.mv]/\W.Good/\SOk W c S/\c≤900/\StdAt W S M A/\∀M' A' p,SameM M M'->StdAt W (Pj W S) M' A'->A'.New M->(∀a∈A'.ws,M a=none)->M p=none->M' p=some (.lst ((Y4 W S).map MV.str))->Q (.tup [A'.mv,.ref p]) M'
theorem FP:MonW VT:=by walk_at "m"
theorem Px(T:Txt K mg t):FnOk P w K mg base CX0 53 t.f_round_of t.d_round_of ["world","stand"] (liSp K VT):=by
 refine T.F_round_of.okM Zdl (Xw (Φ:=[("can_be",Cw),("copy_of",CC),("do_step",Cz),("wish_of",Cv)]) (Xx T) (Xy T) rfl (fMc ⟨ZbC,(fMc ⟨Zap,(fMc ⟨Zao,(fMc ⟨Zal,nl0⟩)⟩)⟩)⟩) (fMc ⟨⟨_,_,_,(FnOk.mono (Zgx T) (by decide)),T.m_can_be,T.F_can_be.kp,T.b_can_be⟩,(fMc ⟨⟨_,_,_,(FnOk.mono (Zfi T) (by decide)),T.m_copy_of,T.F_copy_of.kp,T.b_copy_of⟩,(fMc ⟨⟨_,_,_,(FnOk.mono (Zfh T) (by decide)),T.m_do_step,T.F_do_step.kp,T.b_do_step⟩,(fMc ⟨⟨_,_,_,(FnOk.mono (Zfe T) (by decide)),T.m_wish_of,T.F_wish_of.kp,T.b_wish_of⟩,nl0⟩)⟩)⟩)⟩):Fts P w K mg base 52 Ml [("can_be",Cw),("copy_of",CC),("do_step",Cz),("wish_of",Cv)]) F0 ZdY (fun vs M Q h=>?_) (fun vs M Q h=>?_)
 ·obtain⟨_,_,_,_,rfl,_⟩:=h;rfl
 obtain⟨W,S,A,c,rfl,G,hS,hc,hA,q⟩:=h;show wSs _ _ _ [some W.mv,some A.mv,none,none,none,none] M;have i5:=G.i5;rw[F0,Mj];walk_at "s";refine⟨W,S,A,c,rfl,G,hS,hA,λM1 A2 s1 h1 N1 w1=>?_⟩;rw[Mi];walk_at "s";intro D hD;have s2:=s1.trans (SameM.new hD (.lst []));have h2:=h1.keep (SameM.new hD (.lst []));have hd2:updM M1 D (.lst []) D=some (.lst []):=Xg;have hDo:D∉A2.own:=λz=>by
  unfold StA.own at z;simp only[Xt]at z;rcases z with z|z|z|z|z
  ·exact neM h1.n hD z.symm
  ·exact neM h1.w hD z.symm
  ·exact neM h1.g hD z.symm
  ·exact neM h1.t hD z.symm
  ·obtain⟨j,hj,e⟩:=Yd z;have hj2:j<S.giv.length:=by rw[hS.gl,<- h1.gl];exact hj
   exact neM (h1.gv j _ _ (Xc hj) (Xc hj2)) hD e
 have hD0:=s1.free hD;generalize updM M1 D _=M2 at*;rw[Mh,Wld.mv];walk_at "s";obtain⟨J,hJ⟩:∃J:Nat->Sm->MH->Prop,∀j σ M',J j σ M'↔SameM M M'/\(∃ws,StA.New {A2 with ws:=ws} M/\(∀a∈ws,M a=none)/\StdAt W (Y9 W S j).1 M' {A2 with ws:=ws})/\M' D=some (.lst ((Y9 W S j).2.map MV.str))/\∃v4 v5,σ=[some W.mv,some A.mv,some A2.mv,some (.ref D),v4,v5]:=⟨_,λ_ _ _=>Y8⟩;refine⟨J,(hJ _ _ _).mpr ⟨s2,⟨A2.ws,N1,w1,h2⟩,hd2,_,_,rfl⟩,λj σ M' h=>trivial,?_,?_⟩
 ·rintro j u σ M' hu h;obtain⟨s,⟨ws,N,wf,hB⟩,hd,v4,v5,rfl⟩:=(hJ _ _ _).mp h;obtain⟨hj,rfl⟩:=Yl (show(W.isl.map Isl.mv)[j]?=some u from hu);have hI:=Xc hj;obtain⟨k1,k2,k3,k4⟩:=Cr G hS j;have hA':=hA.keep s;have hr:Y9 W S (j+1)=Us W S j (Y9 W S j):=rfl;have back:∀M'' v,Ur W S j W.isl[j]=none->M''=M'->J (j+1) [some W.mv,some A.mv,some A2.mv,some (.ref D),some W.isl[j].mv,v] M'':=by
   rintro M'' v e rfl;have e2:Us W S j (Y9 W S j)=Y9 W S j:=by unfold Us;rw[hI];dsimp only;rw[e]
   refine(hJ _ _ _).mpr ⟨s,⟨ws,N,wf,?_⟩,?_,_,_,rfl⟩
   ·rw[hr,e2];exact hB
   ·rw[hr,e2];exact hd
  rw[Mg]
  repeat (first|walk_at "s"|simp only[Isl.mv])
  refine⟨W,S,A,c,j,W.isl[j],rfl,G,hS,hA',hI,?_⟩;rw[Mf];cases hs:(W.isl[j]).stps[S.num.getD j 0]? with
  |none=>
   have e:dueM (W.isl[j]).stps (rhoK (S.wd.getD j [])) W.w (S.num.getD j 0)=.non:=by unfold dueM;rw[hs]
   rw[e];walk_at "s";exact back M' _ (by unfold Ur;rw[hs]) rfl
  |some st=>
   rw[ZlG hs];have si:=Cp G hI hs;have hnn:Zf (askM st (rhoK (S.wd.getD j [])) W.w)=false:=by cases st<;>rfl
   repeat (first|walk_at "s"|simp only[hnn])
   refine⟨W,S,A,c,st,rhoK (S.wd.getD j []),(W.isl[j]).vars,_,rfl,G,hS,hA',si,?_⟩;show if canM W S st=true then _ else _;cases hcan:canM W S st with
   |false=>
    rw[if_neg (by simp)]
    exact back M' _ (by unfold Ur;rw[hs];dsimp only;rw[hcan];rfl) rfl
   |true=>
    have hg:Ur W S j W.isl[j]=some st:=by unfold Ur;rw[hs];dsimp only;rw[hcan];rfl
    rw[if_pos rfl,Me];walk_at "s";have hown:StA.own {A2 with ws:=ws}=A2.own:=rfl;have sM:SameM M (AT A2.own M'):=λa o e=>by
     rw[FO λz=>neM e (N1.fr a z) rfl];exact s _ _ e
    refine⟨W,S,(Y9 W S j).1,A,{A2 with ws:=ws},AT A2.own M',c,c+j,j,W.isl[j],st,rfl,G,hS,k1,by lia,hA.keep sM,Zhi _ _,hB,⟨N.nd,λa ha=>Pw ha,N.ws⟩,hI,hg,λM'' ws' s'' N'' wf'' h''=>?_⟩
    rw[Mb];have hd'':M'' D=some (.lst ((Y9 W S j).2.map MV.str)):=s'' _ _ (by rw[FO hDo];exact hd)
    repeat (first|walk_at "s"|simp only[hd'',X7])
    refine⟨⟨_,rfl⟩,by lia,?_⟩
    have e2:Us W S j (Y9 W S j)=(Vn W S j st (Y9 W S j).1,(Y9 W S j).2++[(W.isl[j]).name]):=by unfold Us;rw[hI];dsimp only;rw[hg]
    refine(hJ _ _ _).mpr ⟨(sM.trans s'').upd hD0 _,⟨ws',⟨N''.nd,N.fr,N''.ws⟩,λa ha=>(wf'' a ha).elim (wf a) s.free,?_⟩,?_,_,_,rfl⟩
    ·rw[hr,e2];exact h''.off hd'' (λz=>hDo (AS z)) _
    ·rw[hr,e2,Xg,Y6];rfl
 ·rintro σ M' h;obtain⟨s,⟨ws,N,wf,hB⟩,hd,v4,v5,rfl⟩:=(hJ _ _ _).mp h;rw[LZ];walk_at "s";have el:(Src.tup (W.isl.map Isl.mv)).len=W.isl.length:=X7 _;rw[el]at hB hd;exact q M' {A2 with ws:=ws} D s hB N wf hD0 hd
noncomputable def XF(W:Wld):Nat->Std
 |0=>XZ W
 |k+1=>Pj W (XF W k)
theorem AU{W:Wld}(G:W.Good):∀k:Nat,SOk W (5*k) (XF W k)
 |0=>Ps G
 |k+1=>by
  have:=(Cr G (AU G k) W.isl.length).1;have i5:=G.i5;exact this.up (by lia)
theorem FQ{W:Wld}(G:W.Good)(k:Nat):(∀z∈Y4 W (XF W k),z∈W.ins)/\(Y4 W (XF W k)).length≤5:=by
 obtain⟨_,_,h1,h2⟩:=Cr G (AU G k) W.isl.length;exact⟨h1,Y3 h2 G.i5⟩
noncomputable abbrev Shp:=List (List (Nat×List (Key×MV)))
noncomputable def Wld.iat(W:Wld)(z:Str):Nat:=W.ins.idxOf z
theorem Py{W:Wld}{z:Str}(h:z∈W.ins):W.ins[W.iat z]?=some z/\∃I,W.isl[W.iat z]?=some I/\I.name=z:=by
 have l:W.ins.idxOf z<W.ins.length:=FX.mpr h;have e:W.ins[W.iat z]?=some z:=by unfold Wld.iat;rw[Xc l,List.getElem_idxOf l]
 refine⟨e,?_⟩;unfold Wld.ins at e;rw[Xq]at e;cases hI:W.isl[W.iat z]? with
 |none=>rw[hI]at e;cases e
 |some I=>rw[hI]at e;exact⟨I,rfl,Yq e⟩
noncomputable def V6(W:Wld)(S:Std)(R:Shp)(z:Str):Shp:=R.set (W.iat z) (R.getD (W.iat z) []++[(S.num.getD (W.iat z) 0,S.wd.getD (W.iat z) [])])
noncomputable def addM(W:Wld)(S:Std)(zs:List Str)(R:Shp):Shp:=zs.foldl (V6 W S) R
noncomputable def Ym(W:Wld):Nat->Shp
 |0=>W.isl.map λI=>[(0,wd0 I)]
 |k+1=>addM W (XF W (k+1)) (Y4 W (XF W k)) (Ym W k)
theorem Ze8{W:Wld}{S:Std}{R:Shp}{b:Nat}(h:∀r∈R,r.length≤b)(z:Str):(V6 W S R z).length=R.length/\∀r∈V6 W S R z,r.length≤b+1:=by
 unfold V6;refine⟨Vq,λr hr=>?_⟩;rcases WT hr with hr|rfl
 ·exact Nat.le_succ_of_le (h r hr)
 ·rw[YY,Yc];cases e:R[W.iat z]? with
  |none=>show 0+1≤b+1;lia
  |some r=>exact Da (h r (XI e))
theorem CD{W:Wld}{S:Std}:∀(zs:List Str) {R:Shp} {b:Nat},(∀r∈R,r.length≤b)->(addM W S zs R).length=R.length/\∀r∈addM W S zs R,r.length≤b+zs.length
 |[],R,b,h=>⟨rfl,h⟩
 |z::zs,R,b,h=>by
  obtain⟨a1,a2⟩:=Ze8 (W:=W) (S:=S) h z;obtain⟨b1,b2⟩:=CD zs a2;refine⟨b1.trans a1,λr hr=>?_⟩;have:=b2 r hr;rw[YZ];lia
theorem CF{W:Wld}(G:W.Good):∀k:Nat,(Ym W k).length=W.isl.length/\∀r∈Ym W k,r.length≤1+5*k
 |0=>⟨X7 _,λr hr=>by obtain⟨I,_,rfl⟩:=XN.mp hr;exact Xl _⟩
 |k+1=>by
  obtain⟨h1,h2⟩:=CF G k;obtain⟨a1,a2⟩:=CD (W:=W) (S:=XF W (k+1)) (Y4 W (XF W k)) h2;have l:=(FQ G k).2;exact⟨a1.trans h1,λr hr=>by have:=a2 r hr;lia⟩
structure Ent where
 n:Nat
 kvs:List (Key×MV)
 ad:Addr
noncomputable def Ent.mv(x:Ent):MV:=.tup [.int x.n,.ref x.ad]
noncomputable def Ent.sh(x:Ent):Nat×List (Key×MV):=(x.n,x.kvs)
noncomputable def shp(C:List (List Ent)):Shp:=C.map (·.map Ent.sh)
structure RowsAt (ns:List Str) (C:List (List Ent)) (M:MH) (pr:Addr) (ls:List Addr):Prop where
 d:M pr=some (.dic (zipK ns (ls.map MV.ref)))
 ll:ls.length=ns.length
 cl:C.length=ns.length
 lv:∀(i:Nat) l r,ls[i]?=some l->C[i]?=some r->M l=some (.lst (r.map Ent.mv))
 ev:∀(i:Nat) r x,C[i]?=some r->x∈r->M x.ad=some (.dic x.kvs)
 ln:ls.Nodup
 en:∀(i j i' j':Nat) r r' x x',C[i]?=some r->r[j]?=some x->C[i']?=some r'->r'[j']?=some x'->x.ad=x'.ad->i=i'/\j=j'
 pe:∀(i:Nat) r x,C[i]?=some r->x∈r->x.ad≠pr
theorem RowsAt.keep{ns:List Str}{C:List (List Ent)}{M M':MH}{pr:Addr}{ls:List Addr}(h:RowsAt ns C M pr ls)(s:SameM M M'):RowsAt ns C M' pr ls:=
 ⟨s _ _ h.d,h.ll,h.cl,λi l r a b=>s _ _ (h.lv i l r a b),λi r x a b=>s _ _ (h.ev i r x a b),h.ln,h.en,h.pe⟩
structure RNew (C:List (List Ent)) (pr:Addr) (ls:List Addr) (M0:MH):Prop where
 p:M0 pr=none
 l:∀l∈ls,M0 l=none
 e:∀r∈C,∀x∈r,M0 x.ad=none
theorem Uc{α:Type}{xs:List α}{x y:α}{j:Nat}(h:(xs++[x])[j]?=some y):(j<xs.length/\xs[j]?=some y)\/(j=xs.length/\y=x):=by
 by_cases l:j<xs.length
 ·rw[Uy l]at h;exact .inl ⟨l,h⟩
 ·rw[Ug (by lia)]at h
  have e:j=xs.length:=by
   have:=(XE.mp h).1;simp at this;lia
  subst e;simp at h;exact .inr ⟨rfl,h.symm⟩
theorem RowsAt.add{ns:List Str}{C:List (List Ent)}{M:MH}{pr:Addr}{ls:List Addr}(h:RowsAt ns C M pr ls){i:Nat}{l:Addr}{r:List Ent}(hl:ls[i]?=some l) (hr:C[i]?=some r) {p:Addr} (hp:M p=none) (n:Nat) (kvs:List (Key×MV)):
  RowsAt ns (C.set i (r++[⟨n,kvs,p⟩])) (updM (updM M p (.dic kvs)) l (.lst (r.map Ent.mv++[.tup [.int n,.ref p]]))) pr ls:=by
 have hlv:=h.lv i l r hl hr;have old:∀{a:Addr} {o:MO},M a=some o->a≠l->updM (updM M p (.dic kvs)) l (.lst (r.map Ent.mv++[.tup [.int n,.ref p]])) a=some o:=λe z=>by
  rw[Xp z,Xp (neM e hp)];exact e
 have pl:p≠l:=λz=>by rw[z,hlv]at hp;cases hp
 have new:updM (updM M p (.dic kvs)) l (.lst (r.map Ent.mv++[.tup [.int n,.ref p]])) p=some (.dic kvs):=by rw[Xp pl,Xg]
 have dne:∀{a:Addr} {k:List (Key×MV)},M a=some (.dic k)->a≠l:=λe z=>by rw[z,hlv]at e;cases e
 refine⟨old h.d (dne h.d),h.ll,by rw[Vq];exact h.cl,λi' l' r' a b=>?_,λi' r' x a b=>?_,h.ln,?_,λi' r' x a b=>?_⟩
 ·rcases YJ b with⟨rfl,rfl⟩|⟨ne,b⟩
  ·rw[hl]at a;cases a;rw[Xg,Y6];rfl
  ·refine old (h.lv i' l' r' a b) λz=>ne ?_;subst z;exact(Bb (XE.mp a).1 h.ln).mp (a.trans hl.symm)
 ·rcases YJ a with⟨rfl,rfl⟩|⟨ne,a⟩
  ·rcases YA.mp b with b|b
   ·exact old (h.ev i' r x hr b) (dne (h.ev i' r x hr b))
   ·rw[Yk]at b;subst b;exact new
  ·exact old (h.ev i' r' x a b) (dne (h.ev i' r' x a b))
 ·have fr:∀(i:Nat) r x,C[i]?=some r->x∈r->x.ad≠p:=λi r x a b=>neM (h.ev i r x a b) hp;intro i1 j1 i2 j2 r1 r2 x1 x2 a1 b1 a2 b2 e;rcases YJ a1 with⟨rfl,rfl⟩|⟨n1,c1⟩
  ·rcases Uc b1 with⟨_,b1⟩|⟨rfl,rfl⟩
   ·rcases YJ a2 with⟨rfl,rfl⟩|⟨n2,a2⟩
    ·rcases Uc b2 with⟨_,b2⟩|⟨rfl,rfl⟩
     ·exact h.en _ _ _ _ _ _ _ _ hr b1 hr b2 e
     ·exact(fr _ _ _ hr (XI b1) e).elim
    ·exact h.en _ _ _ _ _ _ _ _ hr b1 a2 b2 e
   ·rcases YJ a2 with⟨rfl,rfl⟩|⟨n2,a2⟩
    ·rcases Uc b2 with⟨_,b2⟩|⟨rfl,rfl⟩
     ·exact(fr _ _ _ hr (XI b2) e.symm).elim
     ·exact⟨rfl,rfl⟩
    ·exact(fr _ _ _ a2 (XI b2) e.symm).elim
  ·rcases YJ a2 with⟨rfl,rfl⟩|⟨n2,a2⟩
   ·rcases Uc b2 with⟨_,b2⟩|⟨rfl,rfl⟩
    ·exact h.en _ _ _ _ _ _ _ _ c1 b1 hr b2 e
    ·exact(fr _ _ _ c1 (XI b1) e).elim
   ·exact h.en _ _ _ _ _ _ _ _ c1 b1 a2 b2 e
 ·rcases YJ a with⟨rfl,rfl⟩|⟨ne,a⟩
  ·rcases YA.mp b with b|b
   ·exact h.pe i' r x hr b
   ·rw[Yk]at b;subst b;exact λz=>by have z:p=pr:=z;rw[z,h.d]at hp;cases hp
  ·exact h.pe i' r' x a b
theorem RNew.add{C:List (List Ent)}{pr:Addr}{ls:List Addr}{M0:MH}(h:RNew C pr ls M0){i:Nat}{r:List Ent}(hr:C[i]?=some r) {p:Addr} (hp:M0 p=none) (n:Nat) (kvs:List (Key×MV)):RNew (C.set i (r++[⟨n,kvs,p⟩])) pr ls M0:=by
 refine⟨h.p,h.l,λr' hr' x hx=>?_⟩;rcases WT hr' with hr'|rfl
 ·exact h.e r' hr' x hx
 ·rcases YA.mp hx with hx|hx
  ·exact h.e r (XI hr) x hx
  ·rw[Yk]at hx;subst hx;exact hp
theorem Zkj{C:List (List Ent)}{i:Nat}{r:List Ent}(n:Nat)(kvs:List (Key×MV))(p:Addr):shp (C.set i (r++[⟨n,kvs,p⟩]))=(shp C).set i (r.map Ent.sh++[(n,kvs)]):=by
 unfold shp;rw[W8,Y6];rfl
theorem Zmj{C:List (List Ent)}{i:Nat}{r:List Ent}(h:C[i]?=some r):(shp C).getD i []=r.map Ent.sh:=by
 unfold shp;rw[Yc,Xq,h];rfl
theorem ZiX{Φ:List (Str×SpM)}{own:List Str}{fr:List Nat}{src:ISr}{tg:ITg}{elt:IE}{σ:Sm}{M:MH}{Q:QM}{α:Type}(xs:List α)(f:α->MV)(nm:α->Str)(kv:α->List (Key×MV))(Pm:MH->Prop)
  (hs:wSr Φ src σ M λS M1=>S.items=xs.map f/\xs.length<sizeLine/\SrcFrom S M M1/\Pm M1)
  (ht:∀x∈xs,∀M1 M',Pm M1->SameM M1 M'->wTg tg (f x) (sCm own fr σ) λσ2=>wE Φ elt σ2 M' λy M2=>∃p l,M' p=none/\updM M' p (.dic (kv x)) l=none/\y=.tup [.str (nm x),.ref l]/\M2=updM (updM M' p (.dic (kv x))) l (.lst [.tup [.int 0,.ref p]]))
  (hΦ:∀(j:Nat) f sp,Φ[j]?=some (f,sp)->MonW sp)
  (q:∀D (ls:List Addr) (C:List (List Ent)) M',M D=none->SameM M M'->ls.length=xs.length->C.length=xs.length->shp C=xs.map (λx=>[(0,kv x)])->
   (∀(i:Nat) l r,ls[i]?=some l->C[i]?=some r->M' l=some (.lst (r.map Ent.mv)))->(∀(i:Nat) r x,C[i]?=some r->x∈r->M' x.ad=some (.dic x.kvs))->ls.Nodup->
   (∀(i j i' j':Nat) r r' x x',C[i]?=some r->r[j]?=some x->C[i']?=some r'->r'[j']?=some x'->x.ad=x'.ad->i=i'/\j=j')->(∀l∈ls,M l=none)->(∀r∈C,∀x∈r,M x.ad=none)->
   M' D=some (.lst ((zipK (xs.map nm) (ls.map MV.ref)).map prM))->Q (.ref D) M'):wE Φ (.comp own fr src tg .none elt) σ M Q:=by
 refine FI xs f (λx y N M2=>∃p l,N=[p,l]/\y=.tup [.str (nm x),.ref l]/\M2 p=some (.dic (kv x))/\M2 l=some (.lst [.tup [.int 0,.ref p]])) Pm ?_ hs ?_ hΦ ?_
 ·rintro x y N M2 M3 hk ⟨p,l,rfl,e1,e2,e3⟩;exact⟨p,l,rfl,e1,by rw[hk p (by simp)];exact e2,by rw[hk l (by simp)];exact e3⟩
 ·intro x hx M1 M' h1 h2;refine UN tg (λσ2 h=>?_) (ht x hx M1 M' h1 h2);refine Xd hΦ elt (λy M3 ⟨p,l,m1,m2,m3,m4⟩=>?_) h;subst m4;have s1:=SameM.new m1 (.dic (kv x));have s2:=SameM.new m2 (.lst [.tup [.int 0,.ref p]]);have hp:=s2 _ _ (Xg (M:=M') (a:=p) (o:=.dic (kv x)));have pl:p≠l:=neM Xg m2;refine⟨s1.trans s2,[p,l],by simp[pl],?_,p,l,rfl,m3,hp,Xg⟩
  intro a ha;simp only[Xt,Y1,or_false]at ha;rcases ha with rfl|rfl
  ·exact⟨m1,_,hp⟩
  ·exact⟨s1.free m2,_,Xg⟩
 ·intro D ys Ns M' h1 h2 h3 h4 h5 h6 h7 h8 h9;have key:∀(xs:List α) (ys:List MV) (Ns:List (List Addr)),ys.length=xs.length->Ns.length=xs.length->(∀(j:Nat) x y N,xs[j]?=some x->ys[j]?=some y->Ns[j]?=some N->∃p l,N=[p,l]/\y=.tup [.str (nm x),.ref l]/\M' p=some (.dic (kv x))/\M' l=some (.lst [.tup [.int 0,.ref p]]))->
    ∃(ls ps:List Addr),ls.length=xs.length/\ps.length=xs.length/\ys=(zipK (xs.map nm) (ls.map MV.ref)).map prM/\ls.Sublist Ns.flatten/\ps.Sublist Ns.flatten/\∀(j:Nat) l p x,ls[j]?=some l->ps[j]?=some p->xs[j]?=some x->M' p=some (.dic (kv x))/\M' l=some (.lst [.tup [.int 0,.ref p]]):=by
   intro xs
   induction xs with
   |nil=>
    intro ys Ns h1 h2 _;cases ys with
    |nil=>exact⟨[],[],rfl,rfl,rfl,List.nil_sublist _,List.nil_sublist _,λj l p x h=>by simp at h⟩
    |cons _ _=>cases h1
   |cons x xs ih=>
    intro ys Ns h1 h2 h3;cases ys with
    |nil=>cases h1
    |cons y ys=>
     cases Ns with
     |nil=>cases h2
     |cons N Ns=>
      obtain⟨p,l,rfl,rfl,ep,el⟩:=h3 0 x y N rfl rfl rfl;obtain⟨ls,ps,i1,i2,i3,i4,i5,i6⟩:=ih ys Ns (by simpa using h1) (by simpa using h2) λj x y N a b c=>h3 (j+1) x y N (by simpa using a) (by simpa using b) (by simpa using c)
      refine⟨l::ls,p::ps,by simp[i1],by simp[i2],?_,?_,?_,?_⟩
      ·show _=prM (Xv (nm x),MV.ref l)::((zipK (xs.map nm) (ls.map MV.ref)).map prM);rw[<- i3];rfl
      ·show(l::ls).Sublist (p::l::Ns.flatten);exact(i4.cons₂ l).cons p
      ·show(p::ps).Sublist (p::l::Ns.flatten);exact(i5.cons l).cons₂ p
      ·intro j a b x' ha hb hx;cases j with
       |zero=>simp at ha hb hx;subst ha hb hx;exact⟨ep,el⟩
       |succ j=>exact i6 j a b x' (by simpa using ha) (by simpa using hb) (by simpa using hx)
  obtain⟨ls,ps,k1,k2,k3,k4,k5,k6⟩:=key xs ys Ns h3 h4 h8;have nps:=h5.sublist k5;have cat:∀(i:Nat) r,((xs.zip ps).map λz=>[Ent.mk 0 (kv z.1) z.2])[i]?=some r->∃x p,xs[i]?=some x/\ps[i]?=some p/\r=[⟨0,kv x,p⟩]:=λi r h=>by
   rw[Xq]at h;cases e:(xs.zip ps)[i]? with
   |none=>rw[e]at h;cases h
   |some z=>
    rw[e]at h;have:=CN.mp e;exact⟨z.1,z.2,this.1,this.2,(Yq h).symm⟩
  refine q D ls ((xs.zip ps).map λz=>[⟨0,kv z.1,z.2⟩]) M' h1 h2 k1 (by rw[X7,UB];lia) ?_ ?_ ?_ (h5.sublist k4) ?_ (λl hl=>h7 l (k4.subset hl)) ?_ (by rw[<- k3];exact h9)
  ·unfold shp;rw[XW];have e:xs=(xs.zip ps).map (·.1):=(CV (by lia)).symm
   conv=>rhs;rw[e]
   rw[XW];rfl
  ·intro i l r a b;obtain⟨x,p,x1,x2,rfl⟩:=cat i r b;exact(k6 i l p x a x2 x1).2
  ·intro i r y a b;obtain⟨x,p,x1,x2,rfl⟩:=cat i r a;rw[Yk]at b;subst b;have hi:i<ls.length:=by rw[k1];exact(XE.mp x1).1
   exact(k6 i _ p x (Xc hi) x2 x1).1
  ·intro i j i' j' r r' y y' a b a' b' e;obtain⟨x,p,x1,x2,rfl⟩:=cat i r a;obtain⟨x',p',x1',x2',rfl⟩:=cat i' r' a';cases j with
   |succ j=>simp at b
   |zero=>
    cases j' with
    |succ j=>simp at b'
    |zero=>
     simp at b b';subst b b';have e:p=p':=e;subst e;exact⟨(Bb (XE.mp x2).1 nps).mp (x2.trans x2'.symm),rfl⟩
  ·intro r hr y hy;obtain⟨i,hi,rfl⟩:=Yd hr;obtain⟨x,p,x1,x2,e⟩:=cat i _ (Xc hi);rw[e,Yk]at hy;subst hy;exact h7 p (k5.subset (XI x2))
noncomputable abbrev AV:SpM:=λvs M Q=>∃(W:Wld) (n:Nat),vs=[W.mv,.int n]/\W.Good/\n≤100/\∀M' pr ls C,SameM M M'->RowsAt W.ins C M' pr ls->shp C=Ym W n->RNew C pr ls M->Q (.ref pr) M'
theorem Pz:MonW AV:=by walk_at "m"
theorem Ziv(T:Txt K mg t):FnOk P w K mg base CX0 54 t.f_track t.d_track ["world","n"] (liSp K AV):=by
 refine T.F_track.okM Zib (Xw (Φ:=[("first_stand",VS),("round_of",VT)]) (Xx T) (Xy T) rfl (fMc ⟨FN,(fMc ⟨FP,nl0⟩)⟩) (fMc ⟨⟨_,_,_,(FnOk.mono (Pv T) (by decide)),T.m_first_stand,T.F_first_stand.kp,T.b_first_stand⟩,(fMc ⟨⟨_,_,_,(FnOk.mono (Px T) (by decide)),T.m_round_of,T.F_round_of.kp,T.b_round_of⟩,nl0⟩)⟩):Fts P w K mg base 53 MG [("first_stand",VS),("round_of",VT)]) F2 Zj0 (fun vs M Q h=>?_) (fun vs M Q h=>?_)
 ·obtain⟨_,_,rfl,_⟩:=h;rfl
 obtain⟨W,n,rfl,G,hn,q⟩:=h;show wSs _ _ _ [some W.mv,some (.int n),none,none,none,none,none] M;have i5:=G.i5;have li:W.ins.length=W.isl.length:=by unfold Wld.ins;rw[X7]
 have hΦ:=(Z2 (Φ:=[("first_stand",VS),("round_of",VT)]) (fMc ⟨FN,(fMc ⟨FP,nl0⟩)⟩));rw[F2,MF];walk_at "s";refine⟨W,rfl,G,λM1 A s1 h1 _ _=>?_⟩;rw[ME,Wld.mv];walk_at "s";refine ZiX W.isl Isl.mv (·.name) wd0 (λM3=>M3=M1) ?_ ?_ hΦ λD ls C M2 hD s2 l1 l2 shC lv ev ln en lf ef hd=>?_
 ·walk_at "s";exact⟨rfl,by lia,.inl ⟨trivial,rfl⟩⟩
 ·rintro I hI Ma M' rfl s;simp only[sCm,XC,Y2,Ye,Yf,Yb,Y7]
  repeat (first|walk_at "s"|simp only[Isl.mv])
  refine⟨wd0 I,Pt I,λp hp=>?_⟩;rw[Pu (G.io I hI).nd]
  try walk_at "s"
  intro l hl;exact⟨p,hp,l,hl,rfl,rfl⟩
 have lw:(ls.map MV.ref).length=W.ins.length:=by rw[X7,l1,li]
 have hd:M2 D=some (.lst ((zipK W.ins (ls.map MV.ref)).map prM)):=hd
 repeat (first|walk_at "s"|simp only[hd])
 refine⟨_,rfl,λpr hpr=>?_⟩;rw[V4 lw G.in_nd];have s3:=SameM.new hpr (.dic (zipK W.ins (ls.map MV.ref)));have h3:updM M2 pr (.dic (zipK W.ins (ls.map MV.ref))) pr=some (.dic (zipK W.ins (ls.map MV.ref))):=Xg;generalize updM M2 pr _=M3 at*;have R3:RowsAt W.ins C M3 pr ls:=⟨h3,l1.trans li.symm,l2.trans li.symm,λi l r a b=>s3 _ _ (lv i l r a b),λi r x a b=>s3 _ _ (ev i r x a b),ln,en,λi r x a b=>neM (ev i r x a b) hpr⟩;have N3:RNew C pr ls M:=⟨(s1.trans s2).free hpr,λl hl=>s1.free (lf l hl),λr hr x hx=>s1.free (ef r hr x hx)⟩;rw[MD];walk_at "s";obtain⟨J,hJ⟩:∃J:Nat->Sm->MH->Prop,∀k σ M',J k σ M'↔∃A C v4 v5 v6,SameM M M'/\StdAt W (XF W k) M' A/\RowsAt W.ins C M' pr ls/\shp C=Ym W k/\RNew C pr ls M/\σ=[some W.mv,some (.int n),some A.mv,some (.ref pr),v4,v5,v6]:=⟨_,λ_ _ _=>Y8⟩;refine⟨by lia,by lia,J,(hJ 0 _ _).mpr ⟨A,C,_,_,_,s1.trans (s2.trans s3),h1.keep (s2.trans s3),R3,shC,N3,rfl⟩,λj σ M' h=>trivial,?_,?_⟩
 ·rintro k u σ M' hu h;obtain⟨A,C,v4,v5,v6,s,hA,R,sh,N,rfl⟩:=(hJ _ _ _).mp h;obtain⟨hk,rfl⟩:=Ww hu;rw[MC];walk_at "s";refine⟨W,XF W k,A,5*k,rfl,G,AU G k,by lia,hA,λM4 A4 q4 s4 h4 n4 w4 f4 d4=>?_⟩
  rw[MB];walk_at "s";rw[MA]
  repeat (first|walk_at "s"|simp only[d4])
  obtain⟨hw1,hw2⟩:=FQ G k;have hS':=AU G (k+1);have lo:∀l∈ls,l∉A4.own/\l≠q4:=λl hl=>by
   obtain⟨i,hi,rfl⟩:=Yd hl;have hi2:i<C.length:=by rw[R.cl,<- R.ll];exact hi
   have:=R.lv i _ _ (Xc hi) (Xc hi2);exact⟨λz=>neM this (n4.fr _ z) rfl,neM this f4⟩
  obtain⟨J',hJ'⟩:∃J':Nat->Sm->MH->Prop,∀j σ M',J' j σ M'↔∃C v6,SameM M M'/\StdAt W (XF W (k+1)) M' A4/\RowsAt W.ins C M' pr ls/\shp C=addM W (XF W (k+1)) ((Y4 W (XF W k)).take j) (Ym W k)/\RNew C pr ls M/\M' q4=some (.lst ((Y4 W (XF W k)).map MV.str))/\σ=[some W.mv,some (.int n),some A4.mv,some (.ref pr),some (.int (0+(k:Nat))),some (.tup [A4.mv,.ref q4]),v6]:=⟨_,λ_ _ _=>Y8⟩;refine⟨J',(hJ' 0 _ _).mpr ⟨C,_,s.trans s4,h4,R.keep s4,sh,N,d4,rfl⟩,λj σ M' h=>?_,?_,?_⟩
  ·obtain⟨_,_,_,_,_,_,_,e,_⟩:=(hJ' _ _ _).mp h;exact e
  ·rintro j u σ M' hu h;obtain⟨C,v6,s,h4,R,sh,N,d4,rfl⟩:=(hJ' _ _ _).mp h;obtain⟨hj,rfl⟩:=Yl (show((Y4 W (XF W k)).map MV.str)[j]?=some u from hu);obtain⟨z,hz⟩:∃z,(Y4 W (XF W k))[j]=z:=⟨_,rfl⟩;have hzi:=hw1 _ (XV hj);have ht:(Y4 W (XF W k)).take (j+1)=(Y4 W (XF W k)).take j++[z]:=by rw[YN,Xc hj,hz];rfl
   rw[hz]at hzi ⊢;obtain⟨hz1,I,hI,rfl⟩:=Py hzi;have hi:W.iat I.name<W.ins.length:=(XE.mp hz1).1;have hl:=Xc (show W.iat I.name<ls.length by rw[R.ll];exact hi)
   have hr:=Xc (show W.iat I.name<C.length by rw[R.cl];exact hi)
   have hlr:=R.lv _ _ _ hl hr;have hlo:=lo _ (XI hl);have hlen:(C[W.iat I.name]'(by rw[R.cl];exact hi)).length≤2000:=by
    have:(C[W.iat I.name]'(by rw[R.cl];exact hi)).map Ent.sh∈shp C:=XN.mpr ⟨_,XV _,rfl⟩
    rw[sh]at this;have:=(CD (W:=W) (S:=XF W (k+1)) ((Y4 W (XF W k)).take j) (CF G k).2).2 _ this;rw[X7,Yz]at this;lia
   generalize ls[W.iat I.name]'(by rw[R.ll];exact hi)=l at*
   generalize C[W.iat I.name]'(by rw[R.cl];exact hi)=r at*
   obtain⟨a,a1,a2⟩:=h4.ws_at hS' hI;rw[Mz]
   repeat (first|walk_at "s"|simp only[R.d])
   refine⟨.ref l,Ub G.in_nd hz1 (by rw[Xq,hl];rfl),?_⟩
   rw[StA.mv]
   repeat (first|walk_at "s"|simp only[hlr,h4.n,h4.w])
   refine⟨⟨_,rfl⟩,_,FL G hS' hI,_,FM G hI a1,?_⟩
   repeat (first|walk_at "s"|simp only[a2])
   intro p hp;have hlr2:=SameM.new hp (.dic ((XF W (k+1)).wd.getD (W.iat I.name) [])) _ _ hlr
   repeat (first|walk_at "s"|simp only[hlr2])
   rw[X7];refine⟨by lia,?_⟩
   refine(hJ' _ _ _).mpr ⟨C.set (W.iat I.name) (r++[⟨(XF W (k+1)).num.getD (W.iat I.name) 0,(XF W (k+1)).wd.getD (W.iat I.name) [],p⟩]),_,(s.upd (s.free hp) _).upd (N.l _ (XI hl)) _,(h4.keep (SameM.new hp _)).off hlr2 (λz=>hlo.1 (AS z)) _,R.add hl hr hp _ _,?_,N.add hr (s.free hp) _ _,?_,rfl⟩
   ·rw[Zkj,ht];unfold addM;rw[W5];show _=V6 W (XF W (k+1)) (addM W (XF W (k+1)) ((Y4 W (XF W k)).take j) (Ym W k)) I.name;rw[<- sh];unfold V6;rw[Zmj hr]
   ·rw[Xp λz=>hlo.2 z.symm];exact SameM.new hp _ _ _ d4
  ·rintro σ M' h;obtain⟨C,v6,s,h4,R,sh,N,d4,rfl⟩:=(hJ' _ _ _).mp h;refine(hJ _ _ _).mpr ⟨A4,C,_,_,_,s,h4,R,?_,N,rfl⟩;rw[sh];have el:(Src.lst q4 ((Y4 W (XF W k)).map MV.str)).len=(Y4 W (XF W k)).length:=X7 _;rw[el,UV];rfl
 ·rintro σ M' h;obtain⟨A,C,v4,v5,v6,s,hA,R,sh,N,rfl⟩:=(hJ _ _ _).mp h;rw[Mx];walk_at "s";exact q M' pr ls C s R sh N
theorem PB:∀{ks:List Str} {vs:List MV} (k:Str) (v:MV),vs.length=ks.length->zipK (ks++[k]) (vs++[v])=zipK ks vs++[(Xv k,v)]
 |[],[],_,_,_=>rfl
 |[],_::_,_,_,h=>by cases h
 |_::_,[],_,_,h=>by cases h
 |a::ks,b::vs,k,v,h=>by
  show(Xv a,b)::zipK (ks++[k]) (vs++[v])=_;rw[PB k v (by simpa using h)];rfl
theorem ZhZ{ks:List Str}{vs:List MV}{k:Str}(v:MV)(h:vs.length=ks.length)(nk:k∉ks):putM (zipK ks vs) (Xv k) v=zipK (ks++[k]) (vs++[v]):=by
 rw[PB k v h,Pe];intro p hp e;have:p.1∈(zipK ks vs).map (·.1):=XN.mpr ⟨p,hp,rfl⟩;rw[WC h,e]at this;obtain⟨z,hz,ez⟩:=XN.mp this;cases ez;exact nk hz
theorem RowsAt.put{ns:List Str}{C:List (List Ent)}{M:MH}{pr:Addr}{ls:List Addr}(h:RowsAt ns C M pr ls){z:Str}{p l:Addr}(n:Nat)(kvs:List (Key×MV))(hp:M p=none)(hl:updM M p (.dic kvs) l=none)(o:MO)(ho:o=.dic (zipK (ns++[z]) ((ls++[l]).map MV.ref))):
  RowsAt (ns++[z]) (C++[[⟨n,kvs,p⟩]]) (updM (updM (updM M p (.dic kvs)) l (.lst [.tup [.int n,.ref p]])) pr o) pr (ls++[l]):=by
 subst ho;have hpp:updM M p (.dic kvs) p=some (.dic kvs):=Xg;have pl:p≠l:=neM hpp hl;have hl0:=(SameM.new hp (.dic kvs)).free hl;have ppr:p≠pr:=λe=>by rw[e,h.d]at hp;cases hp
 have lpr:l≠pr:=λe=>by rw[e,h.d]at hl0;cases hl0
 have old:∀{a:Addr} {o':MO},M a=some o'->a≠pr->updM (updM (updM M p (.dic kvs)) l (.lst [.tup [.int n,.ref p]])) pr (.dic (zipK (ns++[z]) ((ls++[l]).map MV.ref))) a=some o':=λe zz=>by
  rw[Xp zz,Xp (neM e hl0),Xp (neM e hp)];exact e
 have lne:∀{i:Nat} {l':Addr} {r:List Ent},ls[i]?=some l'->C[i]?=some r->l'≠pr:=λa b e=>by have:=h.lv _ _ _ a b;rw[e,h.d]at this;cases this
 have lin:∀{i:Nat} {l':Addr},ls[i]?=some l'->∃r,C[i]?=some r:=fun{i l'} a=>by
  have:i<C.length:=by rw[h.cl,<- h.ll];exact(XE.mp a).1
  exact⟨_,Xc this⟩
 have lc:ls.length=C.length:=h.ll.trans h.cl.symm;refine⟨Xg,by simp[h.ll],by simp[h.cl],λi l' r a b=>?_,λi r x a b=>?_,?_,?_,λi r x a b=>?_⟩
 ·rcases Uc a with⟨_,a⟩|⟨rfl,rfl⟩
  ·rcases Uc b with⟨_,b⟩|⟨rfl,rfl⟩
   ·exact old (h.lv i l' r a b) (lne a b)
   ·have:=(XE.mp a).1;lia
  ·rcases Uc b with⟨i2,b⟩|⟨_,rfl⟩
   ·lia
   ·rw[Xp lpr,Xg];rfl
 ·rcases Uc a with⟨_,a⟩|⟨rfl,rfl⟩
  ·exact old (h.ev i r x a b) (h.pe i r x a b)
  ·rw[Yk]at b;subst b;show updM _ pr _ p=_;rw[Xp ppr,Xp pl,Xg]
 ·rw[UU];refine⟨h.ln,by simp,λa ha b hb e=>?_⟩
  rw[Yk]at hb;subst hb e;obtain⟨i,hi,e⟩:=Yd ha;obtain⟨r,hr⟩:=lin (Xc hi);exact neM (h.lv i _ r (Xc hi) hr) hl0 e
 ·have fr:∀(i:Nat) r x,C[i]?=some r->x∈r->x.ad≠p:=λi r x a b=>neM (h.ev i r x a b) hp;intro i1 j1 i2 j2 r1 r2 x1 x2 a1 b1 a2 b2 e;rcases Uc a1 with⟨_,c1⟩|⟨rfl,rfl⟩
  ·rcases Uc a2 with⟨_,c2⟩|⟨rfl,rfl⟩
   ·exact h.en _ _ _ _ _ _ _ _ c1 b1 c2 b2 e
   ·cases j2 with
    |succ j=>simp at b2
    |zero=>simp at b2;subst b2;exact(fr _ _ _ c1 (XI b1) e).elim
  ·cases j1 with
   |succ j=>simp at b1
   |zero=>
    simp at b1;subst b1;rcases Uc a2 with⟨_,c2⟩|⟨rfl,rfl⟩
    ·exact(fr _ _ _ c2 (XI b2) e.symm).elim
    ·cases j2 with
     |succ j=>simp at b2
     |zero=>exact⟨rfl,rfl⟩
 ·rcases Uc a with⟨_,a⟩|⟨rfl,rfl⟩
  ·exact h.pe i r x a b
  ·rw[Yk]at b;subst b;exact ppr
theorem PC:∀{ks:List Str} {vs:List MV} {k:Key} {u:MV},(k,u)∈zipK ks vs->∃(i:Nat) (z:Str),ks[i]?=some z/\k=Xv z/\vs[i]?=some u
 |[],_,_,_,h=>by cases h
 |_::_,[],_,_,h=>by cases h
 |a::ks,b::vs,k,u,h=>by
  rcases Xt.mp h with h|h
  ·cases h;exact⟨0,a,rfl,rfl,rfl⟩
  ·obtain⟨i,z,h1,h2,h3⟩:=PC h;exact⟨i+1,z,by simpa using h1,h2,by simpa using h3⟩
theorem ZiY{Φ:List (Str×SpM)}{own:List Str}{fr:List Nat}{src:ISr}{tg:ITg}{elt:IE}{σ:Sm}{M:MH}{Q:QM}{α:Type}(xs:List α)(f g:α->MV)(Pm:MH->Prop)
  (hs:wSr Φ src σ M λS M1=>S.items=xs.map f/\xs.length<sizeLine/\SrcFrom S M M1/\Pm M1)
  (ht:∀x∈xs,∀M1 M',Pm M1->SameM M1 M'->wTg tg (f x) (sCm own fr σ) λσ2=>wE Φ elt σ2 M' λy M2=>y=g x/\M2=M')
  (hΦ:∀(j:Nat) f sp,Φ[j]?=some (f,sp)->MonW sp)
  (q:∀D M',M D=none->SameM M M'->M' D=some (.lst (xs.map g))->Q (.ref D) M'):wE Φ (.comp own fr src tg .none elt) σ M Q:=by
 refine FI xs f (λx y N M2=>y=g x) Pm (λ_ _ _ _ _ _ e=>e) hs ?_ hΦ ?_
 ·intro x hx M1 M' h1 h2;refine UN tg (λσ2 h=>?_) (ht x hx M1 M' h1 h2);refine Xd hΦ elt (λy M3 ⟨e1,e2⟩=>?_) h;subst e2;exact⟨SameM.refl _,[],D0,by simp,e1⟩
 ·intro D ys Ns M' h1 h2 h3 h4 _ _ _ h8 h9;have e:ys=xs.map g:=by
   apply CS;intro i;rw[Xq];by_cases hi:i<xs.length
   ·rw[Xc hi,Xc (by lia)]
    exact congrArg some (h8 i _ _ _ (Xc hi) (Xc (by lia)) (Xc (show i<Ns.length by lia)))
   ·rw[Vp (by lia),Vp (by lia)];rfl
  subst e;exact q D M' h1 h2 h9
theorem Zfz{Φ:List (Str×SpM)}{own:List Str}{fr:List Nat}{src:ISr}{tg:ITg}{test elt:IE}{σ:Sm}{M:MH}{Q:QM}{α:Type}(xs:List α)(f:α->MV)(Pm:MH->Prop)
  (hs:wSr Φ src σ M λS M1=>S.items=xs.map f/\xs.length<sizeLine/\SrcFrom S M M1/\Pm M1)
  (ht:∀x∈xs,∀M1 M',Pm M1->SameM M1 M'->wTg tg (f x) (sCm own fr σ) λσ2=>wE Φ test σ2 M' λv M2=>v=.bl false/\M2=M')
  (hΦ:∀(j:Nat) f sp,Φ[j]?=some (f,sp)->MonW sp)
  (q:∀D M',M D=none->SameM M M'->M' D=some (.lst [])->Q (.ref D) M'):wE Φ (.comp own fr src tg (.some test) elt) σ M Q:=by
 rw[Ax];refine mon_sr hΦ src (λS M1 ⟨h1,h2,h3,h4⟩=>?_) hs;have hl:S.len=xs.length:=by rw[<- S.items_len,h1,X7]
 refine⟨by rw[hl];exact h2,λD hD=>⟨λi ys M2=>M2=updM M1 D (.lst [])/\ys=[],⟨rfl,rfl⟩,?_,?_,?_⟩⟩
 ·rintro i ys M2 ⟨rfl,rfl⟩;exact⟨Xg,YD _,h3.ok (SameM.new hD _)⟩
 ·rintro i x ys M2 hx ⟨rfl,rfl⟩;rw[h1]at hx;obtain⟨hi,rfl⟩:=Yl hx;refine UN tg (λσ2 h=>?_) (ht xs[i] (XV hi) M1 _ h4 (SameM.new hD (.lst [])));refine Xd hΦ test (λv M2 ⟨e1,e2⟩=>?_) h;subst e1 e2;exact⟨false,rfl,by dsimp only;rw[if_neg XG];exact⟨rfl,rfl⟩⟩
 ·rintro ys M2 ⟨rfl,rfl⟩;obtain⟨t1,t2⟩:=h3.thaw (SameM.new hD (.lst []));exact q D _ (h3.free hD) t1 (by rw[t2 _ hD,Xg])
noncomputable def Z3(ev:List Str)(p:Nat×List Str)(z:Str):Nat×List Str:=if z∈p.2 then(if(p.2.erase z).length=0 then(p.1+1,ev)else(p.1,p.2.erase z))else p
noncomputable def strM(ev ns:List Str):Nat×List Str:=ns.foldl (Z3 ev) (0,ev)
theorem CG(ev:List Str):∀(ns:List Str) (p:Nat×List Str),(ns.foldl (Z3 ev) p).1≤p.1+ns.length
 |[],p=>Xl _
 |z::ns,p=>by
  have:=CG ev ns (Z3 ev p z);have h:(Z3 ev p z).1≤p.1+1:=by
   unfold Z3;split
   ·split
    ·exact Xl _
    ·exact Ul _
   ·exact Ul _
  rw[W7,YZ];lia
theorem PD{ev:List Str}:∀(ns:List Str) {p:Nat×List Str},p.2.length≤ev.length->(ns.foldl (Z3 ev) p).2.length≤ev.length
 |[],p,h=>h
 |z::ns,p,h=>by
  refine PD ns ?_;unfold Z3;split
  ·split
   ·exact Xl _
   ·exact Y3 (List.length_erase_le ..) h
  ·exact h
noncomputable abbrev Vo:SpM:=λvs M Q=>∃(W:Wld) (a:Addr) (ns:List Str),vs=[W.mv,.ref a]/\W.Good/\M a=some (.lst (ns.map MV.str))/\ns.length≤100/\∀M',SameM M M'->Q (.int ((strM W.ins ns).1:Nat)) M'
theorem CH:MonW Vo:=by walk_at "m"
theorem PF(T:Txt K mg t):FnOk P w K mg base CX0 1 t.f_stretches t.d_stretches ["world","names"] (liSp K Vo):=by
 refine T.F_stretches.okM Zc7 (Xw (Φ:=[]) (Xx T) (Xy T) rfl nl0 nl0:Fts P w K mg base 0 Mw []) F1 ZcO (λvs M Q h=>?_) (λvs M Q h=>?_)
 ·obtain⟨_,_,_,rfl,_⟩:=h;rfl
 obtain⟨W,a,ns,rfl,G,ha,hn,q⟩:=h;show wSs _ _ _ [some W.mv,some (.ref a),none,none,none,none] M;have i5:=G.i5;have li:W.ins.length=W.isl.length:=by unfold Wld.ins;rw[X7]
 have hΦ:=(Z2 (Φ:=[]) nl0);rw[F1,Mv,Wld.mv];walk_at "s";refine UP W.isl Isl.mv (λI=>.str I.name) ?_ ?_ hΦ λe he=>?_
 ·walk_at "s";exact⟨rfl,by lia,trivial⟩
 ·intro I hI M' s;simp only[sCm,XC,Y2,Ye,Yf,Yb,Y7]
  repeat (first|walk_at "s"|simp only[Isl.mv])
 have s0:=SameM.new he (.lst (W.isl.map λI=>.str I.name));have ev:W.isl.map (λI=>MV.str I.name)=W.ins.map MV.str:=by unfold Wld.ins;rw[XW];rfl
 rw[ev]at s0 ⊢;have he0:updM M e (.lst (W.ins.map MV.str)) e=some (.lst (W.ins.map MV.str)):=Xg;generalize updM M e _=M0 at*;rw[Mu];walk_at "s";rw[Mt]
 repeat (first|walk_at "s"|simp only[he0])
 intro m hm;have s1:=SameM.new hm (.lst (W.ins.map MV.str));have hm1:updM M0 m (.lst (W.ins.map MV.str)) m=some (.lst (W.ins.map MV.str)):=Xg;generalize updM M0 m _=M1 at*;rw[Ms];have ha1:=s1 _ _ (s0 _ _ ha)
 repeat (first|walk_at "s"|simp only[ha1])
 obtain⟨J,hJ⟩:∃J:Nat->Sm->MH->Prop,∀j σ M',J j σ M'↔∃m v5,SameM M0 M'/\M0 m=none/\M' m=some (.lst ((strM W.ins (ns.take j)).2.map MV.str))/\σ=[some W.mv,some (.ref a),some (.ref e),some (.int ((strM W.ins (ns.take j)).1:Nat)),some (.ref m),v5]:=⟨_,λ_ _ _=>Y8⟩;refine⟨J,(hJ 0 _ _).mpr ⟨m,_,s1,hm,hm1,rfl⟩,λj σ M' h=>?_,?_,?_⟩
 ·obtain⟨m,v5,s,_⟩:=(hJ _ _ _).mp h;exact s _ _ (s0 _ _ ha)
 ·rintro j u σ M' hu h;obtain⟨m,v5,s,hm,hd,rfl⟩:=(hJ _ _ _).mp h;obtain⟨hj,rfl⟩:=Yl (show(ns.map MV.str)[j]?=some u from hu);have ht:strM W.ins (ns.take (j+1))=Z3 W.ins (strM W.ins (ns.take j)) ns[j]:=by
   unfold strM;rw[YN,Xc hj,W5];rfl
  have hle:(strM W.ins (ns.take j)).2.length≤W.ins.length:=PD _ (Xl _);have hce:(strM W.ins (ns.take j)).1≤100:=by
   have:=CG W.ins (ns.take j) (0,W.ins);rw[Yz]at this;unfold strM;lia
  generalize strM W.ins (ns.take j)=p at*;generalize ns[j]=z at*;rw[Mr];walk_at "s";refine .inl ⟨_,hd,rfl,Fp _,?_⟩;rw[Fo];by_cases hz:z∈p.2
  ·rw[decide_eq_true hz];walk_at "s";rw[Mq]
   repeat (first|walk_at "s"|simp only[hd])
   refine⟨⟨_,rfl⟩,_,rfl,hz,?_⟩;have hd':updM M' m (.lst ((p.2.erase z).map MV.str)) m=some (.lst ((p.2.erase z).map MV.str)):=Xg;have s':=s.upd hm (.lst ((p.2.erase z).map MV.str));generalize updM M' m _=M2 at*;rw[Mp]
   repeat (first|walk_at "s"|simp only[hd'])
   by_cases hl:(p.2.erase z).length=0
   ·rw[if_pos (by rw[X7];lia)]
    rw[Mo];walk_at "s";rw[Mn]
    repeat (first|walk_at "s"|simp only[s' _ _ he0])
    intro m2 hm2;have s3:=SameM.new hm2 (.lst (W.ins.map MV.str));refine(hJ _ _ _).mpr ⟨m2,some (.str z),s'.trans s3,s'.free hm2,?_,?_⟩
    ·rw[ht,Z3,if_pos hz,if_pos hl];exact Xg
    ·rw[ht,Z3,if_pos hz,if_pos hl];rfl
   ·rw[if_neg (by rw[X7];lia)]
    refine(hJ _ _ _).mpr ⟨m,some (.str z),s',hm,?_,?_⟩
    ·rw[ht,Z3,if_pos hz,if_neg hl];exact hd'
    ·rw[ht,Z3,if_pos hz,if_neg hl]
  ·rw[decide_eq_false hz];walk_at "s";refine(hJ _ _ _).mpr ⟨m,some (.str z),s,hm,?_,?_⟩
   ·rw[ht,Z3,if_neg hz];exact hd
   ·rw[ht,Z3,if_neg hz]
 ·rintro σ M' h;obtain⟨m,v5,s,hm,hd,rfl⟩:=(hJ _ _ _).mp h;have el:(Src.lst a (ns.map MV.str)).len=ns.length:=X7 _;rw[el,UV]at hd ⊢;rw[Mm];walk_at "s";exact q M' (s0.trans s)
noncomputable def cntV(R:Shp):List MV:=R.map λr=>.int ((r.length:Int) - 1)
noncomputable def cntK(W:Wld)(n:Nat):List (Key×MV):=zipK W.ins (cntV (Ym W n))
theorem CI{W:Wld}(G:W.Good)(n:Nat):(Ym W n).length=W.ins.length:=by
 have:=(CF G n).1;rw[this];unfold Wld.ins;rw[X7]
noncomputable abbrev CJ:SpM:=λvs M Q=>∃(W:Wld) (n:Nat),vs=[W.mv,.int n]/\W.Good/\n≤100/\∀M' p,SameM M M'->M p=none->M' p=some (.dic (cntK W n))->Q (.ref p) M'
theorem Z6q:MonW CJ:=by walk_at "m"
theorem Z9f(T:Txt K mg t):FnOk P w K mg base CX0 55 t.f_steps_behind t.d_steps_behind ["world","n"] (liSp K CJ):=by
 refine T.F_steps_behind.okM Z95 (Xw (Φ:=[("track",AV)]) (Xx T) (Xy T) rfl (fMc ⟨Pz,nl0⟩) (fMc ⟨⟨_,_,_,(FnOk.mono (Ziv T) (by decide)),T.m_track,T.F_track.kp,T.b_track⟩,nl0⟩):Fts P w K mg base 54 MK [("track",AV)]) F3 Z9V (fun vs M Q h=>?_) (fun vs M Q h=>?_)
 ·obtain⟨_,_,rfl,_⟩:=h;rfl
 obtain⟨W,n,rfl,G,hn,q⟩:=h;show wSs _ _ _ [some W.mv,some (.int n),none] M;have i5:=G.i5;have li:W.ins.length=W.isl.length:=by unfold Wld.ins;rw[X7]
 have hΦ:=(Z2 (Φ:=[("track",AV)]) (fMc ⟨Pz,nl0⟩));rw[F3,MJ];walk_at "s";refine⟨W,n,rfl,G,hn,λM1 pr ls C s1 R sh N=>?_⟩;rw[MI];walk_at "s";have ll:=R.ll;have cl:=R.cl;refine ZiY (W.ins.zip C) (λx=>.str x.1) (λx=>.tup [.str x.1,.int ((x.2.length:Int) - 1)]) (λM2=>∃o,M2=updM M1 pr (.fdic o (zipK W.ins (ls.map MV.ref)))) ?_ ?_ hΦ λD M2 hD s2 hd=>?_
 ·repeat (first|walk_at "s"|simp only[R.d])
  intro o;refine⟨?_,by rw[UB];lia,.inr ⟨_,_,_,rfl,R.d,rfl⟩,o,rfl⟩
  show(zipK W.ins (ls.map MV.ref)).map (λp=>kM p.1)=_;rw[CA (by rw[X7,ll])]
  conv=>lhs;rw[<- VR (ks:=W.ins) (xs:=C) cl]
  rw[XW];rfl
 ·rintro⟨z,r⟩ hx M2 M' ⟨o,rfl⟩ s;obtain⟨i,i1,i2⟩:=CB hx;have hw:=s _ _ (Xg (M:=M1));have hi:i<ls.length:=by rw[ll];exact(XE.mp i1).1
  have hl:=Xc hi;have hv:=R.lv i _ _ hl i2;have hne:ls[i]≠pr:=λe=>by rw[e,R.d]at hv;cases hv
  have hv':=s _ _ ((Xp (M:=M1) hne).trans hv);simp only[sCm,XC,Y2,Ye,Yf,Yb,Y7]
  repeat (first|walk_at "s"|simp only[hw])
  refine⟨.ref ls[i],Ub G.in_nd i1 (by rw[Xq,hl];rfl),?_⟩
  repeat (first|walk_at "s"|simp only[hv'])
  rw[X7]
 have e1:(W.ins.zip C).map (λx=>MV.int ((x.2.length:Int) - 1))=cntV (Ym W n):=by
  have e:C=(W.ins.zip C).map (·.2):=(List.map_snd_zip (by lia)).symm
  rw[<- sh];unfold cntV shp
  conv=>rhs;rw[e]
  rw[XW,XW];exact List.map_congr_left λx _=>by simp
 have hd:M2 D=some (.lst ((cntK W n).map prM)):=by
  rw[hd,Cn,VR cl,e1];rfl
 have lc:(cntV (Ym W n)).length=W.ins.length:=by unfold cntV;rw[X7];exact CI G n
 repeat (first|walk_at "s"|simp only[hd])
 refine⟨_,rfl,λp hp=>?_⟩;have ec:UM (cntK W n)=cntK W n:=V4 lc G.in_nd;rw[ec];exact q _ p ((s1.trans s2).trans (SameM.new hp _)) ((s1.trans s2).free hp) Xg
noncomputable def Yv:List Fer->Nat->Nat
 |[],m=>m
 |f::r,m=>Yv r (if 2+f.st>m then 2+f.st else m)
noncomputable def Z4(W:Wld):Nat:=Yv W.fer 2
theorem AW:∀(F:List Fer) (m:Nat),m≤Yv F m/\(∀f∈F,2+f.st≤Yv F m)/\(Yv F m=m\/∃f∈F,Yv F m=2+f.st)
 |[],m=>⟨Xl _,by simp,.inl rfl⟩
 |f::r,m=>by
  obtain⟨h1,h2,h3⟩:=AW r (if 2+f.st>m then 2+f.st else m);have e:Yv (f::r) m=Yv r (if 2+f.st>m then 2+f.st else m):=rfl;rw[e];generalize Yv r _=k at*;refine⟨?_,λx hx=>?_,?_⟩
  ·split at h1<;>lia
  ·rcases Xt.mp hx with rfl|hx
   ·split at h1<;>lia
   ·exact h2 x hx
  ·rcases h3 with h3|⟨x,hx,h3⟩
   ·split at h3
    ·exact .inr ⟨f,Yg ..,h3⟩
    ·exact .inl h3
   ·exact .inr ⟨x,Ya _ hx,h3⟩
theorem PH:∀(F:List Fer) (f:Fer) (m:Nat),Yv (F++[f]) m=if 2+f.st>Yv F m then 2+f.st else Yv F m
 |[],f,m=>rfl
 |x::F,f,m=>PH F f _
theorem ZgL{W:Wld}{m:Int}(h:W.fer.map (λf=>(f.st:Int))=[]/\m=0\/m∈W.fer.map (λf=>(f.st:Int))/\∀i∈W.fer.map (λf=>(f.st:Int)),i≤m):m+2=(Z4 W:Nat):=by
 obtain⟨h1,h2,h3⟩:=AW W.fer 2;unfold Z4;generalize Yv W.fer 2=k at*;rcases h with⟨e,rfl⟩|⟨e,g⟩
 ·have e:=List.map_eq_nil_iff.mp e;rcases h3 with h3|⟨x,hx,_⟩
  ·lia
  ·rw[e]at hx;cases hx
 ·obtain⟨f,hf,rfl⟩:=XN.mp e;have h2f:=h2 f hf;rcases h3 with h3|⟨x,hx,h3⟩
  ·lia
  ·have:=g _ (XN.mpr ⟨x,hx,rfl⟩);lia
noncomputable abbrev CK:SpM:=λvs M Q=>∃W:Wld,vs=[W.mv]/\W.Good/\∀M',SameM M M'->Q (.int (Z4 W:Nat)) M'
theorem Z3u:MonW CK:=by walk_at "m"
theorem Z5n(T:Txt K mg t):FnOk P w K mg base CX0 1 t.f_stretches_a_round t.d_stretches_a_round ["world"] (liSp K CK):=by
 refine T.F_stretches_a_round.okM Z5l (Xw (Φ:=[]) (Xx T) (Xy T) rfl nl0 nl0:Fts P w K mg base 0 MM []) F4 Z5q (λvs M Q h=>?_) (λvs M Q h=>?_)
 ·obtain⟨_,rfl,_⟩:=h;rfl
 obtain⟨W,rfl,G,q⟩:=h;show wSs _ _ _ [some W.mv] M;have f6:=G.f6;have hΦ:=(Z2 (Φ:=[]) nl0);rw[F4,ML,Wld.mv];walk_at "s";refine UP W.fer Fer.mv (λf=>.int f.st) ?_ ?_ hΦ λe he=>?_
 ·walk_at "s";exact⟨rfl,by lia,trivial⟩
 ·intro f hf M' s;simp only[sCm,XC,Y2,Ye,Yf,Yb,Y7]
  repeat (first|walk_at "s"|simp only[Fer.mv])
 walk_at "s";refine⟨W.fer.map λf=>(f.st:Int),by rw[XW];rfl,λm hm=>?_⟩
 rw[ZgL hm];exact q _ (SameM.new he _)
theorem PJ{W:Wld}(G:W.Good):Z4 W≤5:=by
 rcases(AW W.fer 2).2.2 with h|⟨f,hf,h⟩
 ·unfold Z4;lia
 ·have:=(G.fo f hf).s3;unfold Z4;lia
noncomputable abbrev WF:SpM:=λvs M Q=>∃(W:Wld) (a:Addr) (ns:List Str),vs=[W.mv,.ref a]/\W.Good/\M a=some (.lst (ns.map MV.str))/\ns.length≤100/\
 ∀M' p1 p2,SameM M M'->M p1=none->M p2=none->p1≠p2->M' p1=some (.dic (cntK W ((strM W.ins ns).1/Z4 W)))->M' p2=some (.dic (cntK W ns.length))->Q (.tup [.ref p1,.ref p2]) M'
theorem FR:MonW WF:=by walk_at "m"
theorem Zgy(T:Txt K mg t):FnOk P w K mg base CX0 56 t.f_bounds t.d_bounds ["world","names"] (liSp K WF):=by
 refine T.F_bounds.okM Zge (Xw (Φ:=[("steps_behind",CJ),("stretches",Vo),("stretches_a_round",CK)]) (Xx T) (Xy T) rfl (fMc ⟨Z6q,(fMc ⟨CH,(fMc ⟨Z3u,nl0⟩)⟩)⟩) (fMc ⟨⟨_,_,_,(FnOk.mono (Z9f T) (by decide)),T.m_steps_behind,T.F_steps_behind.kp,T.b_steps_behind⟩,(fMc ⟨⟨_,_,_,(FnOk.mono (PF T) (by decide)),T.m_stretches,T.F_stretches.kp,T.b_stretches⟩,(fMc ⟨⟨_,_,_,(FnOk.mono (Z5n T) (by decide)),T.m_stretches_a_round,T.F_stretches_a_round.kp,T.b_stretches_a_round⟩,nl0⟩)⟩)⟩):Fts P w K mg base 55 MQ [("steps_behind",CJ),("stretches",Vo),("stretches_a_round",CK)]) F5 Zhy (fun vs M Q h=>?_) (fun vs M Q h=>?_)
 ·obtain⟨_,_,_,rfl,_⟩:=h;rfl
 obtain⟨W,a,ns,rfl,G,ha,hn,q⟩:=h;show wSs _ _ _ [some W.mv,some (.ref a),none] M;rw[F5,MP];walk_at "s";refine⟨W,a,ns,rfl,G,ha,hn,λM1 s1=>?_⟩;walk_at "s";refine⟨W,rfl,G,λM2 s2=>?_⟩;walk_at "s";have hl:=(AW W.fer 2).1;have hs:=CG W.ins ns (0,W.ins);have hq:(strM W.ins ns).1/Z4 W≤100:=Y3 (Nat.div_le_self _ _) (by unfold strM;lia)
 have hl:2≤Z4 W:=hl;have hl5:=PJ G;refine⟨⟨by lia,by lia⟩,?_⟩
 rw[MN];walk_at "s";refine⟨W,(strM W.ins ns).1/Z4 W,by rw[Int.natCast_ediv],G,hq,λM3 p1 s3 hp1 hd1=>?_⟩
 walk_at "s";have ha3:=((s1.trans s2).trans s3) _ _ ha
 repeat (first|walk_at "s"|simp only[ha3])
 rw[X7];refine⟨W,ns.length,rfl,G,hn,λM4 p2 s4 hp2 hd2=>?_⟩
 try walk_at "s"
 have s12:=s1.trans s2;exact q M4 p1 p2 ((s12.trans s3).trans s4) (s12.free hp1) ((s12.trans s3).free hp2) (neM hd1 hp2) (s4 _ _ hd1) hd2
theorem StdAt.own_at{W:Wld}{S:Std}{M:MH}{A:StA}(h:StdAt W S M A){c:Nat}(hS:SOk W c S){a:Addr}(ha:a∈A.own\/a∈A.ws):∃o,M a=some o:=by
 rcases ha with z|z
 ·unfold StA.own at z;simp only[Xt]at z;rcases z with z|z|z|z|z
  ·exact⟨_,z▸h.n⟩
  ·exact⟨_,z▸h.w⟩
  ·exact⟨_,z▸h.g⟩
  ·exact⟨_,z▸h.t⟩
  ·obtain⟨j,hj,rfl⟩:=Yd z;have hj2:j<S.giv.length:=by rw[hS.gl,<- h.gl];exact hj
   exact⟨_,h.gv j _ _ (Xc hj) (Xc hj2)⟩
 ·obtain⟨j,hj,rfl⟩:=Yd z;have hj2:j<S.wd.length:=by rw[hS.wl,<- h.wl];exact hj
  exact⟨_,h.wv j _ _ (Xc hj) (Xc hj2)⟩
theorem StdAt.offd{W:Wld}{S:Std}{M:MH}{A:StA}(h:StdAt W S M A){D:Addr}(n1:D∉A.own)(n2:D∉A.ws)(o:MO):StdAt W S (updM M D o) A:=by
 have k:∀{a:Addr} {u:MO},a∈A.own\/a∈A.ws->M a=some u->updM M D o a=some u:=λha e=>by
  rw[Xp λz=>by subst z;exact ha.elim n1 n2];exact e
 exact⟨k (.inl (by simp[StA.own])) h.n,k (.inl (by simp[StA.own])) h.w,k (.inl (by simp[StA.own])) h.g,k (.inl (by simp[StA.own])) h.t,h.wl,h.gl,
  λi a kv x y=>k (.inr (XI x)) (h.wv i a kv x y),λi a kv x y=>k (.inl (AS (XI x))) (h.gv i a kv x y)⟩
noncomputable def CL(Is:List Isl)(c:Int):Str:=(Is.map (·.name)).getD (c%(Is.length:Int)).toNat default
noncomputable def WG(Is:List Isl)(c:Int):MV:=.tup [.str (CL Is c),.int (c/(Is.length:Int)%1000000000000000000000000000000)]
noncomputable abbrev WH:SpM:=λvs M Q=>∃(a p:Addr) (ns:List Int) (ys:List MV) (Is:List Isl),vs=[.ref a,.ref p]/\M a=some (.lst (ns.map MV.int))/\M p=some (.lst ys)/\IslsIn M Is ys/\1≤Is.length/\Is.length≤5/\ns.length≤100/\
 ∀M' r,SameM M M'->M r=none->M' r=some (.lst (ns.map (WG Is)))->Q (.ref r) M'
theorem FS:MonW WH:=by walk_at "m"
theorem Zby(T:Txt K mg t):FnOk P w K mg base CX0 1 t.f__law_rings t.d__law_rings ["cells","islands"] (liSp K WH):=by
 refine T.F__law_rings.okM Zbu (Xw (Φ:=[]) (Xx T) (Xy T) rfl nl0 nl0:Fts P w K mg base 0 O5 []) Fg ZbU (λvs M Q h=>?_) (λvs M Q h=>?_)
 ·obtain⟨_,_,_,_,_,rfl,_⟩:=h;rfl
 obtain⟨a,p,ns,ys,Is,rfl,ha,hp,hI,l1,l5,hn,q⟩:=h;show wSs _ _ _ [some (.ref a),some (.ref p),none,none] M;rw[Fg,O4];walk_at "s";intro r hr;have s1:=SameM.new hr (.lst []);have hr1:updM M r (.lst []) r=some (.lst []):=Xg;generalize updM M r _=M1 at*;rw[O3];have ha1:=s1 _ _ ha
 repeat (first|walk_at "s"|simp only[ha1])
 obtain⟨J,hJ⟩:∃J:Nat->Sm->MH->Prop,∀j σ M',J j σ M'↔∃v3,SameM M M'/\M' r=some (.lst ((ns.take j).map (WG Is)))/\σ=[some (.ref a),some (.ref p),some (.ref r),v3]:=⟨_,λ_ _ _=>Y8⟩;refine⟨J,(hJ 0 _ _).mpr ⟨_,s1,hr1,rfl⟩,λj σ M' h=>?_,?_,?_⟩
 ·obtain⟨_,s,_⟩:=(hJ _ _ _).mp h;exact s _ _ ha
 ·rintro j u σ M' hu h;obtain⟨v3,s,hd,rfl⟩:=(hJ _ _ _).mp h;obtain⟨hj,rfl⟩:=Yl (show(ns.map MV.int)[j]?=some u from hu);have ht:ns.take (j+1)=ns.take j++[ns[j]]:=by rw[YN,Xc hj];rfl
  generalize ns[j]=c at*;rw[O2];have hy:=hI.1
  repeat (first|walk_at "s"|simp only[hd,s _ _ hp])
  have h0:0≤c%(ys.length:Int):=UZ _ (by lia)
  have h1:c%(ys.length:Int)<ys.length:=UY _ (by lia)
  obtain⟨k,hk⟩:∃k:Nat,c%(ys.length:Int)=k:=⟨_,(A5 h0).symm⟩;have hkl:k<ys.length:=by lia
  obtain⟨I,hkI⟩:∃I,Is[k]?=some I:=⟨_,Xc (show k<Is.length by lia)⟩
  obtain⟨ia,ib,ey,_⟩:=hI.2 k _ _ hkI (Xc hkl);refine⟨⟨_,rfl⟩,by lia,_,by rw[hk];exact Z9 (Xc hkl),?_⟩
  rw[ey]
  repeat (first|walk_at "s"|simp only[hd,s _ _ hp])
  rw[X7,Yz];refine⟨⟨by lia,by lia⟩,by lia,?_⟩
  refine(hJ _ _ _).mpr ⟨_,s.upd hr _,?_,rfl⟩;rw[Xg,ht,Y6];have e:WG Is c=.tup [.str I.name,.int (c/(ys.length:Int)%1000000000000000000000000000000)]:=by
   unfold WG CL;rw[<- hy,hk,Wd,Yc,Xq,hkI];rfl
  rw[<- e];rfl
 ·rintro σ M' h;obtain⟨v3,s,hd,rfl⟩:=(hJ _ _ _).mp h;have el:(Src.lst a (ns.map MV.int)).len=ns.length:=X7 _;rw[el,UV]at hd;rw[O1];walk_at "s";exact q M' r s hr hd
theorem ZlK{W:Wld}{S:Std}{R:Shp}{z:Str}{r:List (Nat×List (Key×MV))}(h:R[W.iat z]?=some r):cntV (V6 W S R z)=(cntV R).set (W.iat z) (.int ((r.length:Int) - 1+1)):=by
 unfold cntV V6;rw[W8,Yc,h];have e:((((some r).getD []++[(S.num.getD (W.iat z) 0,S.wd.getD (W.iat z) [])]).length:Nat):Int) - 1=(r.length:Int) - 1+1:=by
  rw[YY];simp
 rw[e]
noncomputable abbrev WI:SpM:=λvs M Q=>∃(W:Wld) (p:Addr) (ys:List MV) (n:Nat),vs=[W.mv,.ref p,.int n]/\W.Good/\n≤100/\M p=some (.lst ys)/\IslsIn M W.isl ys/\∀M' q,SameM M M'->M q=none->M' q=some (.dic (cntK W n))->Q (.ref q) M'
theorem FT:MonW WI:=by walk_at "m"
theorem Zbx(T:Txt K mg t):FnOk P w K mg base CX0 54 t.f__law_steps t.d__law_steps ["world","islands","rounds"] (liSp K WI):=by
 refine T.F__law_steps.okM Zbt (Xw (Φ:=[("first_stand",VS),("round_of",VT)]) (Xx T) (Xy T) rfl (fMc ⟨FN,(fMc ⟨FP,nl0⟩)⟩) (fMc ⟨⟨_,_,_,(FnOk.mono (Pv T) (by decide)),T.m_first_stand,T.F_first_stand.kp,T.b_first_stand⟩,(fMc ⟨⟨_,_,_,(FnOk.mono (Px T) (by decide)),T.m_round_of,T.F_round_of.kp,T.b_round_of⟩,nl0⟩)⟩):Fts P w K mg base 53 Of [("first_stand",VS),("round_of",VT)]) Fh ZbT (fun vs M Q h=>?_) (fun vs M Q h=>?_)
 ·obtain⟨_,_,_,_,rfl,_⟩:=h;rfl
 obtain⟨W,p,ys,n,rfl,G,hn,hp,hIs,q⟩:=h;show wSs _ _ _ [some W.mv,some (.ref p),some (.int n),none,none,none,none,none,none] M;have i5:=G.i5;have li:W.ins.length=W.isl.length:=by unfold Wld.ins;rw[X7]
 rw[Fh,Oe];walk_at "s";refine⟨W,rfl,G,λM1 A1 s1 h1 _ _=>?_⟩;rw[Od];walk_at "s";intro pd hpd;have s2:=SameM.new hpd (.dic []);have hd2:updM M1 pd (.dic []) pd=some (.dic []):=Xg;generalize updM M1 pd _=M2 at*;rw[Oc]
 repeat (first|walk_at "s"|simp only[(s1.trans s2) _ _ hp])
 obtain⟨J,hJ⟩:∃J:Nat->Sm->MH->Prop,∀j σ M',J j σ M'↔∃v5,SameM M1 M'/\M' pd=some (.dic (zipK (W.ins.take j) ((W.isl.take j).map λ_=>.int 0)))/\σ=[some W.mv,some (.ref p),some (.int n),some A1.mv,some (.ref pd),v5,none,none,none]:=⟨_,λ_ _ _=>Y8⟩;refine⟨J,(hJ 0 _ _).mpr ⟨_,s2,hd2,rfl⟩,λj σ M' h=>?_,?_,?_⟩
 ·obtain⟨_,s,_⟩:=(hJ _ _ _).mp h;exact(s1.trans s) _ _ hp
 ·rintro j u σ M' hu h;obtain⟨v5,s,hd,rfl⟩:=(hJ _ _ _).mp h;have hu:ys[j]?=some u:=hu;have hj:j<W.isl.length:=by rw[<- hIs.1];exact(XE.mp hu).1
  obtain⟨I,hI⟩:∃I,W.isl[j]?=some I:=⟨_,Xc hj⟩;obtain⟨ia,ib,rfl,_⟩:=hIs.2 j _ _ hI hu;have lr:((W.isl.take j).map λ_=>MV.int 0).length=(W.ins.take j).length:=by rw[X7,Yz,Yz,li]
  have hni:I.name∉W.ins.take j:=Cg G.in_nd (V5 hI);have tk:W.ins.take (j+1)=W.ins.take j++[I.name]:=by rw[YN,V5 hI];rfl
  have tk2:W.isl.take (j+1)=W.isl.take j++[I]:=by rw[YN,hI];rfl
  rw[Ob]
  repeat (first|walk_at "s"|simp only[hd])
  rw[VO lr,Yz];refine⟨by lia,?_⟩
  refine(hJ _ _ _).mpr ⟨_,s.upd hpd _,?_,rfl⟩;rw[Xg,ZhZ _ lr hni,tk,tk2,Y6];rfl
 rintro σ M3 h;obtain⟨v5,s3,hd3,rfl⟩:=(hJ _ _ _).mp h;have el:(Src.lst p ys).len=W.isl.length:=hIs.1;rw[el]at hd3
 conv at hd3=>rw[<- li,UV]
 rw[li,UV]at hd3;have e0:zipK W.ins (W.isl.map λ_=>MV.int 0)=cntK W 0:=by
  unfold cntK cntV Ym;rw[XW];rfl
 rw[e0]at hd3;clear hJ;rw[Oa];walk_at "s";obtain⟨J2,hJ2⟩:∃J2:Nat->Sm->MH->Prop,∀k σ M',J2 k σ M'↔∃A v5 v6 v7 v8,SameM M1 M'/\StdAt W (XF W k) M' A/\pd∉A.own/\pd∉A.ws/\M' pd=some (.dic (cntK W k))/\σ=[some W.mv,some (.ref p),some (.int n),some A.mv,some (.ref pd),v5,v6,v7,v8]:=⟨_,λ_ _ _=>Y8⟩;have hS0:=Ps G;have no1:pd∉A1.own:=λz=>by obtain⟨o,ho⟩:=h1.own_at hS0 (.inl z);rw[hpd]at ho;cases ho
 have nw1:pd∉A1.ws:=λz=>by obtain⟨o,ho⟩:=h1.own_at hS0 (.inr z);rw[hpd]at ho;cases ho
 refine⟨by lia,by lia,J2,(hJ2 0 _ _).mpr ⟨A1,_,_,_,_,s3,h1.keep s3,no1,nw1,hd3,rfl⟩,λj σ M' h=>trivial,?_,?_⟩
 ·rintro k u σ M' hu h;obtain⟨A,v5,v6,v7,v8,s,hA,no,nw,hd,rfl⟩:=(hJ2 _ _ _).mp h;obtain⟨hk,rfl⟩:=Ww hu;rw[O9];walk_at "s";refine⟨W,XF W k,A,5*k,rfl,G,AU G k,by lia,hA,λM4 A4 q4 s4 h4 n4 w4 f4 d4=>?_⟩
  walk_at "s";rw[O8]
  repeat (first|walk_at "s"|simp only[d4])
  obtain⟨hw1,hw2⟩:=FQ G k;have no4:pd∉A4.own:=λz=>neM hd (n4.fr _ z) rfl;have nw4:pd∉A4.ws:=λz=>neM hd (w4 _ z) rfl;have nq:q4≠pd:=(neM hd f4).symm;obtain⟨J',hJ'⟩:∃J':Nat->Sm->MH->Prop,∀j σ M',J' j σ M'↔∃v8,SameM M1 M'/\StdAt W (XF W (k+1)) M' A4/\M' pd=some (.dic (zipK W.ins (cntV (addM W (XF W (k+1)) ((Y4 W (XF W k)).take j) (Ym W k)))))/\M' q4=some (.lst ((Y4 W (XF W k)).map MV.str))/\σ=[some W.mv,some (.ref p),some (.int n),some A4.mv,some (.ref pd),v5,some (.int (0+(k:Nat))),some (.ref q4),v8]:=⟨_,λ_ _ _=>Y8⟩;refine⟨J',(hJ' 0 _ _).mpr ⟨_,s.trans s4,h4,s4 _ _ hd,d4,rfl⟩,λj σ M' h=>?_,?_,?_⟩
  ·obtain⟨_,_,_,_,e,_⟩:=(hJ' _ _ _).mp h;exact e
  ·rintro j u σ M' hu h;obtain⟨v8,s,h4,hd,d4,rfl⟩:=(hJ' _ _ _).mp h;obtain⟨hj,rfl⟩:=Yl (show((Y4 W (XF W k)).map MV.str)[j]?=some u from hu);obtain⟨z,hz⟩:∃z,(Y4 W (XF W k))[j]=z:=⟨_,rfl⟩;have hzi:=hw1 _ (XV hj);have ht:addM W (XF W (k+1)) ((Y4 W (XF W k)).take (j+1)) (Ym W k)=V6 W (XF W (k+1)) (addM W (XF W (k+1)) ((Y4 W (XF W k)).take j) (Ym W k)) z:=by
    rw[YN,Xc hj,hz];unfold addM;rw[W5];rfl
   rw[hz]at hzi ⊢;obtain⟨hz1,I,hI,rfl⟩:=Py hzi;have kp:=(CD (W:=W) (S:=XF W (k+1)) ((Y4 W (XF W k)).take j) (CF G k).2).1;rw[CI G k]at kp;generalize addM W (XF W (k+1)) ((Y4 W (XF W k)).take j) (Ym W k)=R at*;have hi:W.iat I.name<W.ins.length:=(XE.mp hz1).1;obtain⟨r,hr⟩:∃r,R[W.iat I.name]?=some r:=⟨_,Xc (by rw[kp];exact hi)⟩
   have lc:(cntV R).length=W.ins.length:=by unfold cntV;rw[X7];exact kp
   rw[O7]
   repeat (first|walk_at "s"|simp only[hd])
   refine⟨_,Ub G.in_nd hz1 (by unfold cntV;rw[Xq,hr];rfl),?_⟩
   repeat (first|walk_at "s"|simp only[hd])
   rw[VO lc,WD lc G.in_nd hz1];refine⟨by lia,?_⟩
   refine(hJ' _ _ _).mpr ⟨_,s.upd hpd _,h4.offd no4 nw4 _,?_,?_,rfl⟩
   ·rw[Xg,ht,ZlK hr]
   ·rw[Xp nq];exact d4
  ·rintro σ M' h;obtain⟨v8,s,h4,hd,d4,rfl⟩:=(hJ' _ _ _).mp h;refine(hJ2 _ _ _).mpr ⟨A4,_,_,_,_,s,h4,no4,nw4,?_,rfl⟩;rw[hd];have el:(Src.lst q4 ((Y4 W (XF W k)).map MV.str)).len=(Y4 W (XF W k)).length:=X7 _;rw[el,UV];rfl
 ·rintro σ M' h;obtain⟨A,v5,v6,v7,v8,s,hA,no,nw,hd,rfl⟩:=(hJ2 _ _ _).mp h;rw[O6];walk_at "s";exact q M' pd (s1.trans s) (s1.free hpd) hd
noncomputable abbrev WJ:SpM:=λvs M Q=>∃(a b:Addr) (W:Wld) (n:Nat),vs=[.ref a,.ref b]/\W.Good/\M a=some (.dic (cntK W n))/\M b=some (.dic (cntK W n))/\∀M',SameM M M'->Q (.bl true) M'
theorem FU:MonW WJ:=by walk_at "m"
theorem Zdt(T:Txt K mg t):FnOk P w K mg base CX0 2 t.f__law_are t.d__law_are ["found","due"] (liSp K WJ):=by
 refine T.F__law_are.okM Zdp (Xw (Φ:=[("_law_whole",AN)]) (Xx T) (Xy T) rfl (fMc ⟨P3,nl0⟩) (fMc ⟨⟨_,_,_,(FnOk.mono (Zbw T) (by decide)),T.m__law_whole,T.F__law_whole.kp,T.b__law_whole⟩,nl0⟩):Fts P w K mg base 1 Oi [("_law_whole",AN)]) Fi Ze2 (fun vs M Q h=>?_) (fun vs M Q h=>?_)
 ·obtain⟨_,_,_,_,rfl,_⟩:=h;rfl
 obtain⟨a,b,W,n,rfl,G,ha,hb,q⟩:=h;show wSs _ _ _ [some (.ref a),some (.ref b)] M;have i5:=G.i5;have li:W.ins.length=W.isl.length:=by unfold Wld.ins;rw[X7]
 have hΦ:=(Z2 (Φ:=[("_law_whole",AN)]) (fMc ⟨P3,nl0⟩));have lc:(cntV (Ym W n)).length=W.ins.length:=by unfold cntV;rw[X7];exact CI G n
 have nd:((cntK W n).map (·.1)).Nodup:=by unfold cntK;rw[WC lc];exact List.Pairwise.map _ (λ_ _ ne e=>ne (Vf e)) G.in_nd
 rw[Fi,Oh]
 repeat (first|walk_at "s"|simp only[ha])
 refine J3 rfl (Alike.dicFlat 0 ha hb nd (λp hp=>?_)) (by decide) ?_
 ·obtain⟨i,z,_,_,hv⟩:=PC (k:=p.1) (u:=p.2) hp;unfold cntV at hv;obtain⟨hi,e⟩:=Yl hv;rw[e];rfl
 rw[if_neg (by simp),Og]
 walk_at "s";refine Zfz (W.ins.zip (Ym W n)) (λx=>.str x.1) (λM2=>∃o,M2=updM M a (.fdic o (cntK W n))) ?_ ?_ hΦ λD M2 hD s2 hd=>?_
 ·repeat (first|walk_at "s"|simp only[ha])
  intro o;refine⟨?_,by rw[UB];lia,.inr ⟨_,_,_,rfl,ha,rfl⟩,o,rfl⟩
  show(zipK W.ins (cntV (Ym W n))).map (λp=>kM p.1)=_;rw[CA lc]
  conv=>lhs;rw[<- VR (ks:=W.ins) (xs:=Ym W n) (CI G n)]
  rw[XW];rfl
 ·rintro⟨z,r⟩ hx M2 M' ⟨o,rfl⟩ s;obtain⟨i,i1,i2⟩:=CB hx;have hw:=s _ _ (Xg (M:=M));simp only[sCm,XC,Y2,Ye,Yf,Yb,Y7]
  repeat (first|walk_at "s"|simp only[hw])
  refine⟨.int ((r.length:Int) - 1),Ub G.in_nd i1 (by unfold cntV;rw[Xq,i2];rfl),?_⟩
  refine⟨_,rfl,?_⟩;walk_at "s"
  rfl
 intro p hp;walk_at "s";refine E5 (SameM.new hp _ _ _ hd) Xg ?_;exact q _ (s2.trans (SameM.new hp _))
theorem Znq(T:Txt K mg t):FnOk P w K mg base CX0 60 t.f_law t.d_law ["script"] (liSp K J1):=by
 refine T.F_law.okM Zmk (Xw (Φ:=[("_law_are",WJ),("_law_rings",WH),("_law_steps",WI),("_law_things",WB),("bounds",WF),("made",Wz),("stretches",Vo)]) (Xx T) (Xy T) rfl (fMc ⟨FU,(fMc ⟨FS,(fMc ⟨FT,(fMc ⟨FH,(fMc ⟨FR,(fMc ⟨FC,(fMc ⟨CH,nl0⟩)⟩)⟩)⟩)⟩)⟩)⟩) (fMc ⟨⟨_,_,_,(FnOk.mono (Zdt T) (by decide)),T.m__law_are,T.F__law_are.kp,T.b__law_are⟩,(fMc ⟨⟨_,_,_,(FnOk.mono (Zby T) (by decide)),T.m__law_rings,T.F__law_rings.kp,T.b__law_rings⟩,(fMc ⟨⟨_,_,_,(FnOk.mono (Zbx T) (by decide)),T.m__law_steps,T.F__law_steps.kp,T.b__law_steps⟩,(fMc ⟨⟨_,_,_,(FnOk.mono (Zaj T) (by decide)),T.m__law_things,T.F__law_things.kp,T.b__law_things⟩,(fMc ⟨⟨_,_,_,(FnOk.mono (Zgy T) (by decide)),T.m_bounds,T.F_bounds.kp,T.b_bounds⟩,(fMc ⟨⟨_,_,_,(FnOk.mono (ZkY T) (by decide)),T.m_made,T.F_made.kp,T.b_made⟩,(fMc ⟨⟨_,_,_,(FnOk.mono (PF T) (by decide)),T.m_stretches,T.F_stretches.kp,T.b_stretches⟩,nl0⟩)⟩)⟩)⟩)⟩)⟩)⟩):Fts P w K mg base 59 Oy [("_law_are",WJ),("_law_rings",WH),("_law_steps",WI),("_law_things",WB),("bounds",WF),("made",Wz),("stretches",Vo)]) Fj Zo2 (fun vs M Q h=>?_) (fun vs M Q h=>?_)
 ·obtain⟨ns,rfl,_⟩:=h;rfl
 obtain⟨ns,rfl,h63,q⟩:=h;have hΦ:=(Z2 (Φ:=[("_law_are",WJ),("_law_rings",WH),("_law_steps",WI),("_law_things",WB),("bounds",WF),("made",Wz),("stretches",Vo)]) (fMc ⟨FU,(fMc ⟨FS,(fMc ⟨FT,(fMc ⟨FH,(fMc ⟨FR,(fMc ⟨FC,(fMc ⟨CH,nl0⟩)⟩)⟩)⟩)⟩)⟩)⟩));show wSs _ _ _ [some (.frl (ns.map .int)),none,none,none,none,none,none,none,none,none,none] M;have hΦ:=(Z2 (Φ:=[("_law_are",WJ),("_law_rings",WH),("_law_steps",WI),("_law_things",WB),("bounds",WF),("made",Wz),("stretches",Vo)]) (fMc ⟨FU,(fMc ⟨FS,(fMc ⟨FT,(fMc ⟨FH,(fMc ⟨FR,(fMc ⟨FC,(fMc ⟨CH,nl0⟩)⟩)⟩)⟩)⟩)⟩)⟩));rw[Fj,Ox];walk_at "s";refine⟨ns,3,rfl,λW pi pf ys M1 s1 G i1 f1 f2 f3 hpi hIs hpf=>?_⟩;have i5:=G.i5;have f6:=G.f6;walk_at "s";rw[Ow]
 repeat (first|walk_at "s"|simp only[hpi])
 intro p1 hp1;have s2:=SameM.new hp1 (.lst ys);have hp2:updM M1 p1 (.lst ys) p1=some (.lst ys):=Xg;generalize updM M1 p1 _=M2 at*;have hpf2:=s2 _ _ hpf
 repeat (first|walk_at "s"|simp only[hpf2])
 intro p2 hp3;have s3:=SameM.new hp3 (.lst (W.fer.map Fer.mv));have hp4:updM M2 p2 (.lst (W.fer.map Fer.mv)) p2=some (.lst (W.fer.map Fer.mv)):=Xg;generalize updM M2 p2 _=M3 at*;refine⟨p1,p2,ys,W,rfl,s3 _ _ hp2,hIs.keep (s2.trans s3),hp4,G,λM4 s4=>?_⟩;have s14:=(s2.trans s3).trans s4;have hpi4:=s14 _ _ hpi;have hpf4:=s14 _ _ hpf;have hIs4:=hIs.keep s14;obtain⟨cs,hcs,hcl⟩:∃cs:List Int,cutM (ns.map MV.int) (some 10) (some 90)=cs.map MV.int/\cs.length≤90:=by
  refine⟨(ns.drop (HT.sIx (ns.map MV.int).length 0 (some 10))).take (HT.sIx (ns.map MV.int).length (ns.map MV.int).length (some 90) - HT.sIx (ns.map MV.int).length 0 (some 10)),?_,?_⟩
  ·unfold cutM;rw[List.map_take,List.map_drop]
  ·rw[Yz,WW];lia
 rw[Ov];walk_at "s";refine J8 cs (WG W.isl) (λc=>.str (CL W.isl c)) ?_ ?_ hΦ λpn M5 hpn s5 hd5=>?_
 ·walk_at "s";intro p hp;rw[hcs];refine⟨p,pi,cs,ys,W.isl,rfl,Xg,SameM.new hp _ _ _ hpi4,hIs4.keep (SameM.new hp _),i1,i5,by lia,λM' r s hr hd=>?_⟩
  repeat (first|walk_at "s"|simp only[hd])
  exact⟨rfl,by lia,hd,λa o e=>s _ _ (SameM.new hp _ _ _ e)⟩
 ·intro c hc M' s;simp only[sCm,XC,Y2,Ye,Yf,Yb,Y7]
  repeat (first|walk_at "s"|simp only[WG])
  exact λ_ _ e=>e
 have s5:SameM M4 M5:=s5;obtain⟨nm,hnm⟩:∃nm:List Str,cs.map (CL W.isl)=nm:=⟨_,rfl⟩;have hnl:nm.length≤90:=by rw[<- hnm,X7];exact hcl
 have hd5:M5 pn=some (.lst (nm.map MV.str)):=by rw[hd5,<- hnm,XW];rfl
 rw[Ou];walk_at "s";rw[Ot];have hpf5:=s5 _ _ hpf4
 repeat (first|walk_at "s"|simp only[hpf5])
 obtain⟨J,hJ⟩:∃J:Nat->Sm->MH->Prop,∀j σ M',J j σ M'↔∃v7,M'=M5/\σ=[some (.frl (ns.map MV.int)),some (.int W.w),some (.ref pi),some (.ref pf),some W.mv,some (.ref pn),some (.int (Yv (W.fer.take j) 2:Nat)),v7,none,none,none]:=⟨_,λ_ _ _=>Y8⟩;refine⟨J,(hJ 0 _ _).mpr ⟨_,rfl,rfl⟩,λj σ M' h=>?_,?_,?_⟩
 ·obtain⟨_,rfl,_⟩:=(hJ _ _ _).mp h;exact hpf5
 ·rintro j u σ M' hu h;obtain⟨v7,rfl,rfl⟩:=(hJ _ _ _).mp h;obtain⟨hj,rfl⟩:=Yl (show(W.fer.map Fer.mv)[j]?=some u from hu);have tk:W.fer.take (j+1)=W.fer.take j++[W.fer[j]]:=by rw[YN,Xc hj];rfl
  rw[Os]
  repeat (first|walk_at "s"|simp only[Fer.mv])
  have e:(if 2+((W.fer[j]).st:Int)>(Yv (W.fer.take j) 2:Nat)then 2+((W.fer[j]).st:Int)else(Yv (W.fer.take j) 2:Nat))=((Yv (W.fer.take (j+1)) 2:Nat):Int):=by
   rw[tk,PH];generalize Yv (W.fer.take j) 2=k;generalize(W.fer[j]).st=m;by_cases h:2+m>k
   ·rw[if_pos h,if_pos (by lia)];lia
   ·rw[if_neg h,if_neg (by lia)]
  rw[e];exact(hJ _ _ _).mpr ⟨_,rfl,rfl⟩
 rintro σ M6 h;obtain⟨v7,rfl,rfl⟩:=(hJ _ _ _).mp h;have el:(Src.lst pf (W.fer.map Fer.mv)).len=W.fer.length:=X7 _;rw[el,UV];clear hJ;have eL:Yv W.fer 2=Z4 W:=rfl;rw[eL,Oq]
 repeat (first|walk_at "s"|simp only[hd5])
 intro ph hph;have s6:=SameM.new hph (.lst (nm.map MV.str));have hh6:updM M6 ph (.lst (nm.map MV.str)) ph=some (.lst (nm.map MV.str)):=Xg;generalize updM M6 ph _=M7 at*;rw[Op];walk_at "s";refine⟨W,ph,nm,rfl,G,hh6,by lia,λM8 b1 b2 s8 n1 n2 n12 d1 d2=>?_⟩
 have s68:=s6.trans s8;rw[Oo];walk_at "s";refine J3 rfl (Alike.lstFlat 0 (.inr ⟨_,rfl,s8 _ _ hh6⟩) (.inr ⟨_,rfl,s68 _ _ hd5⟩) λv hv=>?_) (by decide) ?_
 ·obtain⟨z,_,rfl⟩:=XN.mp hv;rfl
 rw[if_neg (by simp),On]
 repeat (first|walk_at "s"|simp only[s68 _ _ hd5])
 intro pq hpq;have s9:=SameM.new hpq (.lst (nm.map MV.str));have hq9:updM M8 pq (.lst (nm.map MV.str)) pq=some (.lst (nm.map MV.str)):=Xg;generalize updM M8 pq _=M9 at*;refine⟨W,pq,nm,rfl,G,hq9,by lia,λMa sa=>?_⟩
 walk_at "s";have hl:2≤Z4 W:=(AW W.fer 2).1;have hl5:=PJ G;have hs:=CG W.ins nm (0,W.ins);have hq:(strM W.ins nm).1/Z4 W≤100:=Y3 (Nat.div_le_self _ _) (by unfold strM;lia)
 have s4a:=(s5.trans s68).trans (s9.trans sa);refine⟨⟨by lia,by lia⟩,W,pi,ys,(strM W.ins nm).1/Z4 W,by rw[Int.natCast_ediv],G,hq,s4a _ _ hpi4,hIs4.keep s4a,λMb pb sb hpb db=>?_⟩
 rw[Om];walk_at "s";have s8b:=(s9.trans sa).trans sb;refine⟨b1,pb,W,_,rfl,G,s8b _ _ d1,db,λMc sc=>?_⟩;walk_at "s";rw[Ol];have s8c:=s8b.trans sc;have d1c:=s8c _ _ d1
 repeat (first|walk_at "s"|simp only[d1c])
 refine⟨⟨_,rfl⟩,?_⟩;have s7:SameM M7 (updM Mc b1 (.dic [])):=(s8.trans s8c).upd n1 _;have d2d:updM Mc b1 (.dic []) b2=some (.dic (cntK W nm.length)):=by rw[Xp n12.symm];exact s8c _ _ d2
 generalize updM Mc b1 _=Md at*;have s4d:=(s5.trans s6).trans s7;rw[Oj]
 repeat (first|walk_at "s"|simp only[(s6.trans s7) _ _ hd5])
 rw[X7];refine⟨W,pi,ys,nm.length,rfl,G,by lia,s4d _ _ hpi4,hIs4.keep s4d,λMe pe se hpe de=>?_⟩
 walk_at "s";refine⟨b2,pe,W,nm.length,rfl,G,se _ _ d2d,de,λMf sf=>?_⟩;exact q _
end
theorem all_mk{l:D4}{w:Xj}{K:X6}{h:Heap}{mg:Str->Option X0}{fa:Addr}(X:K.In h)(G:h.Ns Xf mg)(hfa:mg "law"=some (.ref fa))
  {f1 f2 f3 f4 f5 f6 f7 f8 f9 f10 f11 f12 f13 f14 f15 f16 f17 f18 f19 f20 f21 f22 f23 f24 f25 f26 f27 f28 f29 f30 f31 f32 f33 f34 f35 f36 f37 f38 f39 f40 f41 f42 f43 f44 f45 f46 f47 f48 f49 f50 f51 f52 f53 f54:Addr} {od1 an1 od2 an2 od3 an3 od4 an4 od5 an5 od6 an6 od7 an7 od8 an8 od9 an9 od10 an10 od11 an11 od12 an12 od13 an13 od14 an14 od15 an15 od16 an16 od17 an17 od18 an18 od19 an19 od20 an20 od21 an21 od22 an22 od23 an23 od24 an24 od25 an25 od26 an26 od27 an27 od28 an28 od29 an29 od30 an30 od31 an31 od32 an32 od33 an33 od34 an34 od35 an35 od36 an36 od37 an37 od38 an38 od39 an39 od40 an40 od41 an41 od42 an42 od43 an43 od44 an44 od45 an45 od46 an46 od47 an47 od48 an48 od49 an49 od50 an50 od51 an51 od52 an52 od53 an53 od54 an54:Option Addr} {sl1 sl2 sl3 sl4 sl5 sl6 sl7 sl8 sl9 sl10 sl11 sl12 sl13 sl14 sl15 sl16 sl17 sl18 sl19 sl20 sl21 sl22 sl23 sl24 sl25 sl26 sl27 sl28 sl29 sl30 sl31 sl32 sl33 sl34 sl35 sl36 sl37 sl38 sl39 sl40 sl41 sl42 sl43 sl44 sl45 sl46 sl47 sl48 sl49 sl50 sl51 sl52 sl53 sl54:Array (Option X0)} {oc1 kV1 dc1 pm1 cd1 ct1 oc2 kV2 dc2 pm2 cd2 ct2 oc3 kV3 dc3 pm3 cd3 ct3 oc4 kV4 dc4 pm4 cd4 ct4 oc5 kV5 dc5 pm5 cd5 ct5 oc6 kV6 dc6 pm6 cd6 ct6 oc7 kV7 dc7 pm7 cd7 ct7 oc8 kV8 dc8 pm8 cd8 ct8 oc9 kV9 dc9 pm9 cd9 ct9 oc10 kV10 dc10 pm10 cd10 ct10 oc11 kV11 dc11 pm11 cd11 ct11 oc12 kV12 dc12 pm12 cd12 ct12 oc13 kV13 dc13 pm13 cd13 ct13 oc14 kV14 dc14 pm14 cd14 ct14 oc15 kV15 dc15 pm15 cd15 ct15 oc16 kV16 dc16 pm16 cd16 ct16 oc17 kV17 dc17 pm17 cd17 ct17 oc18 kV18 dc18 pm18 cd18 ct18 oc19 kV19 dc19 pm19 cd19 ct19 oc20 kV20 dc20 pm20 cd20 ct20 oc21 kV21 dc21 pm21 cd21 ct21 oc22 kV22 dc22 pm22 cd22 ct22 oc23 kV23 dc23 pm23 cd23 ct23 oc24 kV24 dc24 pm24 cd24 ct24 oc25 kV25 dc25 pm25 cd25 ct25 oc26 kV26 dc26 pm26 cd26 ct26 oc27 kV27 dc27 pm27 cd27 ct27 oc28 kV28 dc28 pm28 cd28 ct28 oc29 kV29 dc29 pm29 cd29 ct29 oc30 kV30 dc30 pm30 cd30 ct30 oc31 kV31 dc31 pm31 cd31 ct31 oc32 kV32 dc32 pm32 cd32 ct32 oc33 kV33 dc33 pm33 cd33 ct33 oc34 kV34 dc34 pm34 cd34 ct34 oc35 kV35 dc35 pm35 cd35 ct35 oc36 kV36 dc36 pm36 cd36 ct36 oc37 kV37 dc37 pm37 cd37 ct37 oc38 kV38 dc38 pm38 cd38 ct38 oc39 kV39 dc39 pm39 cd39 ct39 oc40 kV40 dc40 pm40 cd40 ct40 oc41 kV41 dc41 pm41 cd41 ct41 oc42 kV42 dc42 pm42 cd42 ct42 oc43 kV43 dc43 pm43 cd43 ct43 oc44 kV44 dc44 pm44 cd44 ct44 oc45 kV45 dc45 pm45 cd45 ct45 oc46 kV46 dc46 pm46 cd46 ct46 oc47 kV47 dc47 pm47 cd47 ct47 oc48 kV48 dc48 pm48 cd48 ct48 oc49 kV49 dc49 pm49 cd49 ct49 oc50 kV50 dc50 pm50 cd50 ct50 oc51 kV51 dc51 pm51 cd51 ct51 oc52 kV52 dc52 pm52 cd52 ct52 oc53 kV53 dc53 pm53 cd53 ct53 oc54 kV54 dc54 pm54 cd54 ct54:X0}
  {tk1:Tok}
  {tk2:Tok}
  {tk3:Tok}
  {tk4:Tok}
  {tk5:Tok}
  {tk6:Tok}
  {tk7:Tok}
  {tk8:Tok}
  {tk9:Tok}
  {tk10:Tok}
  (a1:Xi K Xf "is_whole"=some (some (.ref f1))) (l1:K.lookup f1=some ⟨oc1,od1,.func (X9 "is_whole" "is_whole" (Xb Zi) (X5 Zi) (X2 Zi) .none kV1 dc1 pm1 an1 cd1 ct1),sl1⟩) (c1:Xu K cd1 "is_whole"=true) (k1:Xr K (.ref f1)=true)
  (a2:Xi K Xf "is_width"=some (some (.ref f2))) (l2:K.lookup f2=some ⟨oc2,od2,.func (X9 "is_width" "is_width" (Xb Zj) (X5 Zj) (X2 Zj) .none kV2 dc2 pm2 an2 cd2 ct2),sl2⟩) (c2:Xu K cd2 "is_width"=true) (k2:Xr K (.ref f2)=true)
  (a3:Xi K Xf "two_to"=some (some (.ref f3))) (l3:K.lookup f3=some ⟨oc3,od3,.func (X9 "two_to" "two_to" (Xb Zk) (X5 Zk) (X2 Zk) .none kV3 dc3 pm3 an3 cd3 ct3),sl3⟩) (c3:Xu K cd3 "two_to"=true) (k3:Xr K (.ref f3)=true)
  (a4:Xi K Xf "fits"=some (some (.ref f4))) (l4:K.lookup f4=some ⟨oc4,od4,.func (X9 "fits" "fits" (Xb Zl) (X5 Zl) (X2 Zl) .none kV4 dc4 pm4 an4 cd4 ct4),sl4⟩) (c4:Xu K cd4 "fits"=true) (k4:Xr K (.ref f4)=true)
  (a5:Xi K Xf "cut"=some (some (.ref f5))) (l5:K.lookup f5=some ⟨oc5,od5,.func (X9 "cut" "cut" (Xb Zm) (X5 Zm) (X2 Zm) .none kV5 dc5 pm5 an5 cd5 ct5),sl5⟩) (c5:Xu K cd5 "cut"=true) (k5:Xr K (.ref f5)=true)
  (a6:Xi K Xf "parts_within"=some (some (.ref f6))) (l6:K.lookup f6=some ⟨oc6,od6,.func (X9 "parts_within" "parts_within" (Xb Zn) (X5 Zn) (X2 Zn) .none kV6 dc6 pm6 an6 cd6 ct6),sl6⟩) (c6:Xu K cd6 "parts_within"=true) (k6:Xr K (.ref f6)=true)
  (a7:Xi K Xf "size_of"=some (some (.ref f7))) (l7:K.lookup f7=some ⟨oc7,od7,.func (X9 "size_of" "size_of" (Xb Zo) (X5 Zo) (X2 Zo) .none kV7 dc7 pm7 an7 cd7 ct7),sl7⟩) (c7:Xu K cd7 "size_of"=true) (k7:Xr K (.ref f7)=true)
  (a8:Xi K Xf "names_read"=some (some (.ref f8))) (l8:K.lookup f8=some ⟨oc8,od8,.func (X9 "names_read" "names_read" (Xb Zp) (X5 Zp) (X2 Zp) .none kV8 dc8 pm8 an8 cd8 ct8),sl8⟩) (c8:Xu K cd8 "names_read"=true) (k8:Xr K (.ref f8)=true)
  (a9:Xi K Xf "vars_in"=some (some (.ref f9))) (l9:K.lookup f9=some ⟨oc9,od9,.func (X9 "vars_in" "vars_in" (Xb Zq) (X5 Zq) (X2 Zq) .none kV9 dc9 pm9 an9 cd9 ct9),sl9⟩) (c9:Xu K cd9 "vars_in"=true) (k9:Xr K (.ref f9)=true)
  (a10:Xi K Xf "worth_of_two"=some (some (.ref f10))) (l10:K.lookup f10=some ⟨oc10,od10,.func (X9 "worth_of_two" "worth_of_two" (Xb Zr) (X5 Zr) (X2 Zr) .none kV10 dc10 pm10 an10 cd10 ct10),sl10⟩) (c10:Xu K cd10 "worth_of_two"=true) (k10:Xr K (.ref f10)=true)
  (a11:Xi K Xf "worth"=some (some (.ref f11))) (l11:K.lookup f11=some ⟨oc11,od11,.func (X9 "worth" "worth" (Xb Zs) (X5 Zs) (X2 Zs) .none kV11 dc11 pm11 an11 cd11 ct11),sl11⟩) (c11:Xu K cd11 "worth"=true) (k11:Xr K (.ref f11)=true)
  (a12:Xi K Xf "wish"=some (some (.ref f12))) (l12:K.lookup f12=some ⟨oc12,od12,.func (X9 "wish" "wish" (Xb Zt) (X5 Zt) (X2 Zt) .none kV12 dc12 pm12 an12 cd12 ct12),sl12⟩) (c12:Xu K cd12 "wish"=true) (k12:Xr K (.ref f12)=true)
  (a13:Xi K Xf "number_after"=some (some (.ref f13))) (l13:K.lookup f13=some ⟨oc13,od13,.func (X9 "number_after" "number_after" (Xb Zu) (X5 Zu) (X2 Zu) .none kV13 dc13 pm13 an13 cd13 ct13),sl13⟩) (c13:Xu K cd13 "number_after"=true) (k13:Xr K (.ref f13)=true)
  (a14:Xi K Xf "words_after"=some (some (.ref f14))) (l14:K.lookup f14=some ⟨oc14,od14,.func (X9 "words_after" "words_after" (Xb Zv) (X5 Zv) (X2 Zv) .none kV14 dc14 pm14 an14 cd14 ct14),sl14⟩) (c14:Xu K cd14 "words_after"=true) (k14:Xr K (.ref f14)=true)
  (a15:Xi K Xf "after"=some (some (.ref f15))) (l15:K.lookup f15=some ⟨oc15,od15,.func (X9 "after" "after" (Xb Zw) (X5 Zw) (X2 Zw) .none kV15 dc15 pm15 an15 cd15 ct15),sl15⟩) (c15:Xu K cd15 "after"=true) (k15:Xr K (.ref f15)=true)
  (a16:Xi K Xf "is_name"=some (some (.ref f16))) (l16:K.lookup f16=some ⟨oc16,od16,.func (X9 "is_name" "is_name" (Xb Zx) (X5 Zx) (X2 Zx) .none kV16 dc16 pm16 an16 cd16 ct16),sl16⟩) (c16:Xu K cd16 "is_name"=true) (k16:Xr K (.ref f16)=true)
  (a17:Xi K Xf "refuse_name"=some (some (.ref f17))) (l17:K.lookup f17=some ⟨oc17,od17,.func (X9 "refuse_name" "refuse_name" (Xb Zy) (X5 Zy) (X2 Zy) .none kV17 dc17 pm17 an17 cd17 ct17),sl17⟩) (c17:Xu K cd17 "refuse_name"=true) (k17:Xr K (.ref f17)=true)
  (a18:Xi K Xf "refuse_unknown"=some (some (.ref f18))) (l18:K.lookup f18=some ⟨oc18,od18,.func (X9 "refuse_unknown" "refuse_unknown" (Xb Zz) (X5 Zz) (X2 Zz) .none kV18 dc18 pm18 an18 cd18 ct18),sl18⟩) (c18:Xu K cd18 "refuse_unknown"=true) (k18:Xr K (.ref f18)=true)
  (a19:Xi K Xf "refuse_ferry_names"=some (some (.ref f19))) (l19:K.lookup f19=some ⟨oc19,od19,.func (X9 "refuse_ferry_names" "refuse_ferry_names" (Xb ZA) (X5 ZA) (X2 ZA) .none kV19 dc19 pm19 an19 cd19 ct19),sl19⟩) (c19:Xu K cd19 "refuse_ferry_names"=true) (k19:Xr K (.ref f19)=true)
  (a20:Xi K Xf "refuse_variables"=some (some (.ref f20))) (l20:K.lookup f20=some ⟨oc20,od20,.func (X9 "refuse_variables" "refuse_variables" (Xb ZB) (X5 ZB) (X2 ZB) .none kV20 dc20 pm20 an20 cd20 ct20),sl20⟩) (c20:Xu K cd20 "refuse_variables"=true) (k20:Xr K (.ref f20)=true)
  (a21:Xi K Xf "refuse_term"=some (some (.ref f21))) (l21:K.lookup f21=some ⟨oc21,od21,.func (X9 "refuse_term" "refuse_term" (Xb ZC) (X5 ZC) (X2 ZC) .none kV21 dc21 pm21 an21 cd21 ct21),sl21⟩) (c21:Xu K cd21 "refuse_term"=true) (k21:Xr K (.ref f21)=true)
  (a22:Xi K Xf "refuse_step"=some (some (.ref f22))) (l22:K.lookup f22=some ⟨oc22,od22,.func (X9 "refuse_step" "refuse_step" (Xb ZD) (X5 ZD) (X2 ZD) .none kV22 dc22 pm22 an22 cd22 ct22),sl22⟩) (c22:Xu K cd22 "refuse_step"=true) (k22:Xr K (.ref f22)=true)
  (a23:Xi K Xf "refuse_island"=some (some (.ref f23))) (l23:K.lookup f23=some ⟨oc23,od23,.func (X9 "refuse_island" "refuse_island" (Xb ZE) (X5 ZE) (X2 ZE) .none kV23 dc23 pm23 an23 cd23 ct23),sl23⟩) (c23:Xu K cd23 "refuse_island"=true) (k23:Xr K (.ref f23)=true)
  (a24:Xi K Xf "refuse_islands"=some (some (.ref f24))) (l24:K.lookup f24=some ⟨oc24,od24,.func (X9 "refuse_islands" "refuse_islands" (Xb ZF) (X5 ZF) (X2 ZF) .none kV24 dc24 pm24 an24 cd24 ct24),sl24⟩) (c24:Xu K cd24 "refuse_islands"=true) (k24:Xr K (.ref f24)=true)
  (a25:Xi K Xf "refuse_ferry"=some (some (.ref f25))) (l25:K.lookup f25=some ⟨oc25,od25,.func (X9 "refuse_ferry" "refuse_ferry" (Xb ZG) (X5 ZG) (X2 ZG) .none kV25 dc25 pm25 an25 cd25 ct25),sl25⟩) (c25:Xu K cd25 "refuse_ferry"=true) (k25:Xr K (.ref f25)=true)
  (a26:Xi K Xf "refuse_wrong_end"=some (some (.ref f26))) (l26:K.lookup f26=some ⟨oc26,od26,.func (X9 "refuse_wrong_end" "refuse_wrong_end" (Xb ZH) (X5 ZH) (X2 ZH) .none kV26 dc26 pm26 an26 cd26 ct26),sl26⟩) (c26:Xu K cd26 "refuse_wrong_end"=true) (k26:Xr K (.ref f26)=true)
  (a27:Xi K Xf "refuse_wrong_ends"=some (some (.ref f27))) (l27:K.lookup f27=some ⟨oc27,od27,.func (X9 "refuse_wrong_ends" "refuse_wrong_ends" (Xb ZI) (X5 ZI) (X2 ZI) .none kV27 dc27 pm27 an27 cd27 ct27),sl27⟩) (c27:Xu K cd27 "refuse_wrong_ends"=true) (k27:Xr K (.ref f27)=true)
  (a28:Xi K Xf "frozen"=some (some (.ref f28))) (l28:K.lookup f28=some ⟨oc28,od28,.func (X9 "frozen" "frozen" (Xb ZJ) (X5 ZJ) (X2 ZJ) .none kV28 dc28 pm28 an28 cd28 ct28),sl28⟩) (c28:Xu K cd28 "frozen"=true) (k28:Xr K (.ref f28)=true)
  (a29:Xi K Xf "made"=some (some (.ref f29))) (l29:K.lookup f29=some ⟨oc29,od29,.func (X9 "made" "made" (Xb ZK) (X5 ZK) (X2 ZK) .none kV29 dc29 pm29 an29 cd29 ct29),sl29⟩) (c29:Xu K cd29 "made"=true) (k29:Xr K (.ref f29)=true)
  (a30:Xi K Xf "one_called"=some (some (.ref f30))) (l30:K.lookup f30=some ⟨oc30,od30,.func (X9 "one_called" "one_called" (Xb ZL) (X5 ZL) (X2 ZL) .none kV30 dc30 pm30 an30 cd30 ct30),sl30⟩) (c30:Xu K cd30 "one_called"=true) (k30:Xr K (.ref f30)=true)
  (a31:Xi K Xf "island_of"=some (some (.ref f31))) (l31:K.lookup f31=some ⟨oc31,od31,.func (X9 "island_of" "island_of" (Xb ZM) (X5 ZM) (X2 ZM) .none kV31 dc31 pm31 an31 cd31 ct31),sl31⟩) (c31:Xu K cd31 "island_of"=true) (k31:Xr K (.ref f31)=true)
  (a32:Xi K Xf "ferry_of"=some (some (.ref f32))) (l32:K.lookup f32=some ⟨oc32,od32,.func (X9 "ferry_of" "ferry_of" (Xb ZN) (X5 ZN) (X2 ZN) .none kV32 dc32 pm32 an32 cd32 ct32),sl32⟩) (c32:Xu K cd32 "ferry_of"=true) (k32:Xr K (.ref f32)=true)
  (a33:Xi K Xf "first_stand"=some (some (.ref f33))) (l33:K.lookup f33=some ⟨oc33,od33,.func (X9 "first_stand" "first_stand" (Xb ZO) (X5 ZO) (X2 ZO) .none kV33 dc33 pm33 an33 cd33 ct33),sl33⟩) (c33:Xu K cd33 "first_stand"=true) (k33:Xr K (.ref f33)=true)
  (a34:Xi K Xf "copy_of"=some (some (.ref f34))) (l34:K.lookup f34=some ⟨oc34,od34,.func (X9 "copy_of" "copy_of" (Xb ZP) (X5 ZP) (X2 ZP) .none kV34 dc34 pm34 an34 cd34 ct34),sl34⟩) (c34:Xu K cd34 "copy_of"=true) (k34:Xr K (.ref f34)=true)
  (a35:Xi K Xf "wish_of"=some (some (.ref f35))) (l35:K.lookup f35=some ⟨oc35,od35,.func (X9 "wish_of" "wish_of" (Xb ZQ) (X5 ZQ) (X2 ZQ) .none kV35 dc35 pm35 an35 cd35 ct35),sl35⟩) (c35:Xu K cd35 "wish_of"=true) (k35:Xr K (.ref f35)=true)
  (a36:Xi K Xf "can_be"=some (some (.ref f36))) (l36:K.lookup f36=some ⟨oc36,od36,.func (X9 "can_be" "can_be" (Xb ZR) (X5 ZR) (X2 ZR) .none kV36 dc36 pm36 an36 cd36 ct36),sl36⟩) (c36:Xu K cd36 "can_be"=true) (k36:Xr K (.ref f36)=true)
  (a37:Xi K Xf "do_step"=some (some (.ref f37))) (l37:K.lookup f37=some ⟨oc37,od37,.func (X9 "do_step" "do_step" (Xb ZS) (X5 ZS) (X2 ZS) .none kV37 dc37 pm37 an37 cd37 ct37),sl37⟩) (c37:Xu K cd37 "do_step"=true) (k37:Xr K (.ref f37)=true)
  (a38:Xi K Xf "round_of"=some (some (.ref f38))) (l38:K.lookup f38=some ⟨oc38,od38,.func (X9 "round_of" "round_of" (Xb ZT) (X5 ZT) (X2 ZT) .none kV38 dc38 pm38 an38 cd38 ct38),sl38⟩) (c38:Xu K cd38 "round_of"=true) (k38:Xr K (.ref f38)=true)
  (a39:Xi K Xf "stretches"=some (some (.ref f39))) (l39:K.lookup f39=some ⟨oc39,od39,.func (X9 "stretches" "stretches" (Xb ZU) (X5 ZU) (X2 ZU) .none kV39 dc39 pm39 an39 cd39 ct39),sl39⟩) (c39:Xu K cd39 "stretches"=true) (k39:Xr K (.ref f39)=true)
  (a40:Xi K Xf "track"=some (some (.ref f40))) (l40:K.lookup f40=some ⟨oc40,od40,.func (X9 "track" "track" (Xb ZV) (X5 ZV) (X2 ZV) .none kV40 dc40 pm40 an40 cd40 ct40),sl40⟩) (c40:Xu K cd40 "track"=true) (k40:Xr K (.ref f40)=true)
  (a41:Xi K Xf "steps_behind"=some (some (.ref f41))) (l41:K.lookup f41=some ⟨oc41,od41,.func (X9 "steps_behind" "steps_behind" (Xb ZW) (X5 ZW) (X2 ZW) .none kV41 dc41 pm41 an41 cd41 ct41),sl41⟩) (c41:Xu K cd41 "steps_behind"=true) (k41:Xr K (.ref f41)=true)
  (a42:Xi K Xf "stretches_a_round"=some (some (.ref f42))) (l42:K.lookup f42=some ⟨oc42,od42,.func (X9 "stretches_a_round" "stretches_a_round" (Xb ZX) (X5 ZX) (X2 ZX) .none kV42 dc42 pm42 an42 cd42 ct42),sl42⟩) (c42:Xu K cd42 "stretches_a_round"=true) (k42:Xr K (.ref f42)=true)
  (a43:Xi K Xf "bounds"=some (some (.ref f43))) (l43:K.lookup f43=some ⟨oc43,od43,.func (X9 "bounds" "bounds" (Xb ZY) (X5 ZY) (X2 ZY) .none kV43 dc43 pm43 an43 cd43 ct43),sl43⟩) (c43:Xu K cd43 "bounds"=true) (k43:Xr K (.ref f43)=true)
  (a44:Xi K Xf "_law_cell_at"=some (some (.ref f44))) (l44:K.lookup f44=some ⟨oc44,od44,.func (X9 "_law_cell_at" "_law_cell_at" (Xb ZZ) (X5 ZZ) (X2 ZZ) .none kV44 dc44 pm44 an44 cd44 ct44),sl44⟩) (c44:Xu K cd44 "_law_cell_at"=true) (k44:Xr K (.ref f44)=true)
  (a45:Xi K Xf "_law_whole"=some (some (.ref f45))) (l45:K.lookup f45=some ⟨oc45,od45,.func (X9 "_law_whole" "_law_whole" (Xb U0) (X5 U0) (X2 U0) .none kV45 dc45 pm45 an45 cd45 ct45),sl45⟩) (c45:Xu K cd45 "_law_whole"=true) (k45:Xr K (.ref f45)=true)
  (a46:Xi K Xf "_law_name"=some (some (.ref f46))) (l46:K.lookup f46=some ⟨oc46,od46,.func (X9 "_law_name" "_law_name" (Xb U1) (X5 U1) (X2 U1) .none kV46 dc46 pm46 an46 cd46 ct46),sl46⟩) (c46:Xu K cd46 "_law_name"=true) (k46:Xr K (.ref f46)=true)
  (a47:Xi K Xf "_law_term"=some (some (.ref f47))) (l47:K.lookup f47=some ⟨oc47,od47,.func (X9 "_law_term" "_law_term" (Xb U2) (X5 U2) (X2 U2) .none kV47 dc47 pm47 an47 cd47 ct47),sl47⟩) (c47:Xu K cd47 "_law_term"=true) (k47:Xr K (.ref f47)=true)
  (a48:Xi K Xf "_law_step"=some (some (.ref f48))) (l48:K.lookup f48=some ⟨oc48,od48,.func (X9 "_law_step" "_law_step" (Xb U3) (X5 U3) (X2 U3) .none kV48 dc48 pm48 an48 cd48 ct48),sl48⟩) (c48:Xu K cd48 "_law_step"=true) (k48:Xr K (.ref f48)=true)
  (a49:Xi K Xf "_law_island"=some (some (.ref f49))) (l49:K.lookup f49=some ⟨oc49,od49,.func (X9 "_law_island" "_law_island" (Xb U4) (X5 U4) (X2 U4) .none kV49 dc49 pm49 an49 cd49 ct49),sl49⟩) (c49:Xu K cd49 "_law_island"=true) (k49:Xr K (.ref f49)=true)
  (a50:Xi K Xf "_law_things"=some (some (.ref f50))) (l50:K.lookup f50=some ⟨oc50,od50,.func (X9 "_law_things" "_law_things" (Xb U5) (X5 U5) (X2 U5) .none kV50 dc50 pm50 an50 cd50 ct50),sl50⟩) (c50:Xu K cd50 "_law_things"=true) (k50:Xr K (.ref f50)=true)
  (a51:Xi K Xf "_law_rings"=some (some (.ref f51))) (l51:K.lookup f51=some ⟨oc51,od51,.func (X9 "_law_rings" "_law_rings" (Xb U6) (X5 U6) (X2 U6) .none kV51 dc51 pm51 an51 cd51 ct51),sl51⟩) (c51:Xu K cd51 "_law_rings"=true) (k51:Xr K (.ref f51)=true)
  (a52:Xi K Xf "_law_steps"=some (some (.ref f52))) (l52:K.lookup f52=some ⟨oc52,od52,.func (X9 "_law_steps" "_law_steps" (Xb U7) (X5 U7) (X2 U7) .none kV52 dc52 pm52 an52 cd52 ct52),sl52⟩) (c52:Xu K cd52 "_law_steps"=true) (k52:Xr K (.ref f52)=true)
  (a53:Xi K Xf "_law_are"=some (some (.ref f53))) (l53:K.lookup f53=some ⟨oc53,od53,.func (X9 "_law_are" "_law_are" (Xb U8) (X5 U8) (X2 U8) .none kV53 dc53 pm53 an53 cd53 ct53),sl53⟩) (c53:Xu K cd53 "_law_are"=true) (k53:Xr K (.ref f53)=true)
  (a54:Xi K Xf "law"=some (some (.ref f54))) (l54:K.lookup f54=some ⟨oc54,od54,.func (X9 "law" "law" (Xb YT) (X5 YT) (X2 YT) .none kV54 dc54 pm54 an54 cd54 ct54),sl54⟩) (c54:Xu K cd54 "law"=true) (k54:Xr K (.ref f54)=true)
  (z1:Xi K Xf "all"=some none)
  (z2:Xi K Xf "bool"=some none)
  (z3:Xi K Xf "dict"=some none)
  (z4:Xi K Xf "int"=some none)
  (z5:Xi K Xf "isinstance"=some none)
  (z6:Xi K Xf "len"=some none)
  (z7:Xi K Xf "list"=some none)
  (z8:Xi K Xf "max"=some none)
  (z9:Xi K Xf "min"=some none)
  (z10:Xi K Xf "range"=some none)
  (z11:Xi K Xf "set"=some none)
  (z12:Xi K Xf "sorted"=some none)
  (z13:Xi K Xf "tuple"=some none)
  (g1:Xi K Xf "MOST_WIDTH"=some (some (.int 64 tk1)))
  (g2:Xi K Xf "MOST_LETTERS"=some (some (.int 8 tk2)))
  (g3:Xi K Xf "MOST_ISLANDS"=some (some (.int 5 tk3)))
  (g4:Xi K Xf "MOST_FERRIES"=some (some (.int 6 tk4)))
  (g5:Xi K Xf "MOST_VARS"=some (some (.int 6 tk5)))
  (g6:Xi K Xf "MOST_STEPS"=some (some (.int 12 tk6)))
  (g7:Xi K Xf "MOST_PARTS"=some (some (.int 30 tk7)))
  (g8:Xi K Xf "MOST_DEPTH"=some (some (.int 8 tk8)))
  (g9:Xi K Xf "MOST_K"=some (some (.int 3 tk9)))
  (g10:Xi K Xf "MOST_STAGES"=some (some (.int 3 tk10))):
  ∃fd:Xm,(∀(s:X1) (v:X0),BindsTo s fd ⟨[v],[]⟩ [("script",v)])/\∀base:Heap,K.In base->base.Ns Xf mg->FnOk l.prog w K mg base CX0 60 fa fd ["script"] (BW K):=by
 have e:=hfa.symm.trans (Xo X G a54);cases e;have T:Txt K mg ⟨f1,X9 "is_whole" "is_whole" (Xb Zi) (X5 Zi) (X2 Zi) .none kV1 dc1 pm1 an1 cd1 ct1,f2,X9 "is_width" "is_width" (Xb Zj) (X5 Zj) (X2 Zj) .none kV2 dc2 pm2 an2 cd2 ct2,f3,X9 "two_to" "two_to" (Xb Zk) (X5 Zk) (X2 Zk) .none kV3 dc3 pm3 an3 cd3 ct3,f4,X9 "fits" "fits" (Xb Zl) (X5 Zl) (X2 Zl) .none kV4 dc4 pm4 an4 cd4 ct4,f5,X9 "cut" "cut" (Xb Zm) (X5 Zm) (X2 Zm) .none kV5 dc5 pm5 an5 cd5 ct5,f6,X9 "parts_within" "parts_within" (Xb Zn) (X5 Zn) (X2 Zn) .none kV6 dc6 pm6 an6 cd6 ct6,f7,X9 "size_of" "size_of" (Xb Zo) (X5 Zo) (X2 Zo) .none kV7 dc7 pm7 an7 cd7 ct7,f8,X9 "names_read" "names_read" (Xb Zp) (X5 Zp) (X2 Zp) .none kV8 dc8 pm8 an8 cd8 ct8,f9,X9 "vars_in" "vars_in" (Xb Zq) (X5 Zq) (X2 Zq) .none kV9 dc9 pm9 an9 cd9 ct9,f10,X9 "worth_of_two" "worth_of_two" (Xb Zr) (X5 Zr) (X2 Zr) .none kV10 dc10 pm10 an10 cd10 ct10,f11,X9 "worth" "worth" (Xb Zs) (X5 Zs) (X2 Zs) .none kV11 dc11 pm11 an11 cd11 ct11,f12,X9 "wish" "wish" (Xb Zt) (X5 Zt) (X2 Zt) .none kV12 dc12 pm12 an12 cd12 ct12,f13,X9 "number_after" "number_after" (Xb Zu) (X5 Zu) (X2 Zu) .none kV13 dc13 pm13 an13 cd13 ct13,f14,X9 "words_after" "words_after" (Xb Zv) (X5 Zv) (X2 Zv) .none kV14 dc14 pm14 an14 cd14 ct14,f15,X9 "after" "after" (Xb Zw) (X5 Zw) (X2 Zw) .none kV15 dc15 pm15 an15 cd15 ct15,f16,X9 "is_name" "is_name" (Xb Zx) (X5 Zx) (X2 Zx) .none kV16 dc16 pm16 an16 cd16 ct16,f17,X9 "refuse_name" "refuse_name" (Xb Zy) (X5 Zy) (X2 Zy) .none kV17 dc17 pm17 an17 cd17 ct17,f18,X9 "refuse_unknown" "refuse_unknown" (Xb Zz) (X5 Zz) (X2 Zz) .none kV18 dc18 pm18 an18 cd18 ct18,f19,X9 "refuse_ferry_names" "refuse_ferry_names" (Xb ZA) (X5 ZA) (X2 ZA) .none kV19 dc19 pm19 an19 cd19 ct19,f20,X9 "refuse_variables" "refuse_variables" (Xb ZB) (X5 ZB) (X2 ZB) .none kV20 dc20 pm20 an20 cd20 ct20,f21,X9 "refuse_term" "refuse_term" (Xb ZC) (X5 ZC) (X2 ZC) .none kV21 dc21 pm21 an21 cd21 ct21,f22,X9 "refuse_step" "refuse_step" (Xb ZD) (X5 ZD) (X2 ZD) .none kV22 dc22 pm22 an22 cd22 ct22,f23,X9 "refuse_island" "refuse_island" (Xb ZE) (X5 ZE) (X2 ZE) .none kV23 dc23 pm23 an23 cd23 ct23,f24,X9 "refuse_islands" "refuse_islands" (Xb ZF) (X5 ZF) (X2 ZF) .none kV24 dc24 pm24 an24 cd24 ct24,f25,X9 "refuse_ferry" "refuse_ferry" (Xb ZG) (X5 ZG) (X2 ZG) .none kV25 dc25 pm25 an25 cd25 ct25,f26,X9 "refuse_wrong_end" "refuse_wrong_end" (Xb ZH) (X5 ZH) (X2 ZH) .none kV26 dc26 pm26 an26 cd26 ct26,f27,X9 "refuse_wrong_ends" "refuse_wrong_ends" (Xb ZI) (X5 ZI) (X2 ZI) .none kV27 dc27 pm27 an27 cd27 ct27,f28,X9 "frozen" "frozen" (Xb ZJ) (X5 ZJ) (X2 ZJ) .none kV28 dc28 pm28 an28 cd28 ct28,f29,X9 "made" "made" (Xb ZK) (X5 ZK) (X2 ZK) .none kV29 dc29 pm29 an29 cd29 ct29,f30,X9 "one_called" "one_called" (Xb ZL) (X5 ZL) (X2 ZL) .none kV30 dc30 pm30 an30 cd30 ct30,f31,X9 "island_of" "island_of" (Xb ZM) (X5 ZM) (X2 ZM) .none kV31 dc31 pm31 an31 cd31 ct31,f32,X9 "ferry_of" "ferry_of" (Xb ZN) (X5 ZN) (X2 ZN) .none kV32 dc32 pm32 an32 cd32 ct32,f33,X9 "first_stand" "first_stand" (Xb ZO) (X5 ZO) (X2 ZO) .none kV33 dc33 pm33 an33 cd33 ct33,f34,X9 "copy_of" "copy_of" (Xb ZP) (X5 ZP) (X2 ZP) .none kV34 dc34 pm34 an34 cd34 ct34,f35,X9 "wish_of" "wish_of" (Xb ZQ) (X5 ZQ) (X2 ZQ) .none kV35 dc35 pm35 an35 cd35 ct35,f36,X9 "can_be" "can_be" (Xb ZR) (X5 ZR) (X2 ZR) .none kV36 dc36 pm36 an36 cd36 ct36,f37,X9 "do_step" "do_step" (Xb ZS) (X5 ZS) (X2 ZS) .none kV37 dc37 pm37 an37 cd37 ct37,f38,X9 "round_of" "round_of" (Xb ZT) (X5 ZT) (X2 ZT) .none kV38 dc38 pm38 an38 cd38 ct38,f39,X9 "stretches" "stretches" (Xb ZU) (X5 ZU) (X2 ZU) .none kV39 dc39 pm39 an39 cd39 ct39,f40,X9 "track" "track" (Xb ZV) (X5 ZV) (X2 ZV) .none kV40 dc40 pm40 an40 cd40 ct40,f41,X9 "steps_behind" "steps_behind" (Xb ZW) (X5 ZW) (X2 ZW) .none kV41 dc41 pm41 an41 cd41 ct41,f42,X9 "stretches_a_round" "stretches_a_round" (Xb ZX) (X5 ZX) (X2 ZX) .none kV42 dc42 pm42 an42 cd42 ct42,f43,X9 "bounds" "bounds" (Xb ZY) (X5 ZY) (X2 ZY) .none kV43 dc43 pm43 an43 cd43 ct43,f44,X9 "_law_cell_at" "_law_cell_at" (Xb ZZ) (X5 ZZ) (X2 ZZ) .none kV44 dc44 pm44 an44 cd44 ct44,f45,X9 "_law_whole" "_law_whole" (Xb U0) (X5 U0) (X2 U0) .none kV45 dc45 pm45 an45 cd45 ct45,f46,X9 "_law_name" "_law_name" (Xb U1) (X5 U1) (X2 U1) .none kV46 dc46 pm46 an46 cd46 ct46,f47,X9 "_law_term" "_law_term" (Xb U2) (X5 U2) (X2 U2) .none kV47 dc47 pm47 an47 cd47 ct47,f48,X9 "_law_step" "_law_step" (Xb U3) (X5 U3) (X2 U3) .none kV48 dc48 pm48 an48 cd48 ct48,f49,X9 "_law_island" "_law_island" (Xb U4) (X5 U4) (X2 U4) .none kV49 dc49 pm49 an49 cd49 ct49,f50,X9 "_law_things" "_law_things" (Xb U5) (X5 U5) (X2 U5) .none kV50 dc50 pm50 an50 cd50 ct50,f51,X9 "_law_rings" "_law_rings" (Xb U6) (X5 U6) (X2 U6) .none kV51 dc51 pm51 an51 cd51 ct51,f52,X9 "_law_steps" "_law_steps" (Xb U7) (X5 U7) (X2 U7) .none kV52 dc52 pm52 an52 cd52 ct52,f53,X9 "_law_are" "_law_are" (Xb U8) (X5 U8) (X2 U8) .none kV53 dc53 pm53 an53 cd53 ct53,fa,X9 "law" "law" (Xb YT) (X5 YT) (X2 YT) .none kV54 dc54 pm54 an54 cd54 ct54⟩:={
  F_is_whole:=Xe (st:=Zi) l1 c1 k1
  b_is_whole:=(Xe (st:=Zi) l1 c1 k1).binds (ps:=["value"]) fun _ _ _ _ _ _=>us1 (fun _=>rfl)
  m_is_whole:=Xo X G a1
  F_is_width:=Xe (st:=Zj) l2 c2 k2
  b_is_width:=(Xe (st:=Zj) l2 c2 k2).binds (ps:=["number"]) fun _ _ _ _ _ _=>us1 (fun _=>rfl)
  m_is_width:=Xo X G a2
  F_two_to:=Xe (st:=Zk) l3 c3 k3
  b_two_to:=(Xe (st:=Zk) l3 c3 k3).binds (ps:=["exponent"]) fun _ _ _ _ _ _=>us1 (fun _=>rfl)
  m_two_to:=Xo X G a3
  F_fits:=Xe (st:=Zl) l4 c4 k4
  b_fits:=(Xe (st:=Zl) l4 c4 k4).binds (ps:=["width","number"]) fun _ _ _ _ _ _=>us2 (fun _ _=>rfl)
  m_fits:=Xo X G a4
  F_cut:=Xe (st:=Zm) l5 c5 k5
  b_cut:=(Xe (st:=Zm) l5 c5 k5).binds (ps:=["width","number"]) fun _ _ _ _ _ _=>us2 (fun _ _=>rfl)
  m_cut:=Xo X G a5
  F_parts_within:=Xe (st:=Zn) l6 c6 k6
  b_parts_within:=(Xe (st:=Zn) l6 c6 k6).binds (ps:=["T"]) fun _ _ _ _ _ _=>us1 (fun _=>rfl)
  m_parts_within:=Xo X G a6
  F_size_of:=Xe (st:=Zo) l7 c7 k7
  b_size_of:=(Xe (st:=Zo) l7 c7 k7).binds (ps:=["T"]) fun _ _ _ _ _ _=>us1 (fun _=>rfl)
  m_size_of:=Xo X G a7
  F_names_read:=Xe (st:=Zp) l8 c8 k8
  b_names_read:=(Xe (st:=Zp) l8 c8 k8).binds (ps:=["T"]) fun _ _ _ _ _ _=>us1 (fun _=>rfl)
  m_names_read:=Xo X G a8
  F_vars_in:=Xe (st:=Zq) l9 c9 k9
  b_vars_in:=(Xe (st:=Zq) l9 c9 k9).binds (ps:=["T"]) fun _ _ _ _ _ _=>us1 (fun _=>rfl)
  m_vars_in:=Xo X G a9
  F_worth_of_two:=Xe (st:=Zr) l10 c10 k10
  b_worth_of_two:=(Xe (st:=Zr) l10 c10 k10).binds (ps:=["form","left","right","width"]) fun _ _ _ _ _ _=>us4 (fun _ _ _ _=>rfl)
  m_worth_of_two:=Xo X G a10
  F_worth:=Xe (st:=Zs) l11 c11 k11
  b_worth:=(Xe (st:=Zs) l11 c11 k11).binds (ps:=["T","width","words"]) fun _ _ _ _ _ _=>us3 (fun _ _ _=>rfl)
  m_worth:=Xo X G a11
  F_wish:=Xe (st:=Zt) l12 c12 k12
  b_wish:=(Xe (st:=Zt) l12 c12 k12).binds (ps:=["width","steps","number","words"]) fun _ _ _ _ _ _=>us4 (fun _ _ _ _=>rfl)
  m_wish:=Xo X G a12
  F_number_after:=Xe (st:=Zu) l13 c13 k13
  b_number_after:=(Xe (st:=Zu) l13 c13 k13).binds (ps:=["width","steps","number","words"]) fun _ _ _ _ _ _=>us4 (fun _ _ _ _=>rfl)
  m_number_after:=Xo X G a13
  F_words_after:=Xe (st:=Zv) l14 c14 k14
  b_words_after:=(Xe (st:=Zv) l14 c14 k14).binds (ps:=["width","step","words","word"]) fun _ _ _ _ _ _=>us4 (fun _ _ _ _=>rfl)
  m_words_after:=Xo X G a14
  F_after:=Xe (st:=Zw) l15 c15 k15
  b_after:=(Xe (st:=Zw) l15 c15 k15).binds (ps:=["width","steps","number","words","word"]) fun _ _ _ _ _ _=>us5 (fun _ _ _ _ _=>rfl)
  m_after:=Xo X G a15
  F_is_name:=Xe (st:=Zx) l16 c16 k16
  b_is_name:=(Xe (st:=Zx) l16 c16 k16).binds (ps:=["text"]) fun _ _ _ _ _ _=>us1 (fun _=>rfl)
  m_is_name:=Xo X G a16
  F_refuse_name:=Xe (st:=Zy) l17 c17 k17
  b_refuse_name:=(Xe (st:=Zy) l17 c17 k17).binds (ps:=["text","earlier"]) fun _ _ _ _ _ _=>us2 (fun _ _=>rfl)
  m_refuse_name:=Xo X G a17
  F_refuse_unknown:=Xe (st:=Zz) l18 c18 k18
  b_refuse_unknown:=(Xe (st:=Zz) l18 c18 k18).binds (ps:=["name","known"]) fun _ _ _ _ _ _=>us2 (fun _ _=>rfl)
  m_refuse_unknown:=Xo X G a18
  F_refuse_ferry_names:=Xe (st:=ZA) l19 c19 k19
  b_refuse_ferry_names:=(Xe (st:=ZA) l19 c19 k19).binds (ps:=["ferries"]) fun _ _ _ _ _ _=>us1 (fun _=>rfl)
  m_refuse_ferry_names:=Xo X G a19
  F_refuse_variables:=Xe (st:=ZB) l20 c20 k20
  b_refuse_variables:=(Xe (st:=ZB) l20 c20 k20).binds (ps:=["width","pairs"]) fun _ _ _ _ _ _=>us2 (fun _ _=>rfl)
  m_refuse_variables:=Xo X G a20
  F_refuse_term:=Xe (st:=ZC) l21 c21 k21
  b_refuse_term:=(Xe (st:=ZC) l21 c21 k21).binds (ps:=["T","known"]) fun _ _ _ _ _ _=>us2 (fun _ _=>rfl)
  m_refuse_term:=Xo X G a21
  F_refuse_step:=Xe (st:=ZD) l22 c22 k22
  b_refuse_step:=(Xe (st:=ZD) l22 c22 k22).binds (ps:=["step","known","count","ferry_names"]) fun _ _ _ _ _ _=>us4 (fun _ _ _ _=>rfl)
  m_refuse_step:=Xo X G a22
  F_refuse_island:=Xe (st:=ZE) l23 c23 k23
  b_refuse_island:=(Xe (st:=ZE) l23 c23 k23).binds (ps:=["width","island","ferry_names"]) fun _ _ _ _ _ _=>us3 (fun _ _ _=>rfl)
  m_refuse_island:=Xo X G a23
  F_refuse_islands:=Xe (st:=ZF) l24 c24 k24
  b_refuse_islands:=(Xe (st:=ZF) l24 c24 k24).binds (ps:=["width","islands","ferry_names"]) fun _ _ _ _ _ _=>us3 (fun _ _ _=>rfl)
  m_refuse_islands:=Xo X G a24
  F_refuse_ferry:=Xe (st:=ZG) l25 c25 k25
  b_refuse_ferry:=(Xe (st:=ZG) l25 c25 k25).binds (ps:=["ferry","island_names"]) fun _ _ _ _ _ _=>us2 (fun _ _=>rfl)
  m_refuse_ferry:=Xo X G a25
  F_refuse_wrong_end:=Xe (st:=ZH) l26 c26 k26
  b_refuse_wrong_end:=(Xe (st:=ZH) l26 c26 k26).binds (ps:=["name","step","givers","takers"]) fun _ _ _ _ _ _=>us4 (fun _ _ _ _=>rfl)
  m_refuse_wrong_end:=Xo X G a26
  F_refuse_wrong_ends:=Xe (st:=ZI) l27 c27 k27
  b_refuse_wrong_ends:=(Xe (st:=ZI) l27 c27 k27).binds (ps:=["islands","ferries"]) fun _ _ _ _ _ _=>us2 (fun _ _=>rfl)
  m_refuse_wrong_ends:=Xo X G a27
  F_frozen:=Xe (st:=ZJ) l28 c28 k28
  b_frozen:=(Xe (st:=ZJ) l28 c28 k28).binds (ps:=["value"]) fun _ _ _ _ _ _=>us1 (fun _=>rfl)
  m_frozen:=Xo X G a28
  F_made:=Xe (st:=ZK) l29 c29 k29
  b_made:=(Xe (st:=ZK) l29 c29 k29).binds (ps:=["width","islands","ferries"]) fun _ _ _ _ _ _=>us3 (fun _ _ _=>rfl)
  m_made:=Xo X G a29
  F_one_called:=Xe (st:=ZL) l30 c30 k30
  b_one_called:=(Xe (st:=ZL) l30 c30 k30).binds (ps:=["row","name"]) fun _ _ _ _ _ _=>us2 (fun _ _=>rfl)
  m_one_called:=Xo X G a30
  F_island_of:=Xe (st:=ZM) l31 c31 k31
  b_island_of:=(Xe (st:=ZM) l31 c31 k31).binds (ps:=["world","name"]) fun _ _ _ _ _ _=>us2 (fun _ _=>rfl)
  m_island_of:=Xo X G a31
  F_ferry_of:=Xe (st:=ZN) l32 c32 k32
  b_ferry_of:=(Xe (st:=ZN) l32 c32 k32).binds (ps:=["world","name"]) fun _ _ _ _ _ _=>us2 (fun _ _=>rfl)
  m_ferry_of:=Xo X G a32
  F_first_stand:=Xe (st:=ZO) l33 c33 k33
  b_first_stand:=(Xe (st:=ZO) l33 c33 k33).binds (ps:=["world"]) fun _ _ _ _ _ _=>us1 (fun _=>rfl)
  m_first_stand:=Xo X G a33
  F_copy_of:=Xe (st:=ZP) l34 c34 k34
  b_copy_of:=(Xe (st:=ZP) l34 c34 k34).binds (ps:=["stand"]) fun _ _ _ _ _ _=>us1 (fun _=>rfl)
  m_copy_of:=Xo X G a34
  F_wish_of:=Xe (st:=ZQ) l35 c35 k35
  b_wish_of:=(Xe (st:=ZQ) l35 c35 k35).binds (ps:=["world","stand","name"]) fun _ _ _ _ _ _=>us3 (fun _ _ _=>rfl)
  m_wish_of:=Xo X G a35
  F_can_be:=Xe (st:=ZR) l36 c36 k36
  b_can_be:=(Xe (st:=ZR) l36 c36 k36).binds (ps:=["world","stand","asked"]) fun _ _ _ _ _ _=>us3 (fun _ _ _=>rfl)
  m_can_be:=Xo X G a36
  F_do_step:=Xe (st:=ZS) l37 c37 k37
  b_do_step:=(Xe (st:=ZS) l37 c37 k37).binds (ps:=["world","stand","name","asked","behind"]) fun _ _ _ _ _ _=>us5 (fun _ _ _ _ _=>rfl)
  m_do_step:=Xo X G a37
  F_round_of:=Xe (st:=ZT) l38 c38 k38
  b_round_of:=(Xe (st:=ZT) l38 c38 k38).binds (ps:=["world","stand"]) fun _ _ _ _ _ _=>us2 (fun _ _=>rfl)
  m_round_of:=Xo X G a38
  F_stretches:=Xe (st:=ZU) l39 c39 k39
  b_stretches:=(Xe (st:=ZU) l39 c39 k39).binds (ps:=["world","names"]) fun _ _ _ _ _ _=>us2 (fun _ _=>rfl)
  m_stretches:=Xo X G a39
  F_track:=Xe (st:=ZV) l40 c40 k40
  b_track:=(Xe (st:=ZV) l40 c40 k40).binds (ps:=["world","n"]) fun _ _ _ _ _ _=>us2 (fun _ _=>rfl)
  m_track:=Xo X G a40
  F_steps_behind:=Xe (st:=ZW) l41 c41 k41
  b_steps_behind:=(Xe (st:=ZW) l41 c41 k41).binds (ps:=["world","n"]) fun _ _ _ _ _ _=>us2 (fun _ _=>rfl)
  m_steps_behind:=Xo X G a41
  F_stretches_a_round:=Xe (st:=ZX) l42 c42 k42
  b_stretches_a_round:=(Xe (st:=ZX) l42 c42 k42).binds (ps:=["world"]) fun _ _ _ _ _ _=>us1 (fun _=>rfl)
  m_stretches_a_round:=Xo X G a42
  F_bounds:=Xe (st:=ZY) l43 c43 k43
  b_bounds:=(Xe (st:=ZY) l43 c43 k43).binds (ps:=["world","names"]) fun _ _ _ _ _ _=>us2 (fun _ _=>rfl)
  m_bounds:=Xo X G a43
  F__law_cell_at:=Xe (st:=ZZ) l44 c44 k44
  b__law_cell_at:=(Xe (st:=ZZ) l44 c44 k44).binds (ps:=["script","k"]) fun _ _ _ _ _ _=>us2 (fun _ _=>rfl)
  m__law_cell_at:=Xo X G a44
  F__law_whole:=Xe (st:=U0) l45 c45 k45
  b__law_whole:=(Xe (st:=U0) l45 c45 k45).binds (ps:=["found"]) fun _ _ _ _ _ _=>us1 (fun _=>rfl)
  m__law_whole:=Xo X G a45
  F__law_name:=Xe (st:=U1) l46 c46 k46
  b__law_name:=(Xe (st:=U1) l46 c46 k46).binds (ps:=["number","k"]) fun _ _ _ _ _ _=>us2 (fun _ _=>rfl)
  m__law_name:=Xo X G a46
  F__law_term:=Xe (st:=U2) l47 c47 k47
  b__law_term:=(Xe (st:=U2) l47 c47 k47).binds (ps:=["number","names"]) fun _ _ _ _ _ _=>us2 (fun _ _=>rfl)
  m__law_term:=Xo X G a47
  F__law_step:=Xe (st:=U3) l48 c48 k48
  b__law_step:=(Xe (st:=U3) l48 c48 k48).binds (ps:=["number","name","names","ferries","many"]) fun _ _ _ _ _ _=>us5 (fun _ _ _ _ _=>rfl)
  m__law_step:=Xo X G a48
  F__law_island:=Xe (st:=U4) l49 c49 k49
  b__law_island:=(Xe (st:=U4) l49 c49 k49).binds (ps:=["number","k","naming","ferries","around"]) fun _ _ _ _ _ _=>us5 (fun _ _ _ _ _=>rfl)
  m__law_island:=Xo X G a49
  F__law_things:=Xe (st:=U5) l50 c50 k50
  b__law_things:=(Xe (st:=U5) l50 c50 k50).binds (ps:=["script","around"]) fun _ _ _ _ _ _=>us2 (fun _ _=>rfl)
  m__law_things:=Xo X G a50
  F__law_rings:=Xe (st:=U6) l51 c51 k51
  b__law_rings:=(Xe (st:=U6) l51 c51 k51).binds (ps:=["cells","islands"]) fun _ _ _ _ _ _=>us2 (fun _ _=>rfl)
  m__law_rings:=Xo X G a51
  F__law_steps:=Xe (st:=U7) l52 c52 k52
  b__law_steps:=(Xe (st:=U7) l52 c52 k52).binds (ps:=["world","islands","rounds"]) fun _ _ _ _ _ _=>us3 (fun _ _ _=>rfl)
  m__law_steps:=Xo X G a52
  F__law_are:=Xe (st:=U8) l53 c53 k53
  b__law_are:=(Xe (st:=U8) l53 c53 k53).binds (ps:=["found","due"]) fun _ _ _ _ _ _=>us2 (fun _ _=>rfl)
  m__law_are:=Xo X G a53
  F_law:=Xe (st:=YT) l54 c54 k54
  b_law:=(Xe (st:=YT) l54 c54 k54).binds (ps:=["script"]) fun _ _ _ _ _ _=>us1 (fun _=>rfl)
  m_law:=Xo X G a54
  z_all:=Z7 X G z1
  z_bool:=Z7 X G z2
  z_dict:=Z7 X G z3
  z_int:=Z7 X G z4
  z_isinstance:=Z7 X G z5
  z_len:=Z7 X G z6
  z_list:=Z7 X G z7
  z_max:=Z7 X G z8
  z_min:=Z7 X G z9
  z_range:=Z7 X G z10
  z_set:=Z7 X G z11
  z_sorted:=Z7 X G z12
  z_tuple:=Z7 X G z13
  c_MOST_WIDTH:=⟨_,Xo X G g1⟩
  c_MOST_LETTERS:=⟨_,Xo X G g2⟩
  c_MOST_ISLANDS:=⟨_,Xo X G g3⟩
  c_MOST_FERRIES:=⟨_,Xo X G g4⟩
  c_MOST_VARS:=⟨_,Xo X G g5⟩
  c_MOST_STEPS:=⟨_,Xo X G g6⟩
  c_MOST_PARTS:=⟨_,Xo X G g7⟩
  c_MOST_DEPTH:=⟨_,Xo X G g8⟩
  c_MOST_K:=⟨_,Xo X G g9⟩
  c_MOST_STAGES:=⟨_,Xo X G g10⟩
 }
 exact⟨X9 "law" "law" (Xb YT) (X5 YT) (X2 YT) .none kV54 dc54 pm54 an54 cd54 ct54,fun s v=>.of_eq rfl,fun base _ _=>Zle (FnOk.mono (Znq T) (by decide))⟩
theorem walk{l:D4}{q:Xn}{loose:List Str}{XP:(Str->Option X0)->Heap->Prop}{YP:Xj->Heap->Prop}{d:DefRec}{K:Params->X6}(hn:l.most=some 63)(hdf:d.params.defaults=[])
  (hY:∀(w:Xj) (h:Heap),YP w h->(K w.params).In h)
  (F:∀(w:Xj) (mg:Str->Option X0) (fa:Addr) (h:Heap),(K w.params).In h->h.Ns Xf mg->mg d.name=some (.ref fa)->
   ∃fd:Xm,(∀(s:X1) (u:X0),BindsTo s fd ⟨[u],[]⟩ [("script",u)])/\∀base:Heap,(K w.params).In base->base.Ns Xf mg->FnOk l.prog w (K w.params) mg base CX0 60 fa fd ["script"] (BW (K w.params))):
  PySem.W.WalkO q loose XP YP l.row.toRowW d [] (λf vs=>PySem.call f vs):=
 L2.walk_of (n:=63) (k:=60) (x:="script") (CX:=fun _=>CX0) (sp:=fun w=>BW (K w.params)) hn (by decide) hdf ⟨rfl,by decide,by decide⟩ hY F (fun _ H a ns hl hO hS=>⟨a,ns,rfl,ZnX hO hS,hl,fun _=>rfl⟩) fun _ _ _ _ _ z=>z
end My
structure PySem.W.Fast:Prop where
 (tw6147419564412123581 tw16294341649578304716 tw13700452911596529796 tw3175750486171364046 tw10352816278731403554 tw1239944612995993304 tw16338301303001305522 tw10631330067873747162 tw756360831708189326 tw4146489638673924695 tw2446247784079141895 tw10886308522440771719 tw3094525753941794543 tw12869356779978841886 tw7547769255353214259 tw16990156126568806447 tw11820468361558709999 tw10199891406281587442 tw3364727942478954771 tw6777833596052774654 tw5845491198425469503 tw13372105345080965343 tw17756809219818016595 tw17765229178513066034 tw14481406458621670687 tw10399448151316037842 tw3622502696903918142 tw8040529654493310563 tw16345763182153573055 tw10172649920527682950 tw6421067167125869388 tw10318525319110051066 tw10874724038197453010 tw15921075138148479878 tw2596988822059446335 tw17314480991500861625 tw12260186328973338898 tw9382689837434585764 tw5197280889782369212 tw1168849933990595777 tw14884304516185289762 tw9619835334428762148 tw4727564292324161728 tw10873526091817932063 tw2921208224588539708 tw8042914823737483060 tw14912500487849613632 tw9288848874187927974 tw16434861933507178020 tw85992759423794997 tw772838619477887388 tw8121424868930314086 tw12093703182267674445 tw1035767720178439965 tw4925695363434181105 tw17929821030954485483 tw8742847117618516515 tw6910831433984266150 tw12226138820447102246 tw16531394029543277009 tw13556753984553276164 tw11332868506281978858 tw6383769417514787823 tw2564155860021925050 tw1009482822599917738 tw5176301624225488399 tw8504408403458386454 tw5028474511177278247 tw17643420018496943403 tw3985715160251041035 tw13201879560257525192 tw14511345550775276035 tw10232007269975016563 tw10596937683600277474 tw8106759304241255750 tw8185145374835292603 tw17772046101334735295 tw11936441843668019755 tw4345658291552045553 tw9117877978667149392 tw17268174513842353897 tw681367835287165355 tw5109612550761434363 tw14184394830600699230 tw15473480482441459264 tw15978066250353968685 tw6484639873279921456 tw3533293225053794979 tw7559562284603653701 tw16365503521944214099 tw1782558898938858513 tw5369034789738497260 tw5954942962307623367 tw11991837652128406844 tw2520369970076283671 tw18201821559587051211 tw11762749850279233751 tw344706589742196844 tw10528232940830526522 tw3478514414193293118 tw13744686053464477573 tw8892960248177031155 tw7203034297539390129 tw8833932034734968346 tw3580737521589950040 tw2881132916499528772 tw3966869467750932119 tw6304268733431743818 tw6255270072948083338 tw4185372101089752333 tw14621432993823117506 tw7900346041911033586 tw1465404097649903864 tw12160521979454004023 tw2477567433813497874 tw2646357728388765010 tw11994925552362156774 tw17822227686507818398 tw6642706013113841529 tw16241594810826286075 tw6817824313361057973 tw14494257559203781451 tw8493852492764088012 tw13717626288367712729 tw2283238786798824252 tw2215585040628476646 tw10391278180254332795 tw5896498243848542750 tw7304069073287661439 tw17175651704876361001 tw173825717326535014 tw18289367551805854099 tw9828443652794070725 tw7711359754261294290 tw3362995293489916197 tw12310687772146431521 tw6990114059066640620 tw15025401548576777228 tw10264273149666698882 tw14004671014862688194 tw11665461906217659933 tw7175128863065779757 tw16318930909376408905 tw8251407100387166081 tw852682604362276282 tw1073607658686624080 tw15112670043360595411 tw2689754437021941821 tw12130998100562689235 tw7137339065633381084 tw4476116627375658801 tw16855035060393042214 tw18367768123511116185 tw15100713486415507816 tw9618080958974045865 tw17747355089139442549 tw13436849273503397948 tw4562541045925016903 tw2822591870371580497 tw14090297582874396011 tw9639789475275822262 tw5388554465638159746 tw11014977930072632278 tw14249525998739807599 tw3764390044706404775 tw3696073529645334770 tw3134925422350638668 tw13959787343587348421 tw17838937703719854220 tw2516648593627654369 tw15348868410695997579 tw6053605485275248532 tw3041225939742679242 tw17750706331640009563 tw4645553561605348803 tw8671647765540504411 tw13683196590693497533 tw13876314680403205393 tw11895137545346230002 tw13748064626839445127 tw7307542215330245816 tw5638723620957424806 tw8688728970434131620 tw14243938894241799781 tw11832257932993188893 tw7717039538431792001 tw16025586041277254384 tw5229160968247597861 tw2218101241442785960 tw3825961996314234501 tw1919456786300065943 tw3217961748023453004 tw14907628214250545256 tw12876427709998604976 tw11170041114178486926 tw17474059680140397331 tw6000276466590227374 tw6180358529142019743 tw2535340923098239153 tw3662987373213925220 tw3973868923338381196 tw5289750365708815553 tw6712351714671662272 tw3003783952975252899 tw14184779628225565632 tw4930577090747758376 tw15467770866665569191 tw5646923502881387369 tw6893997210468294933 tw11173935549078411023 tw7402008542161256027 tw10691340152825168859 tw8742245374531788085 tw18412575847844701631 tw17820078463659508684 tw12017504919139610746 tw16628529042182884456 tw11083280308351057633 tw2195845808213208133 tw12707573995498562311 tw1286956679907150804 tw14080253816801513894 tw6301279219797972723 tw15816306554886397828 tw12373436950004766971 tw6464481363372493626 tw11056929309898120991 tw14686583272930929677 tw4479238241817956294 tw337149544448350007 tw16805323967928858702 tw1115917623078631540 tw10428045766830719841 tw8905976335258538252 tw13411723306028833312 tw174092484808918092 tw11822850264555602613 tw14955195991970230951 tw5551606559021497041 tw14163389574181851227 tw1421183873704183031 tw4822432027847961500 tw7526285348657831614 tw13106962266336632519 tw13391417988555240601 tw10518426607835650062 tw8973857424190436193 tw6750237957959782236 tw3184305499814079514 tw14489800397062829735 tw5014602366793463572 tw6023890949643187630 tw1300417354956794130 tw12920780946402902698 tw1208273688250802313 tw7214493070152102988 tw9574460623698434808 tw13232098247568991023 tw15407054559571870787 tw4456356543663417394 tw11161209312119234412 tw13794087126459859152 tw7404578871803406823 tw18311039942297495931 tw6404255672701817324 tw12174392139882072795 tw10726798439446267291 tw17200097699818419857 tw16216038504743296621 tw12782071955546424886 tw16945167407997418995 tw17280504752527911701 tw1658529608759162922 tw817679226411798603 tw13384529445954642649 tw9290990195681210931 tw16247321648841013948 tw4666400633218061215 tw6619985074173034113 tw10206175805115824490 tw13214935294344198577 tw7015216503626309404 tw5239561661792999093 tw15283556798457297902 tw599682998783525914 tw4794664965748966001 tw1637393059643708791 tw9591092002598768557 tw3238955146030885519 tw1979024574437156774 tw13555572151030201659 tw15063833769278231354 tw2885892899228074538 tw3344238193235792394 tw3738993113162332220 tw9509394339616715538 tw12624842163249614361 tw10016912189089278019 tw6705741673843254197 tw14132814846608546922 tw13519005641059723276 tw4439054060635401571 tw7832761984300628063 tw10102698660456120133 tw11691083100349800912 tw15861917763963481234 tw11612692001504636306 tw4813859015099434108 tw955602264602359569 tw7904027885662498832 tw5258410360848632752 tw15765830417576638727 tw3816624277219826197 tw6463127352827206241 tw13006658952915321213 tw1882577164469999250 tw17391255862092359865 tw1103860931549866744 tw8714107948012999008 tw13196649193873565041 tw3889804319565613452 tw12284678300120723447 tw5691786530517881763 tw1485336822457026913 tw3190918665140105424 tw8923326898612140081 tw7562355241401536909 tw6356214845789565640 tw14656377350010268227 tw10740410092238807959 tw3907062763233009523 tw6857547991816858874 tw5430833680058260559 tw14374079088533189836 tw3654422137134468402 tw7634035725184667942 tw5558635588897669968 tw2146655783092016423 tw8680799006875026624 tw12339024363865893211 tw15595336035129710292 tw7617170263338941063 tw10416463491023094859 tw15920531055535703887 tw16230006662316522294 tw17964106576576404922 tw3780633088161535878 tw3408018502707817029 tw12067482896833843826 tw9759115246088859507 tw18226443732972168041 tw3234126273167828362 tw9010213691451846966 tw6388699092632699598 tw10872555835297747568 tw15683115709765399068 tw1135976603254132580 tw17645998695168966501 tw12360797203403650194 tw13112282187762049994 tw13297726876628116866 tw13506052416866473120 tw13620288648919427816 tw8654399223071897191 tw308033778593572199 tw11136601318836696622 tw10709147178746159325 tw11047355415311687666 tw10843567854677650584 tw6482461600648497399 tw11988151608588557000 tw11554844964941568691 tw5484276057277644343 tw14374691724411632200 tw14459271881089557272 tw10141246728246961022 tw6877138754271416979 tw2900569117797327275 tw9806456170091775244 tw5796506263151546181 tw18394657141585752518 tw12941812247546200757 tw230684278711967160 tw12680684694921315495 tw17511147530397717439 tw17191879553902891443 tw15376039614404019556 tw1828809604284540439 tw18386891211459492275 tw482963460915035385 tw3316343884732240792 tw2492683809171114467 tw5284815041867354186 tw6280479570533585040 tw7833059859199515983 tw6009645996009903077 tw965423911636727591 tw15062497490287376403 tw9522036557290376073 tw8674081146247348856 tw10526582724718925133 tw5995957133172174445 tw3648237942594447669 tw6199017965694657475 tw8482263695373656794 tw9827361273274174604 tw13204816986442135954 tw17972489890515414231 tw2426567309417666870 tw17055511269131850999 tw15512939447965073381 tw5028153497696582494 tw12965411932553374955 tw4629745554117126384 tw16864088981728829355 tw1160933943914792048 tw6837963525158247619 tw2928566324222495281 tw11435194699967091354 tw10957206669836630356 tw10541342666848677887 tw15103474392317689078 tw9632835480227266019 tw1014324697438260936 tw17445251866662526765 tw5019722561230083017 tw4885299114510763751 tw3806966833157420789 tw5239439999123205372 tw15977151619828915099 tw16914031661375454260 tw4508083631124084828 tw41590766863343901 tw4004662883327971632 tw15549335229004773955 tw58154106023721798 tw938627166263008859 tw13372439787749597763 tw18167189565136997357 tw13755011774676361545 tw205641725438287545 tw6381268972970503435 tw7844676862975624135 tw17111029281992995849 tw11269198940002517634 tw8591409799038593115 tw11672704103761019040 tw17004221995007271042 tw4823722113819635045 tw18204645749380221946 tw5598399949357893437 tw2980625283443232561 tw9970513698114751410 tw771180284746343304:True)
open PySem PySem.W PyProof.Rows
set_option maxRecDepth 100000 in
set_option maxHeartbeats 0 in
theorem PySem.Challenge.cw_bellferry_k63_bounds_told_holds : PySem.Challenge.rw_bellferry_k63_bounds_told.Holds := by
 w_on;o_law;k_head;(case hw=>w_witness2)
 k_fill
 refine My.walk (l:=PySem.Challenge.rw_bellferry_k63_bounds_told) rfl rfl (λw h Y=>PySem.W.kIn_of Y) ?F
 case F=>
  intro w mg fa h KX G hmg;refine' My.all_mk KX G hmg ?a1 ?l1 ?c1 ?k1 ?a2 ?l2 ?c2 ?k2 ?a3 ?l3 ?c3 ?k3 ?a4 ?l4 ?c4 ?k4 ?a5 ?l5 ?c5 ?k5 ?a6 ?l6 ?c6 ?k6 ?a7 ?l7 ?c7 ?k7 ?a8 ?l8 ?c8 ?k8 ?a9 ?l9 ?c9 ?k9 ?a10 ?l10 ?c10 ?k10 ?a11 ?l11 ?c11 ?k11 ?a12 ?l12 ?c12 ?k12 ?a13 ?l13 ?c13 ?k13 ?a14 ?l14 ?c14 ?k14 ?a15 ?l15 ?c15 ?k15 ?a16 ?l16 ?c16 ?k16 ?a17 ?l17 ?c17 ?k17 ?a18 ?l18 ?c18 ?k18 ?a19 ?l19 ?c19 ?k19 ?a20 ?l20 ?c20 ?k20 ?a21 ?l21 ?c21 ?k21 ?a22 ?l22 ?c22 ?k22 ?a23 ?l23 ?c23 ?k23 ?a24 ?l24 ?c24 ?k24 ?a25 ?l25 ?c25 ?k25 ?a26 ?l26 ?c26 ?k26 ?a27 ?l27 ?c27 ?k27 ?a28 ?l28 ?c28 ?k28 ?a29 ?l29 ?c29 ?k29 ?a30 ?l30 ?c30 ?k30 ?a31 ?l31 ?c31 ?k31 ?a32 ?l32 ?c32 ?k32 ?a33 ?l33 ?c33 ?k33 ?a34 ?l34 ?c34 ?k34 ?a35 ?l35 ?c35 ?k35 ?a36 ?l36 ?c36 ?k36 ?a37 ?l37 ?c37 ?k37 ?a38 ?l38 ?c38 ?k38 ?a39 ?l39 ?c39 ?k39 ?a40 ?l40 ?c40 ?k40 ?a41 ?l41 ?c41 ?k41 ?a42 ?l42 ?c42 ?k42 ?a43 ?l43 ?c43 ?k43 ?a44 ?l44 ?c44 ?k44 ?a45 ?l45 ?c45 ?k45 ?a46 ?l46 ?c46 ?k46 ?a47 ?l47 ?c47 ?k47 ?a48 ?l48 ?c48 ?k48 ?a49 ?l49 ?c49 ?k49 ?a50 ?l50 ?c50 ?k50 ?a51 ?l51 ?c51 ?k51 ?a52 ?l52 ?c52 ?k52 ?a53 ?l53 ?c53 ?k53 ?a54 ?l54 ?c54 ?k54 ?z1 ?z2 ?z3 ?z4 ?z5 ?z6 ?z7 ?z8 ?z9 ?z10 ?z11 ?z12 ?z13 ?g1 ?g2 ?g3 ?g4 ?g5 ?g6 ?g7 ?g8 ?g9 ?g10
  (case a1=>k_is)
  (case l1=>k_is)
  (case c1=>k_is)
  (case k1=>k_is)
  (case a2=>k_is)
  (case l2=>k_is)
  (case c2=>k_is)
  (case k2=>k_is)
  (case a3=>k_is)
  (case l3=>k_is)
  (case c3=>k_is)
  (case k3=>k_is)
  (case a4=>k_is)
  (case l4=>k_is)
  (case c4=>k_is)
  (case k4=>k_is)
  (case a5=>k_is)
  (case l5=>k_is)
  (case c5=>k_is)
  (case k5=>k_is)
  (case a6=>k_is)
  (case l6=>k_is)
  (case c6=>k_is)
  (case k6=>k_is)
  (case a7=>k_is)
  (case l7=>k_is)
  (case c7=>k_is)
  (case k7=>k_is)
  (case a8=>k_is)
  (case l8=>k_is)
  (case c8=>k_is)
  (case k8=>k_is)
  (case a9=>k_is)
  (case l9=>k_is)
  (case c9=>k_is)
  (case k9=>k_is)
  (case a10=>k_is)
  (case l10=>k_is)
  (case c10=>k_is)
  (case k10=>k_is)
  (case a11=>k_is)
  (case l11=>k_is)
  (case c11=>k_is)
  (case k11=>k_is)
  (case a12=>k_is)
  (case l12=>k_is)
  (case c12=>k_is)
  (case k12=>k_is)
  (case a13=>k_is)
  (case l13=>k_is)
  (case c13=>k_is)
  (case k13=>k_is)
  (case a14=>k_is)
  (case l14=>k_is)
  (case c14=>k_is)
  (case k14=>k_is)
  (case a15=>k_is)
  (case l15=>k_is)
  (case c15=>k_is)
  (case k15=>k_is)
  (case a16=>k_is)
  (case l16=>k_is)
  (case c16=>k_is)
  (case k16=>k_is)
  (case a17=>k_is)
  (case l17=>k_is)
  (case c17=>k_is)
  (case k17=>k_is)
  (case a18=>k_is)
  (case l18=>k_is)
  (case c18=>k_is)
  (case k18=>k_is)
  (case a19=>k_is)
  (case l19=>k_is)
  (case c19=>k_is)
  (case k19=>k_is)
  (case a20=>k_is)
  (case l20=>k_is)
  (case c20=>k_is)
  (case k20=>k_is)
  (case a21=>k_is)
  (case l21=>k_is)
  (case c21=>k_is)
  (case k21=>k_is)
  (case a22=>k_is)
  (case l22=>k_is)
  (case c22=>k_is)
  (case k22=>k_is)
  (case a23=>k_is)
  (case l23=>k_is)
  (case c23=>k_is)
  (case k23=>k_is)
  (case a24=>k_is)
  (case l24=>k_is)
  (case c24=>k_is)
  (case k24=>k_is)
  (case a25=>k_is)
  (case l25=>k_is)
  (case c25=>k_is)
  (case k25=>k_is)
  (case a26=>k_is)
  (case l26=>k_is)
  (case c26=>k_is)
  (case k26=>k_is)
  (case a27=>k_is)
  (case l27=>k_is)
  (case c27=>k_is)
  (case k27=>k_is)
  (case a28=>k_is)
  (case l28=>k_is)
  (case c28=>k_is)
  (case k28=>k_is)
  (case a29=>k_is)
  (case l29=>k_is)
  (case c29=>k_is)
  (case k29=>k_is)
  (case a30=>k_is)
  (case l30=>k_is)
  (case c30=>k_is)
  (case k30=>k_is)
  (case a31=>k_is)
  (case l31=>k_is)
  (case c31=>k_is)
  (case k31=>k_is)
  (case a32=>k_is)
  (case l32=>k_is)
  (case c32=>k_is)
  (case k32=>k_is)
  (case a33=>k_is)
  (case l33=>k_is)
  (case c33=>k_is)
  (case k33=>k_is)
  (case a34=>k_is)
  (case l34=>k_is)
  (case c34=>k_is)
  (case k34=>k_is)
  (case a35=>k_is)
  (case l35=>k_is)
  (case c35=>k_is)
  (case k35=>k_is)
  (case a36=>k_is)
  (case l36=>k_is)
  (case c36=>k_is)
  (case k36=>k_is)
  (case a37=>k_is)
  (case l37=>k_is)
  (case c37=>k_is)
  (case k37=>k_is)
  (case a38=>k_is)
  (case l38=>k_is)
  (case c38=>k_is)
  (case k38=>k_is)
  (case a39=>k_is)
  (case l39=>k_is)
  (case c39=>k_is)
  (case k39=>k_is)
  (case a40=>k_is)
  (case l40=>k_is)
  (case c40=>k_is)
  (case k40=>k_is)
  (case a41=>k_is)
  (case l41=>k_is)
  (case c41=>k_is)
  (case k41=>k_is)
  (case a42=>k_is)
  (case l42=>k_is)
  (case c42=>k_is)
  (case k42=>k_is)
  (case a43=>k_is)
  (case l43=>k_is)
  (case c43=>k_is)
  (case k43=>k_is)
  (case a44=>k_is)
  (case l44=>k_is)
  (case c44=>k_is)
  (case k44=>k_is)
  (case a45=>k_is)
  (case l45=>k_is)
  (case c45=>k_is)
  (case k45=>k_is)
  (case a46=>k_is)
  (case l46=>k_is)
  (case c46=>k_is)
  (case k46=>k_is)
  (case a47=>k_is)
  (case l47=>k_is)
  (case c47=>k_is)
  (case k47=>k_is)
  (case a48=>k_is)
  (case l48=>k_is)
  (case c48=>k_is)
  (case k48=>k_is)
  (case a49=>k_is)
  (case l49=>k_is)
  (case c49=>k_is)
  (case k49=>k_is)
  (case a50=>k_is)
  (case l50=>k_is)
  (case c50=>k_is)
  (case k50=>k_is)
  (case a51=>k_is)
  (case l51=>k_is)
  (case c51=>k_is)
  (case k51=>k_is)
  (case a52=>k_is)
  (case l52=>k_is)
  (case c52=>k_is)
  (case k52=>k_is)
  (case a53=>k_is)
  (case l53=>k_is)
  (case c53=>k_is)
  (case k53=>k_is)
  (case a54=>k_is)
  (case l54=>k_is)
  (case c54=>k_is)
  (case k54=>k_is)
  (case z1=>k_is)
  (case z2=>k_is)
  (case z3=>k_is)
  (case z4=>k_is)
  (case z5=>k_is)
  (case z6=>k_is)
  (case z7=>k_is)
  (case z8=>k_is)
  (case z9=>k_is)
  (case z10=>k_is)
  (case z11=>k_is)
  (case z12=>k_is)
  (case z13=>k_is)
  (case g1=>k_is)
  (case g2=>k_is)
  (case g3=>k_is)
  (case g4=>k_is)
  (case g5=>k_is)
  (case g6=>k_is)
  (case g7=>k_is)
  (case g8=>k_is)
  (case g9=>k_is)
  (case g10=>k_is)
#print axioms PySem.Challenge.cw_bellferry_k63_bounds_told_holds
