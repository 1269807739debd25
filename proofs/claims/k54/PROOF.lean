import PyProof.Rows.All
import Wide.All
import OpenK.AllK
import Wide.FinOn
import Lean
import PyProof.EqAt
import PyProof.EqKinds
import PyProof.TupleCall
import PySem.Challenge.RW_bellferry_k54_whole_what_is_given_is_tak
import PyProof.Rows.SetFrom
import PyProof.FactsAll.set_1
import PyProof.CollectWalk
import PyProof.Rows.SortStr
import PyProof.IsiH_list
import PyProof.ConsumeWalk
import PyProof.StrWalks
import PyProof.IsiH_tuple
import PyProof.SliceStr2
import PyProof.ListRange
import PyProof.Rows.Range3
import PyProof.Rows.CallKwBuiltin
import PyProof.WalkInts
import PyProof.FString5
set_option Elab.async false
set_option linter.all false
set_option maxRecDepth 100000
set_option maxHeartbeats 8000000
set_option genSizeOf false
set_option genSizeOfSpec false
noncomputable section
set_option bootstrap.genMatcherCode false
set_option compiler.extract_closed false
open PySem renaming Value→X0, World→Xh, Program→Xk, sysModules→YX, mainGlobals→Xv, bootBuiltins→YE, Around→Xt, Shared→X1, GenState→Uc, wpAny→X3, model→X6, backTo→Y4, starEach→XB, wpAny_mono→ZN, holding→Z9, wpAny_truthy_bool→ZO, swapsWith→ZP, assignEach→ZQ, wpAny_bind→X2, wpAny_holding→YL, wpAny_passesOwn→UW, letOwnedTupleGo→BE, wpAny_pure→X8, wpAny_load→Vv, rawInt→Y9, foldedSetIterable→BF, Operator→Ud, binaryOp→Yy, compareOp→Y6, codeAny→YY, attributeBase→Ux, FuncData→Xf, codeAny_mono→Vw, wpAny_Call_Name_kw→Uy, backToKw→Ue, keywordEach→Uf, Keyword→Za, NameKind→Zb, wpAny_callSpecial?_slot→BG, wpAny_call_entry→Zc, wpAny_typeOf→ZR, wpAny_newObj_type→Ug, typeLookup→Vx, sliceBounds→Z4, call_meets→UX, valueAt→Z5, tupleKind_room_in1→BH, PyData→Yp, wpAny_richCompare_same_room→Vy, wpAny_loadPart'→Yh, plainId_quiet→ZC, codeAny_builtin→Zd, codeAny_call_builtin→Wv, wpAny_dictEntries→BJ, wpAny_notOrdered_dict→BK, wpAny_isInstance→Uz, SetTable→Yq, wpAny_setState_of→Ww, wpAny_rule→UA, wpAny_askSetting→Wx, wpAny_pyIter_list→BL, typeLookup_type→Vz, builtinLookup_eq_fast→VA, wpAny_setField→VB, ownMembersOf→YZ, getattributeRaised→BM
open List renaming getElem?_eq_getElem→Xd, length_map→Xa, replicate→Xj, mem_of_getElem?→XE, getElem?_map→Xw, getElem?_eq_some_iff→XV, mem_cons→Xr, mem_cons_of_mem→XX, map_cons→XD, size_toArray→XW, not_mem_nil→XR, getD_eq_getElem?_getD→Yr, range→Xx, getElem_of_mem→Yc, getElem_mem→Y1, mem_singleton→Ya, mem_cons_self→Yi, map_append→Y7, getD_cons_succ→Ys, getD_cons_zero→Yt, mem_map→XY, nil_append→Yd, length_append→Yz, cons_append→Yk, length_cons→Yu, getElem?_append_right→ZS, length_replicate→Ze, getElem?_append_left→Uh, length_take→YM, nodup_cons→YF, replicate_succ→Zf, map_nil→Yf, mem_append→YN, mem_append_right→ZT, map_map→Yv, nodup_append→ZD, eq_of_mem_replicate→UY, getElem?_eq_none→UB, lookup_cons→ZE, flatten_cons→ZU, mem_range→Zg, take_add_one→Ui, take_of_length_le→VC, length_range→UC, eq_nil_of_length_eq_zero→BN, getElem?_set_ne→VD, any_cons→ZV, length_set→UD, length_dropLast→Wy, append_assoc→VE, getElem?_set→VF, length_eq_zero_iff→BO, getElem?_range→Wz, mem_flatten→VG, mem_flatMap→VH, map_replicate→WB, lookup→Uj, foldl_cons→VI, find?_cons→VJ, all_cons→UZ, dropLast_subset→BP, getElem?_eq_none_iff→DH, length_drop→WC, append_nil→WD, ext_getElem?→BQ, getElem_inj→BR, all_eq_true→BS, ext_getElem→BT, take_append_of_le_length→GZ, filterMap_cons→DI, length_pos_iff→DJ, length_eraseIdx_of_lt→Ha, pairwise_cons→DK, map_set→WE, mem_or_eq_of_mem_set→Hb, foldl→VL, foldl_append→DL, length→WF, getElem?_replicate→Hc, take_length→DO, getElem_map→DP, getElem_set→DQ, getElem?_set_self→Hd, drop_eq_nil_of_le→He, mem_filter→DR, of_mem_zip→DS, map_id'→BU, drop_zero→DT, getD→WG
open PySem.W renaming Frag→X5, findIn→XI, nsIn→XF, fnOf→XO, keepIn→Y5, mg_none_of→Z6, codeIn→YA, mg_of→YB, isFn→YC, kia_one→ZF, kia_tup→ZG, emptyDict→Uk, instObj→UE, plainGet→V0, hasDictIn→VM, kitOne→V1, plainOver→WH, makesIn→WI, kitx_list→BV, kitx_dict→BW, plainGet_of→DU, callWith_K→DV, lookIn→BX, kitAny→BY, methodObj→DW, cellsFrom_some→Hf, takerIn→DX, methodCall_KW→Hg, OpenLaw→DY
open PySem.Heap renaming get?_push_of_some→Xu, get?_push_size→XS, lt_size→XA, get?_update_self→V2, size_push→ZH, get?_update_other→VN, SameBut→Ul, ExtBut→BZ
open Bool renaming false_ne_true→XC, and_eq_true→Y2, false_eq_true→Yl, not_true→VO, false_and→WJ, or_self→VP, eq_iff_iff→C0, or_eq_true→C1, and_false→C2, not_false→C3, true_and→C4, true_or→C5, or_true→C6, false_or→DZ
open Nat renaming le_refl→Xi, ne_of_lt→XG, lt_of_lt_of_le→YG, le_trans→Y8, two_pow_pos→ZI, zero_le→YO, lt_succ_of_lt→V3, lt_irrefl→V4, pow_le_pow_right→C7, le_succ→UF, ne_of_gt→V5, lt_trans→V6, le_of_eq→VQ, lt_succ_self→C8, mod_lt→VR, le_of_lt→C9, min_eq_left→E1
open Array renaming length_toList→Y3, getElem?_eq_getElem→V7, getElem?_eq_none→E2, getElem?_toList→Hh
open PySem.Value renaming none→Xz, ref→Xs, type→XH, str→XJ, bool→Ye, int→VS, float→Ca
open Sum renaming inr→Xy, inl→V8
open Int renaming toNat_natCast→YQ, emod_lt_of_pos→Um, toNat_of_nonneg→UG, emod_nonneg→ZW, lt_of_lt_of_le→VT, natCast_pow→V9, natCast_nonneg→WK, le_refl→UH, zero_add→WL, natCast_emod→E3, sub_emod→Cb
open Option.some renaming inj→YD, injEq→Cc
open PySem.NameKind renaming free→Ym, cell→VU
open PySem.Around renaming under_plainId→ZJ, under→E4
open PySem.Str renaming ofString→Yj, empty→Uo, length→Cd
open PyProof.Rows renaming callWith_type1→Va, slot_tuple_getitem→VW, callWith_builtin1→Hi, bitAnd_pp→Hj
open False renaming elim→Yg
open PySem.Heap.SameBut renaming update→Up
open Ne renaming symm→XU
open PySem.Builtin.Range renaming rangeSize→VX, small→Hk
open True renaming intro→YH
open PySem.Builtin.Tuple renaming tupleCompareSizes→Ce, tupleExact→Cf, tupleItemsOf→Hl, tupleTooMany→Hm, tupleIsExact→Hn
open PySem.AutoSeq1 renaming wpAny_loadPart'→Cg, sub_tuple_tuple→Ho, sub_list_list→Hq, idx_int→Hr
open PySem renaming mem_of_lookup→VY, Within→E5
open PySem.Builtin.Str renaming strSliceIndices→Ch
open PySem.Builtin.Slice renaming slicePlaces→Ci, sliceAdjust→E6, sliceApplied→Hs
open PySem.Builtin.Dict renaming dictSlotArgs→Cj, updateFrom→Ck, selfAndRest→Ht, samePairs→Hu
open PySem.F renaming slot_tuple_getattribute→Cl, slot_list_getattribute→Cm, slot_tuple_mul→Cn, called_set→UI, slot_dict_keyiterator_iter→Hv, args_tuple_add_2→Hw, args_tuple_mul_2→Hx, entry_tuple_add→Hy, slot_tuple_rmul→Hz, entry_tuple_mul→HA, slot_tuple_add→HB, sub_dict_dict→HC, slot_int_rmul→HD, slot_list_pop→HE, type_list_pop→HF, slot_dict_get→HG, type_dict_get→HH, slot_dict_eq→HI, slot_dict_ne→HJ, slot_list_eq→E7, slot_list_ne→E8
open PySem.Builtin.List renaming listTooLong→Co, listExtendWith→HK, listSameRef→HL
open PySem.Data renaming fields→ZX, seq→Z0
open PySem.SetTable renaming grown→Vb, below→Cp
open Iff renaming rfl→Yn
open PySem.Calls renaming spliced_cons→WM, spliced_nil→WN, Name_function_global→HM, callWith_builtin→HN
open PySem.Manifest renaming find?→VZ
open PySem.Obj renaming mapSeq→Uq, data_mapFields→Cq, isFreed_of_fields→E9, cls_mapFields→Ea, mapFields→Eb
open Option renaming map_eq_some_iff→Ec, map_some→Cr, isSome_some→Ed, toList_some→Ee, isSome_map→Ef
open PySem.Shared renaming TypeIs→WO
open Sum.inr renaming inj→W0
open ForInStep renaming yield→Cs
open Nat.succ renaming inj→WP
open PySem.Builtin renaming bitAnd→Ct, bitXor→Cu
open PySem.Builtin.Frozenset renaming sizeOf→HP
open List.Pairwise renaming sublist→HQ
open PySem.SeqAt.EqAt renaming int_str→HR, str_int→HS
open PySem.ScopeKind renaming function→HU
open PySem.SetTable.below renaming go→HV
open Char renaming toNat→Cv
open PySem.IsRange renaming new→Eg
open PySem.Heap.DictOf renaming new→HW
namespace L2
open PySem PySem.Spec PyProof.Rows
theorem nl0 {α:Type _}{p:α->Prop}:∀x∈([]:List α),p x:=λ_ h=>nomatch h
theorem fMc{α:Type _}{p:α->Prop}{a:α}{l:List α}(h:p a/\∀x∈l,p x):∀x∈a::l,p x:=List.forall_mem_cons.2 h
abbrev Key:=Sum Int Str
def W3:Key->X0->Bool
 |.inl k,v=>Value.isInt k v
 |.inr x,v=>Value.isStrOf x v
def keyH(w:Xh):Key->Int
 |.inl k=>hashInt k
 |.inr x=>hashStr w x
theorem ZY:∀{k:Key} {v:X0},W3 k v=true->(∃i t,k=V8 i/\v=VS i t)\/(∃x t,k=Xy x/\v=XJ x t)
 |.inl i,v,h=>by
  obtain⟨t,e⟩:=Value.isInt_shape (k:=i) (v:=v) h;exact .inl ⟨i,t,rfl,e⟩
 |.inr x,v,h=>by
  obtain⟨t,e⟩:=Value.isStrOf_shape (x:=x) (v:=v) h;exact .inr ⟨x,t,rfl,e⟩
theorem RP(i:Int)(t:Tok):W3 (.inl i) (.int i t)=true:=by simp[W3,Value.isInt]
theorem RQ(x:Str)(t:Tok):W3 (.inr x) (.str x t)=true:=by simp[W3,Value.isStrOf]
theorem RT(a b:Int):decide ((V8 a:Key)=V8 b)=(a==b):=by
 by_cases e:a=b
 ·subst e;simp
 ·have h:¬(V8 a:Key)=V8 b:=λq=>e (Sum.inl.inj q);rw[decide_eq_false h];exact(beq_eq_false_iff_ne.mpr e).symm
theorem RU(a b:Str):decide ((Xy a:Key)=Xy b)=decide (a=b):=by
 by_cases e:a=b
 ·subst e;simp
 ·have h:¬(Xy a:Key)=Xy b:=λq=>e (W0 q);rw[decide_eq_false h,decide_eq_false e]
theorem RV(a:Int)(b:Str):decide ((V8 a:Key)=Xy b)=false:=decide_eq_false (λq=>nomatch q)
theorem RW(a:Str)(b:Int):decide ((Xy a:Key)=V8 b)=false:=decide_eq_false (λq=>nomatch q)
def Yw(prog:Xk)(w:Xh):PySem.KeyKind prog w Key where
 is:=W3
 hash:=keyH w
 inj:=λv a b ha hb=>by
  rcases ZY ha with⟨i,t,rfl,rfl⟩|⟨x,t,rfl,rfl⟩
  ·rcases ZY hb with⟨j,u,rfl,e⟩|⟨y,u,rfl,e⟩
   ·injection e with e1 _;rw[e1]
   ·exact nomatch e
  ·rcases ZY hb with⟨j,u,rfl,e⟩|⟨y,u,rfl,e⟩
   ·exact nomatch e
   ·injection e with e1 _;rw[e1]
 byValue:=λk v h=>by
  rcases ZY h with⟨i,t,rfl,rfl⟩|⟨x,t,rfl,rfl⟩<;>rfl
 pyHash:=λhv h=>by
  rcases ZY hv with⟨i,t,rfl,rfl⟩|⟨x,t,rfl,rfl⟩
  ·exact wpAny_pyHash_int h
  ·exact wpAny_pyHash_str h
 eqBool:=λhu hv h=>by
  rcases ZY hu with⟨i,t,rfl,rfl⟩|⟨x,t,rfl,rfl⟩
  ·rcases ZY hv with⟨j,u,rfl,rfl⟩|⟨y,u,rfl,rfl⟩
   ·rw[RT]at h;exact wpAny_eqBool_int h
   ·rw[RV]at h;exact HR i t y u _ _ _ _ h
  ·rcases ZY hv with⟨j,u,rfl,rfl⟩|⟨y,u,rfl,rfl⟩
   ·rw[RW]at h;exact HS x t j u _ _ _ _ h
   ·rw[RU]at h;exact wpAny_eqBool_str h
 «strs»:=λk x t v h=>by
  rcases ZY h with⟨i,u,rfl,e⟩|⟨y,u,rfl,e⟩
  ·exact nomatch e
  ·injection e with e1 _;subst e1;cases v<;>rfl
theorem RX(prog:Xk)(w:Xh)(i:Int)(t:Tok):(Yw prog w).is (.inl i) (.int i t)=true:=RP i t
theorem RY(prog:Xk)(w:Xh)(x:Str)(t:Tok):(Yw prog w).is (.inr x) (.str x t)=true:=RQ x t
inductive V where
 |non|bl (b:Bool)|int (i:Int)|str (x:Str)|byt (b:Array UInt8)|flt (b:UInt64)|ref (a:Addr)|ty (n:String)
  deriving DecidableEq
def RelV:V->X0->Prop
 |.non,u=>u=Xz
 |.bl b,u=>u=Ye b
 |.int i,u=>∃t,u=VS i t
 |.str x,u=>∃t,u=XJ x t
 |.byt b,u=>∃t,u=Value.bytes b t
 |.flt b,u=>∃t,u=Ca b t
 |.ref a,u=>u=Xs a
 |.ty n,u=>u=XH n
abbrev Vals:List V->List X0->Prop:=Paired RelV
theorem Vals.length{xs:List V}{us:List X0}(r:Vals xs us):xs.length=us.length:=Paired.length r
theorem Vals.get:∀{xs:List V} {us:List X0} {i:Nat} {x:V},Vals xs us->xs[i]?=some x->∃u,us[i]?=some u/\RelV x u
 |_,_,_,_,.nil,e=>by simp at e
 |_,_,0,_,.cons r _,e=>by simp at e;subst e;exact⟨_,rfl,r⟩
 |_,_,i+1,x,.cons _ t,e=>by
  obtain⟨u,h1,h2⟩:=Vals.get (i:=i) (x:=x) t (by simpa using e)
  exact⟨u,by simpa using h1,h2⟩
theorem Vals.set{x:V}{u:X0}(r:RelV x u):∀{xs:List V} {us:List X0} (i:Nat),Vals xs us->Vals (xs.set i x) (us.set i u)
 |_,_,_,.nil=>.nil
 |_,_,0,.cons _ t=>.cons r t
 |_,_,i+1,.cons q t=>.cons q (Vals.set r i t)
theorem Vals.append:∀{xs ys:List V} {us ws:List X0},Vals xs us->Vals ys ws->Vals (xs++ys) (us++ws)
 |_,_,_,_,.nil,s=>s
 |_,_,_,_,.cons r t,s=>.cons r (Vals.append t s)
theorem Vals.take:∀{xs:List V} {us:List X0} (n:Nat),Vals xs us->Vals (xs.take n) (us.take n)
 |_,_,0,_=>.nil
 |_,_,_+1,.nil=>.nil
 |_,_,n+1,.cons r t=>.cons r (Vals.take n t)
theorem Vals.drop:∀{xs:List V} {us:List X0} (n:Nat),Vals xs us->Vals (xs.drop n) (us.drop n)
 |_,_,0,r=>r
 |_,_,_+1,.nil=>.nil
 |_,_,n+1,.cons _ t=>Vals.drop n t
def RelO:Option V->Option X0->Prop
 |some v,some u=>RelV v u
 |none,none=>True
 |_,_=>False
def KV{κ:Type}:List (κ×V)->List (κ×X0)->Prop:=Paired fun(p:κ×V) (q:κ×X0)=>p.1=q.1/\RelV p.2 q.2
def kV:Key->V
 |.inl i=>.int i
 |.inr x=>.str x
inductive HO where
 |lst (xs:List V)
 |tup (xs:List V)
 |dK (kvs:List (Key×V))|dT (kvs:List (List Key×V))
 |set (S:Int->Bool) (n:Nat)
 |ins (C dx:Addr) (fs:List (Str×V))
 |own (x:Addr)
 |xd (fs:List (Str×V))
 |met (f x:Addr)
 |rng (lo hi:Int)
 |frz (o:Obj) (u:HO)
 |tbl (ps:Array X0)
 |ext (φ:Heap->Prop)
abbrev Hp:=Addr->Option HO
def upd(H:Hp)(a:Addr)(o:HO):Hp:=λb=>if b=a then some o else H b
theorem Zh{H:Hp}{a:Addr}{o:HO}:upd H a o a=some o:=by unfold upd;rw[if_pos rfl]
theorem XL{H:Hp}{a b:Addr}{o:HO}(h:b≠a):upd H a o b=H b:=by unfold upd;rw[if_neg h]
theorem HX{H:Hp}{a b:Addr}{o u:HO}(h:H a=some o)(h':H b=some u)(d:o≠u):a≠b:=by
 intro e;subst e;rw[h]at h';exact d (YD h')
theorem Vc{H:Hp}{a b:Addr}{o:HO}(h:H a=some o)(h':H b=none):a≠b:=by
 intro e;subst e;rw[h]at h';cases h'
section
variable(P:Xk)(w:Xh)
def ObjOk(H:Hp)(h:Heap)(a:Addr):HO->Prop
 |.lst xs=>xs.length≤sizeLine/\∃(its:List X0) (n:Nat),Vals xs its/\h.get? a=some {cls:=.type "list",data:=.seq its.toArray n}
 |.tup xs=>xs.length≤sizeLine/\∃its:List X0,Vals xs its/\IsTup h a its.toArray/\∃o,h.get? a=some o/\o.dict=none
 |.dK kvs=>kvs.length≤sizeLine/\(a==YX)=false/\∃vs,KV kvs vs/\h.DictOf (Yw P w) a vs
 |.dT kvs=>kvs.length≤sizeLine/\(a==YX)=false/\∃xs:List (List Key×Addr×X0),
   Paired (fun(p:List Key×V) (q:List Key×Addr×X0)=>p.1=q.1/\H q.2.1=some (.tup (p.1.map kV))/\RelV p.2 q.2.2) kvs xs/\
   ∃o es ep,h.get? a=some o/\o.ExactDict/\o.data=.dict es ep/\es.toList=xs.map (entryOfKey (tupleKind (Yw P w)))/\(xs.map (·.1)).Nodup
 |.set S n=>h.SetOf (intKind P w) a S n
 |.ins C dx fs=>H dx=some (.own a)/\fs.length≤1000/\dx≠a/\h.get? a=some (UE C dx)/\
   ∃mA,h.Ns1 dx mA/\(∀f,RelO (fs.lookup f) (mA f))/\E5 mA (fs.map (·.1))
 |.own _=>∃o,h.get? a=some o
 |.xd fs=>∃mA,h.Ns1 a mA/\∀f,RelO (fs.lookup f) (mA f)
 |.rng lo hi=>∃t u v,h.get? a=some {cls:=.type "range",data:=.fields #[.int lo t,.int hi u,.int 1 v]}
 |.frz o u=>h.get? a=some o/\ObjOk H h a u
 |.tbl ps=>h.get? a=some {cls:=.none,data:=.fields ps}
 |.met f x=>h.get? a=some (DW (.ref f) (.ref x))
 |.ext φ=>φ h/\(∃o,h.get? a=some o)/\∀h1 h2:Heap,φ h1->(∀o,h1.get? a=some o->h2.get? a=some o)->φ h2
def HOk(H:Hp)(h:Heap):Prop:=∀a o,H a=some o->ObjOk P w H h a o
end
section
variable{P:Xk}{w:Xh}{H H':Hp}{h h':Heap}{a:Addr}{o:HO}
theorem ObjOk.lt(x:ObjOk P w H h a o):a<h.objs.size:=by
 cases o with
 |lst xs=>obtain⟨_,_,_,_,e⟩:=x;exact XA e
 |tup xs=>obtain⟨_,_,_,p⟩:=x;exact p.1.lt
 |dK kvs=>obtain⟨_,_,_,_,o,_,_,e,_⟩:=x;exact XA e
 |dT kvs=>obtain⟨_,_,_,_,o,_,_,e,_⟩:=x;exact XA e
 |set S n=>obtain⟨o,_,_,_,e,_⟩:=x;exact XA e
 |ins C dx fs=>obtain⟨_,_,_,e,_⟩:=x;exact XA e
 |own y=>obtain⟨_,e⟩:=x;exact XA e
 |xd fs=>obtain⟨_,⟨_,_,_,e,_⟩,_⟩:=x;exact XA e
 |rng lo hi=>obtain⟨_,_,_,e⟩:=x;exact XA e
 |frz ob u=>obtain⟨e,_⟩:=x;exact XA e
 |tbl ps=>exact XA (show h.get? a=some _ from x)
 |met f y=>exact XA (show h.get? a=some _ from x)
 |ext φ=>obtain⟨_,⟨_,e⟩,_⟩:=x;exact XA e
theorem Paired.mapP{α β:Type}{F G:α->β->Prop}:∀{l₁:List α} {l₂:List β},Paired F l₁ l₂->(∀a b,F a b->G a b)->Paired G l₁ l₂
 |_,_,.nil,_=>.nil
 |_,_,.cons r t,f=>.cons (f _ _ r) (Paired.mapP t f)
theorem ObjOk.stay(x:ObjOk P w H h a o)(k:∀b u,(b=a\/H b=some (.own a))->h.get? b=some u->h'.get? b=some u)
  (ho:∀b,H b=some (.own a)->H' b=some (.own a)) (ht:∀b xs,H b=some (.tup xs)->H' b=some (.tup xs)):ObjOk P w H' h' a o:=by
 induction o with
 |lst xs=>obtain⟨z,its,n,r,e⟩:=x;exact⟨z,its,n,r,k _ _ (.inl rfl) e⟩
 |tup xs=>obtain⟨z,its,r,⟨ob,e,c⟩,o2,e2,c2⟩:=x;exact⟨z,its,r,⟨ob,k _ _ (.inl rfl) e,c⟩,o2,k _ _ (.inl rfl) e2,c2⟩
 |dK kvs=>obtain⟨z,y,vs,r,ob,es,ep,e,c⟩:=x;exact⟨z,y,vs,r,ob,es,ep,k _ _ (.inl rfl) e,c⟩
 |dT kvs=>
  obtain⟨z,y,xs,r,ob,es,ep,e,c⟩:=x;exact⟨z,y,xs,Paired.mapP r λp q z=>⟨z.1,ht _ _ z.2.1,z.2.2⟩,ob,es,ep,k _ _ (.inl rfl) e,c⟩
 |set S n=>obtain⟨ob,es,ep,t,e,c⟩:=x;exact⟨ob,es,ep,t,k _ _ (.inl rfl) e,c⟩
 |ins C dx fs=>
  obtain⟨d,z,ne,e,mA,⟨od,es,ep,e2,c⟩,r⟩:=x;exact⟨ho _ d,z,ne,k _ _ (.inl rfl) e,mA,⟨od,es,ep,k _ _ (.inr d) e2,c⟩,r⟩
 |own y=>obtain⟨ob,e⟩:=x;exact⟨ob,k _ _ (.inl rfl) e⟩
 |xd fs=>obtain⟨mA,⟨od,es,ep,e,c⟩,r⟩:=x;exact⟨mA,⟨od,es,ep,k _ _ (.inl rfl) e,c⟩,r⟩
 |rng lo hi=>obtain⟨t,u,v,e⟩:=x;exact⟨t,u,v,k _ _ (.inl rfl) e⟩
 |frz ob u ih=>obtain⟨e,q⟩:=x;exact⟨k _ _ (.inl rfl) e,ih q⟩
 |tbl ps=>
  have e:h.get? a=some {cls:=.none,data:=.fields ps}:=x;show h'.get? a=some {cls:=.none,data:=.fields ps};exact k a _ (.inl rfl) e
 |met f y=>
  have e:h.get? a=some (DW (.ref f) (.ref y)):=x;show h'.get? a=some (DW (.ref f) (.ref y));exact k a _ (.inl rfl) e
 |ext φ=>obtain⟨p,⟨o,e⟩,st⟩:=x;exact⟨st _ _ p λo q=>k _ _ (.inl rfl) q,⟨o,k _ _ (.inl rfl) e⟩,st⟩
theorem HOk.lt(x:HOk P w H h)(e:H a=some o):a<h.objs.size:=(x a o e).lt
theorem HOk.fresh(x:HOk P w H h)(e:h.objs.size≤a):H a=none:=by
 cases q:H a with
 |none=>rfl
 |some u=>exact absurd (YG (x.lt q) e) (V4 _)
theorem HOk.kept(x:HOk P w H h)(k:∀b u,h.get? b=some u->h'.get? b=some u):HOk P w H h':=λa o e=>
 (x a o e).stay (λb u _ q=>k b u q) (λ_ q=>q) λ_ _ q=>q
theorem HOk.laid(x:HOk P w H h)(k:∀b u,h.get? b=some u->h'.get? b=some u)(hp:h.objs.size≤a)(new:ObjOk P w (upd H a o) h' a o):HOk P w (upd H a o) h':=λb u e=>by
 have hn:=x.fresh hp;by_cases hb:b=a
 ·subst hb;rw[Zh]at e;cases e;exact new
 ·rw[XL hb]at e;exact(x b u e).stay (λc v _ q=>k c v q) (λc q=>by rw[XL (Vc q hn)];exact q) λc xs q=>by rw[XL (Vc q hn)];exact q
end
def Rd(H:Hp)(a:Addr)(u:HO):Prop:=H a=some u\/∃o,H a=some (.frz o u)
theorem Rd.of{H:Hp}{a:Addr}{u:HO}(h:H a=some u):Rd H a u:=.inl h
theorem Rd.ok{P:Xk}{w:Xh}{H:Hp}{h:Heap}{a:Addr}{u:HO}(r:Rd H a u)(x:HOk P w H h):ObjOk P w H h a u:=by
 rcases r with r|⟨o,r⟩
 ·exact x a u r
 ·obtain⟨_,q⟩:=x a _ r;exact q
def Mut:Option HO->Prop
 |some (.lst _)=>True
 |some (.dK _)=>True
 |some (.dT _)=>True
 |some (.set _ _)=>True
 |some (.ins _ _ _)=>True
 |some (.ext _)=>True
 |_=>False
section
variable{P:Xk}{w:Xh}{H:Hp}{h h':Heap}{x e:Addr}{o':HO}
theorem HOk.write(ok:HOk P w H h)(mu:Mut (H x))(he:e=x\/H e=some (.own x))(k:∀b u,b≠e->h.get? b=some u->h'.get? b=some u)(heo:∃u,h'.get? e=some u)
  (new:ObjOk P w (upd H x o') h' x o'):HOk P w (upd H x o') h':=λb u q=>by
 have nown:∀c y,H c=some (.own y)->c≠x:=λc y r z=>by subst z;rw[r]at mu;exact mu
 have ntup:∀c xs,H c=some (.tup xs)->c≠x:=λc xs r z=>by subst z;rw[r]at mu;exact mu
 by_cases hb:b=x
 ·subst hb;rw[Zh]at q;cases q;exact new
 ·rw[XL hb]at q;by_cases hbe:b=e
  ·have q':H b=some (.own x):=by
    rcases he with z|z
    ·exact absurd (hbe.trans z) hb
    ·rw[hbe];exact z
   rw[q]at q';cases q';obtain⟨v,hv⟩:=heo;exact⟨v,by rw[hbe];exact hv⟩
  ·refine(ok b u q).stay (λc v hc r=>k c v ?_ r) (λc r=>by rw[XL (nown c b r)];exact r) λc xs r=>by rw[XL (ntup c xs r)];exact r
   rcases hc with rfl|hc
   ·exact hbe
   ·rintro rfl;rcases he with z|z
    ·exact nown c b hc z
    ·rw[hc]at z;cases z;exact hb rfl
end
structure Un (fs ex:List Addr) (H H':Hp) (h h':Heap):Prop where
 keep:∀b o,h.get? b=some o->H b=none->b∉fs->b∉ex->h'.get? b=some o
 slot:∀b o,h.get? b=some o->H b=none->b∈fs->b∉ex->∃sl,h'.get? b=some {o with slots:=sl}
 free:∀b o,h.get? b=some o->H b=none->b∉ex->H' b=none
 there:∀b o,h.get? b=some o->b∉ex->∃o',h'.get? b=some o'
 tups:∀b xs,H b=some (.tup xs)->H' b=some (.tup xs)
 frzs:∀b o u,H b=some (.frz o u)->H' b=some (.frz o u)
 tbls:∀b ps,H b=some (.tbl ps)->∃more,H' b=some (.tbl (ps++more))
section
variable{fs fs' ex ex':List Addr}{H H1 H2:Hp}{h h1 h2 h':Heap}{a x e:Addr}{o:HO}
theorem Un.any(u:Un fs ex H H1 h h1){b:Addr}{ob:Obj}(q:h.get? b=some ob)(n:H b=none)(hx:b∉ex):∃sl,h1.get? b=some {ob with slots:=sl}:=by
 by_cases hb:b∈fs
 ·exact u.slot b ob q n hb hx
 ·exact⟨ob.slots,u.keep b ob q n hb hx⟩
theorem Un.kept(k:∀b u,h.get? b=some u->h'.get? b=some u):Un fs ex H H h h':=
 ⟨λb ob q _ _ _=>k b ob q,λb ob q _ _ _=>⟨ob.slots,k b ob q⟩,λ_ _ _ n _=>n,λb ob q _=>⟨ob,k b ob q⟩,λ_ _ q=>q,λ_ _ _ q=>q,λ_ ps q=>⟨#[],by rw[q];simp⟩⟩
theorem Un.refl:Un fs ex H H h h:=Un.kept λ_ _ q=>q
theorem Un.laid(k:∀b u,h.get? b=some u->h'.get? b=some u)(hp:h.objs.size≤a)(hn:H a=none):Un fs ex H (upd H a o) h h' where
 keep:=λb u q _ _ _=>k b u q
 slot:=λb u q _ _ _=>⟨u.slots,k b u q⟩
 free:=λb u q n _=>by rw[XL (XG (YG (XA q) hp))];exact n
 there:=λb u q _=>⟨u,k b u q⟩
 tups:=λb xs q=>by rw[XL (Vc q hn)];exact q
 frzs:=λb u xs q=>by rw[XL (Vc q hn)];exact q
 tbls:=λb ps q=>⟨#[],by rw[XL (Vc q hn),q];simp⟩
theorem Un.write(mu:Mut (H x))(he:e=x\/H e=some (.own x))(k:∀b u,b≠e->h.get? b=some u->h'.get? b=some u)(heo:∃u,h'.get? e=some u):Un fs ex H (upd H x o) h h':=by
 have hx:∀b,H b=none->b≠x:=λb n z=>by subst z;rw[n]at mu;exact mu
 have hb:∀b,H b=none->b≠e:=λb n z=>by
  subst z;rcases he with r|r
  ·exact hx b n r
  ·rw[n]at r;cases r
 have hm:∀b u,H b=some u->¬Mut (some u)->b≠x:=λb u q nm z=>by subst z;rw[q]at mu;exact nm mu
 refine⟨λb u q n _ _=>k b u (hb b n) q,λb u q n _ _=>⟨u.slots,k b u (hb b n) q⟩,λb u q n _=>by rw[XL (hx b n)];exact n,λb u q _=>?_,
  λb xs q=>by rw[XL (hm b _ q λz=>z)];exact q,λb u xs q=>by rw[XL (hm b _ q λz=>z)];exact q,λb ps q=>⟨#[],by rw[XL (hm b _ q λz=>z),q];simp⟩⟩
 by_cases hbe:b=e
 ·subst hbe;exact heo
 ·exact⟨u,k b u hbe q⟩
end
def trk(h:Heap)(H:Hp):List Addr:=(Xx h.objs.size).filter λa=>(H a).isSome
def hidT(h:Heap)(H:Hp):Heap:=PySem.W.hideAll h (trk h H)
theorem RZ(h:Heap)(H:Hp):(hidT h H).objs.size=h.objs.size:=PySem.W.hideAll_size _ _
theorem S0{h:Heap}{H:Hp}{b:Addr}{o:Obj}(e:h.get? b=some o)(n:H b=none):(hidT h H).get? b=some o:=
 PySem.W.hideAll_get _ e λhm=>by
  have q:(H b).isSome=true:=(DR.mp hm).2;rw[n]at q;simp at q
theorem S1{h:Heap}{H:Hp}{b:Addr}{o:Obj}(e:(hidT h H).get? b=some o):h.get? b=some o/\H b=none:=by
 have e':h.get? b=some o:=PySem.W.of_hideAll (trk h H) e;refine⟨e',?_⟩;cases q:H b with
 |none=>rfl
 |some x=>
  have hm:b∈trk h H:=DR.mpr ⟨Zg.mpr (XA e'),by simp[q]⟩
  have z:(hidT h H).get? b=none:=PySem.W.hideAll_none (trk h H) hm;rw[z]at e;cases e
def S2(g h:Heap)(L:Addr):List (Addr×Obj):=(Xx h.objs.size).filterMap λa=>if a=L\/(g.get? a).isSome=true then none else(h.get? a).map λo=>(a,o)
def rest(g h:Heap)(L d:Addr):List (Addr×Obj):=(S2 g h L).filter λp=>decide (p.1≠d)
structure Mod (K:X5) (mg:Str->Option X0) (base:Heap):Prop where
 kin:K.In base
 glob:base.Ns Xv mg
 blt:∃mb,base.Ns builtinsNs mb/\∀x:Str,x≠"__name__"->mb x=YE x
 nolimit:base.NoLimit
structure Cx where
 prog:Xk
 w:Xh
 K:X5
 mg:Str->Option X0
 base:Heap
 A:Xt
 N:List Str
 s₀:X1
 H₀:Hp
 env:Env
 outer:List Env
 stack:List Env
 ex:List Addr
 fn:Str->Bool
 calm:Bool
 pn:List (Addr×Obj)
 xe:X0->X1->Prop
def frs(l:List Env):List Addr:=l.filterMap (·.frame)
abbrev Cx.fs(X:Cx):List Addr:=frs X.outer
def Vis(sc:Scope)(x:Str):Prop:=sc.names.lookup x=some .local\/sc.names.lookup x=some .cell\/sc.names.lookup x=some .free
def Loc(sc:Scope)(x:Str):Prop:=sc.names.lookup x=some .local\/sc.names.lookup x=some .cell
def Look(env:Env)(h:Heap)(m:Str->Option X0)(x:Str)(u:X0):Prop:=
 (env.kindOf x=some .local/\m x=some u)\/((env.kindOf x=some .cell\/env.kindOf x=some .free)/\∃c,env.cells.lookup x=some c/\h.IsCell c (some u))
structure Cx.Ok (X:Cx):Prop where
 mod:Mod X.K X.mg X.base
 kind:X.env.scope.kind=.function
 glob:X.env.globals=Xv
 blt:X.env.builtins=builtinsNs
 above:X.s₀.heap.objs.size≤X.env.locals
 inj:∀x y c,X.env.cells.lookup x=some c->X.env.cells.lookup y=some c->x=y
 has:∀x,(X.env.kindOf x=some .cell\/X.env.kindOf x=some .free)->∃c,X.env.cells.lookup x=some c
 cab:∀x c,X.fn x=true->X.env.cells.lookup x=some c->X.s₀.heap.objs.size≤c
 hd:X.calm=true->X.A.handled=none
 frames:X.A.frames=some X.stack
 stk:X.stack=X.outer\/(X.stack=X.env::X.outer/\X.env.frame=some X.env.locals)
 exf:∀b∈X.ex,b≠X.env.locals/\∀x c,X.env.cells.lookup x=some c->c≠b
 bs:∀b o,X.base.get? b=some o->X.s₀.heap.get? b=some o/\X.H₀ b=none
 bsz:X.base.objs.size≤X.s₀.heap.objs.size
 noex:∀b o,X.base.get? b=some o->b∉X.ex
 exfs:∀b∈X.ex,b∉X.fs
 funs:X.s₀.heap.FunFrames X.base X.outer
 frf:∀b∈X.fs,X.H₀ b=none
structure Inv (X:Cx) (pins:List (Addr×Obj)) (σ:List (Option V)) (H:Hp) (s:X1):Prop where
 ok:X.Ok
 os:s.os=X.s₀.os
 bare:AllBare s.gens
 base:Un X.fs X.ex X.H₀ H X.s₀.heap s.heap
 loc:∃m,s.heap.Ns X.env.locals m/\∀(i:Nat) (x:Str) (v:V),X.N[i]?=some x->σ[i]?=some (some v)->Vis X.env.scope x->∃u,RelV v u/\Look X.env s.heap m x u
 cell:∀x c,X.env.cells.lookup x=some c->∃v,s.heap.IsCell c v
 free:H X.env.locals=none
 freeC:∀x c,X.env.cells.lookup x=some c->H c=none
 pin:∀p∈X.pn++pins,s.heap.get? p.1=some p.2/\H p.1=none/\p.1≠X.env.locals/\p.1∉X.fs/\∀v,p.2.data≠.cell v
 hok:HOk X.prog X.w H s.heap
 len:σ.length=X.N.length
section
variable{X:Cx}{pins:List (Addr×Obj)}{σ:List (Option V)}{H H':Hp}{s:X1}{h':Heap}
theorem Cx.Ok.nofr(ok:X.Ok){b:Addr}{o:Obj}(e:X.base.get? b=some o):b∉X.fs:=λhb=>by
 have:=(ok.funs.mem hb).1;rw[e]at this;cases this
theorem Inv.bs(I:Inv X pins σ H s):∀b o,X.base.get? b=some o->s.heap.get? b=some o/\H b=none:=λb o e=>
 ⟨I.base.keep b o (I.ok.bs b o e).1 (I.ok.bs b o e).2 (I.ok.nofr e) (I.ok.noex b o e),I.base.free b o (I.ok.bs b o e).1 (I.ok.bs b o e).2 (I.ok.noex b o e)⟩
theorem Inv.bk(I:Inv X pins σ H s):∀b o,X.base.get? b=some o->s.heap.get? b=some o:=λb o e=>(I.bs b o e).1
theorem Inv.mod(I:Inv X pins σ H s):Mod X.K X.mg X.base:=I.ok.mod
theorem Inv.kIn(I:Inv X pins σ H s):X.K.In s.heap:=I.ok.mod.kin.keeps I.bk
theorem Inv.fr(I:Inv X pins σ H s):∃m,Fr X.base X.env.locals s.heap m:=
 let⟨m,hn,_⟩:=I.loc
 ⟨m,hn,I.bk,Y8 I.ok.bsz I.ok.above⟩
theorem Inv.lt(I:Inv X pins σ H s):X.env.locals<s.heap.objs.size:=let⟨_,hn,_⟩:=I.loc;hn.lt
theorem Inv.sz(I:Inv X pins σ H s):X.s₀.heap.objs.size≤s.heap.objs.size:=Y8 I.ok.above (C9 I.lt)
theorem Inv.nofs(I:Inv X pins σ H s){a:Addr}(h:s.heap.objs.size≤a):a∉X.fs:=λhb=>by
 obtain⟨_,o,ho,_⟩:=I.ok.funs.mem hb;exact absurd (YG (XA ho) (Y8 I.sz h)) (V4 _)
theorem Inv.cne(I:Inv X pins σ H s):∀x c,X.env.cells.lookup x=some c->c≠X.env.locals:=λx c e z=>by
 obtain⟨v,o,ho,hd⟩:=I.cell x c e;obtain⟨m,⟨o',es,ep,ho',hd',_⟩,_⟩:=I.loc;rw[z,ho']at ho;cases ho;rw[hd']at hd;cases hd
theorem Inv.funs(I:Inv X pins σ H s):s.heap.FunFrames X.base X.outer:=by
 have all:∀(l:List Env),(∀b∈frs l,b∈X.fs)->X.s₀.heap.FunFrames X.base l->s.heap.FunFrames X.base l:=by
  intro l
  induction l with
  |nil=>intro _ _;trivial
  |cons env r ih=>
   intro hs hl;obtain⟨hk,⟨L,o,hf,hn,ho,hd⟩,hr⟩:=hl;have hL:L∈X.fs:=hs L (by unfold frs;rw[DI,hf];exact Yi)
   obtain⟨sl,e⟩:=I.base.slot L o ho (I.ok.frf L hL) hL λz=>I.ok.exfs L z hL;exact⟨hk,⟨L,_,hf,hn,e,hd⟩,ih (λb hb=>hs b (by unfold frs;rw[DI,hf];exact XX _ hb)) hr⟩
 exact all X.outer (λ_ hb=>hb) I.ok.funs
theorem Inv.stack(I:Inv X pins σ H s):s.heap.FunFrames X.base X.stack:=by
 rcases I.ok.stk with e|⟨e,hf⟩
 ·rw[e];exact I.funs
 ·rw[e];obtain⟨m,hn,_⟩:=I.loc;refine .cons (by rw[I.ok.kind];decide) hf hn ?_ I.funs
  exact Heap.get?_none_of_le (Y8 I.ok.bsz I.ok.above)
theorem Inv.stkSub(I:Inv X pins σ H s):∀b∈frs X.stack,b∈X.env.locals::X.fs:=λb hb=>by
 rcases I.ok.stk with e|⟨e,hf⟩
 ·rw[e]at hb;exact XX _ hb
 ·rw[e]at hb;unfold frs at hb;rw[DI,hf]at hb;exact hb
theorem Inv.stkFree(I:Inv X pins σ H s):∀b∈frs X.stack,H b=none:=λb hb=>by
 rcases Xr.mp (I.stkSub b hb)with e|hb
 ·rw[e];exact I.free
 ·obtain⟨_,o,ho,_⟩:=I.ok.funs.mem hb;exact I.base.free b o ho (I.ok.frf b hb) λz=>I.ok.exfs b z hb
theorem Inv.step{g':Array Uc}{t':Nat}{d':Drawn}{ch:List Addr}(I:Inv X pins σ H s)
  (hch:∀b∈ch,(b∈X.ex\/X.s₀.heap.objs.size≤b)/\b≠X.env.locals/\(∀x c,X.env.cells.lookup x=some c->c≠b)/\∀p∈X.pn++pins,p.1≠b)
  (keep:∀b o,b≠X.env.locals->b∉X.fs->b∉ch->s.heap.get? b=some o->H b=none->h'.get? b=some o)
  (slot:∀b o,b≠X.env.locals->b∈X.fs->b∉ch->s.heap.get? b=some o->H b=none->∃sl,h'.get? b=some {o with slots:=sl}) (free:∀b o,b∉ch->s.heap.get? b=some o->H b=none->H' b=none)
  (there:∀b o,b∉ch->s.heap.get? b=some o->∃o',h'.get? b=some o')
  (tups:∀b xs,H b=some (.tup xs)->H' b=some (.tup xs)) (frzs:∀b o u,H b=some (.frz o u)->H' b=some (.frz o u)) (tbls:∀b ps,H b=some (.tbl ps)->∃more,H' b=some (.tbl (ps++more)))
  (ns:∀m,s.heap.Ns X.env.locals m->h'.Ns X.env.locals m) (hok:HOk X.prog X.w H' h') (hg:AllBare g'):
  Inv X pins σ H' {s with heap:=h',gens:=g',drawn:=d',toks:=t'}:=by
 have neL:∀b o,X.s₀.heap.get? b=some o->b≠X.env.locals:=λb o e=>XG (YG (XA e) I.ok.above);have neC:∀b o,X.s₀.heap.get? b=some o->b∉X.ex->b∉ch:=λb o e hx hb=>by
  rcases(hch b hb).1 with z|z
  ·exact hx z
  ·exact absurd (YG (XA e) z) (V4 _)
 have cellK:∀x c,X.env.cells.lookup x=some c->∀v,s.heap.IsCell c v->h'.IsCell c v:=λx c e v ⟨o,ho,hd⟩=>by
  have nch:c∉ch:=λz=>(hch c z).2.2.1 x c e rfl;by_cases hc:c∈X.fs
  ·obtain⟨sl,q⟩:=slot c o (I.cne x c e) hc nch ho (I.freeC x c e);exact⟨_,q,hd⟩
  ·exact⟨o,keep c o (I.cne x c e) hc nch ho (I.freeC x c e),hd⟩
 refine⟨I.ok,I.os,hg,⟨λb o e n hb hx=>?_,λb o e n hb hx=>?_,λb o e n hx=>?_,λb o e hx=>?_,λb xs e=>tups b xs (I.base.tups b xs e),λb o xs e=>frzs b o xs (I.base.frzs b o xs e),λb ps e=>?_⟩,?_,λx c e=>?_,?_,λx c e=>?_,λp hp=>?_,hok,I.len⟩
 ·exact keep b o (neL b o e) hb (neC b o e hx) (I.base.keep b o e n hb hx) (I.base.free b o e n hx)
 ·obtain⟨sl,e1⟩:=I.base.slot b o e n hb hx;obtain⟨sl',e2⟩:=slot b _ (neL b o e) hb (neC b o e hx) e1 (I.base.free b o e n hx);exact⟨sl',e2⟩
 ·obtain⟨o',e1⟩:=I.base.there b o e hx;exact free b o' (neC b o e hx) e1 (I.base.free b o e n hx)
 ·obtain⟨o',e1⟩:=I.base.there b o e hx;exact there b o' (neC b o e hx) e1
 ·obtain⟨m1,e1⟩:=I.base.tbls b ps e;obtain⟨m2,e2⟩:=tbls b _ e1;exact⟨m1++m2,by rw[e2,Array.append_assoc]⟩
 ·obtain⟨m,hn,hl⟩:=I.loc;refine⟨m,ns m hn,λi x v e1 e2 e3=>?_⟩;obtain⟨u,r,l⟩:=hl i x v e1 e2 e3;refine⟨u,r,?_⟩;rcases l with l|⟨k,c,e,z⟩
  ·exact .inl l
  ·exact .inr ⟨k,c,e,cellK x c e _ z⟩
 ·obtain⟨v,z⟩:=I.cell x c e;exact⟨v,cellK x c e v z⟩
 ·obtain⟨m,⟨o,_,_,ho,_⟩,_⟩:=I.loc;exact free _ o (λz=>(hch _ z).2.1 rfl) ho I.free
 ·obtain⟨v,o,ho,hd⟩:=I.cell x c e;exact free c o (λz=>(hch c z).2.2.1 x c e rfl) ho (I.freeC x c e)
 ·obtain⟨e,n,ne,nf,d⟩:=I.pin p hp;have nch:p.1∉ch:=λz=>(hch p.1 z).2.2.2 p hp rfl;exact⟨keep p.1 p.2 ne nf nch e n,free p.1 p.2 nch e n,ne,nf,d⟩
theorem Inv.un{t':Nat}(I:Inv X pins σ H s)(u:Un X.fs [] H H' s.heap h')(hok:HOk X.prog X.w H' h'):Inv X pins σ H' {s with heap:=h',toks:=t'}:=by
 obtain⟨m,⟨o,es,ep,ho,r⟩,_⟩:=id I.loc;obtain⟨sl,hL⟩:=u.any ho I.free (by simp)
 exact I.step (g':=s.gens) (d':=s.drawn) (ch:=[]) (λ_ z=>nomatch z) (λb o _ hb _ e n=>u.keep b o e n hb (by simp)) (λb o _ hb _ e n=>u.slot b o e n hb (by simp)) (λb o _ e n=>u.free b o e n (by simp)) (λb o _ e=>u.there b o e (by simp)) u.tups u.frzs u.tbls (λm' hm=>by
  obtain⟨o',es',ep',ho',r'⟩:=hm;rw[ho]at ho';cases ho';exact⟨_,es',ep',hL,r'⟩) hok I.bare
theorem Inv.call{g':Array Uc}{t':Nat}{d':Drawn}{ch:List Addr}(I:Inv X pins σ H s)(u:Un (frs X.stack) ch H H' s.heap h')(hok:HOk X.prog X.w H' h')(hg:AllBare g')
  (hch:∀b∈ch,(b∈X.ex\/X.s₀.heap.objs.size≤b)/\b≠X.env.locals/\(∀x c,X.env.cells.lookup x=some c->c≠b)/\∀p∈X.pn++pins,p.1≠b):
  Inv X pins σ H' {s with heap:=h',gens:=g',drawn:=d',toks:=t'}:=by
 obtain⟨m,⟨o,es,ep,ho,r⟩,_⟩:=id I.loc;obtain⟨sl,hL⟩:=u.any ho I.free λz=>(hch _ z).2.1 rfl;exact I.step (ch:=ch) hch (λb o hL hb hc e n=>u.keep b o e n (λz=>(Xr.mp (I.stkSub b z)).elim hL hb) hc) (λb o _ _ hc e n=>u.any e n hc) (λb o hc e n=>u.free b o e n hc) (λb o hc e=>u.there b o e hc) u.tups u.frzs u.tbls (λm' hm=>by
  obtain⟨o',es',ep',ho',r'⟩:=hm;rw[ho]at ho';cases ho';exact⟨_,es',ep',hL,r'⟩) hok hg
theorem Inv.turned{t':Nat}{it:Addr}(I:Inv X pins σ H s)(k:∀b o,b≠it->s.heap.get? b=some o->h'.get? b=some o)(hn:H it=none)(hL:it≠X.env.locals)
  (h1:it∈X.ex\/X.s₀.heap.objs.size≤it) (h2:∀x c,X.env.cells.lookup x=some c->c≠it) (h3:∀p∈X.pn++pins,p.1≠it):Inv X pins σ H {s with heap:=h',toks:=t'}:=by
 have nit:∀b u,H b=some u->b≠it:=λb u e z=>by rw[z,hn]at e;cases e
 refine I.step (g':=s.gens) (d':=s.drawn) (ch:=[it]) (λb hb=>?_) (λb o _ _ hc e _=>k b o (λz=>hc (by simp[z])) e) (λb o _ _ hc e _=>⟨o.slots,k b o (λz=>hc (by simp[z])) e⟩) (λ_ _ _ _ n=>n)
  (λb o hc e=>⟨o,k b o (λz=>hc (by simp[z])) e⟩) (λ_ _ e=>e) (λ_ _ _ e=>e) (λb ps e=>⟨#[],by rw[e];simp⟩) (λm hm=>?_) (λb u e=>?_) I.bare
 ·have e:b=it:=by simpa using hb
  subst e;exact⟨h1,hL,h2,h3⟩
 ·obtain⟨o,es,ep,ho,r⟩:=hm;exact⟨o,es,ep,k _ o (XU hL) ho,r⟩
 ·refine(I.hok b u e).stay (λc v hc q=>k c v ?_ q) (λ_ q=>q) λ_ _ q=>q;rcases hc with z|z
  ·rw[z];exact nit b u e
  ·exact nit c _ z
theorem Inv.tok(I:Inv X pins σ H s)(t:Nat):Inv X pins σ H {s with toks:=t}:=I.un (h':=s.heap) (t':=t) Un.refl I.hok
theorem Inv.kept{t':Nat}(I:Inv X pins σ H s)(k:∀b u,s.heap.get? b=some u->h'.get? b=some u):Inv X pins σ H {s with heap:=h',toks:=t'}:=I.un (Un.kept k) (I.hok.kept k)
theorem Inv.laid{a:Addr}{o:HO}{t':Nat}(I:Inv X pins σ H s)(k:∀b u,s.heap.get? b=some u->h'.get? b=some u)(hp:s.heap.objs.size≤a)(new:ObjOk X.prog X.w (upd H a o) h' a o):
  Inv X pins σ (upd H a o) {s with heap:=h',toks:=t'}:=I.un (Un.laid k hp (I.hok.fresh hp)) (I.hok.laid k hp new)
theorem Inv.write{x e:Addr}{o:HO}{t':Nat}(I:Inv X pins σ H s)(mu:Mut (H x))(he:e=x\/H e=some (.own x))(k:∀b u,b≠e->s.heap.get? b=some u->h'.get? b=some u)(heo:∃u,h'.get? e=some u)
  (new:ObjOk X.prog X.w (upd H x o) h' x o):Inv X pins σ (upd H x o) {s with heap:=h',toks:=t'}:=I.un (Un.write mu he k heo) (I.hok.write mu he k heo new)
theorem Inv.weak{σ':List (Option V)}(I:Inv X pins σ H s)(hl:σ'.length=σ.length)(w:∀(i:Nat) v,σ'[i]?=some (some v)->σ[i]?=some (some v)):Inv X pins σ' H s:=
 ⟨I.ok,I.os,I.bare,I.base,let⟨m,hn,hl'⟩:=I.loc;⟨m,hn,λi x v e1 e2 e3=>hl' i x v e1 (w i v e2) e3⟩,I.cell,I.free,I.freeC,I.pin,I.hok,hl.trans I.len⟩
theorem Inv.pins_of{pins':List (Addr×Obj)}(I:Inv X pins σ H s)(h:∀p∈pins',s.heap.get? p.1=some p.2/\H p.1=none/\p.1≠X.env.locals/\p.1∉X.fs/\∀v,p.2.data≠.cell v):Inv X pins' σ H s:=
 ⟨I.ok,I.os,I.bare,I.base,I.loc,I.cell,I.free,I.freeC,λp hp=>(YN.mp hp).elim (λz=>I.pin p (List.mem_append_left _ z)) (h p),I.hok,I.len⟩
theorem HY{N:List Str}(hN:N.Nodup){i j:Nat}{x:Str}(a:N[i]?=some x) (b:N[j]?=some x):i=j:=by
 obtain⟨h1,e1⟩:=XV.mp a;obtain⟨h2,e2⟩:=XV.mp b;exact(BR hN).mp (e1.trans e2.symm)
theorem HZ{M:Model}{A:Xt}{E:X0->X1->Prop}{i:Nat}{x:Str}{v:V}{u:X0}{Q:Unit->X1->Prop}(I:Inv X pins σ H s)(hN:X.N.Nodup)(hi:X.N[i]?=some x) (hx:Loc X.env.scope x) (r:RelV v u)
  (h:∀s',Inv X pins (σ.set i (some v)) H s'->(∃a,Ul a s.heap s'.heap/\(a=X.env.locals\/X.env.cells.lookup x=some a))->Q () s') (hf:X.fn x=true\/X.env.scope.names.lookup x=some .local:=by first|exact .inl rfl|exact .inr rfl|assumption):X3 M A (storeName X.env x u) Q E s:=by
 obtain⟨m,hn,hl⟩:=id I.loc;have hcls:(X.env.scope.kind==.class||(X.env.scope.kind==.module&&X.env.locals != X.env.globals))=false:=by rw[I.ok.kind];rfl
 have hiσ:i<σ.length:=by rw[I.len];exact(XV.mp hi).1
 have cne:=I.cne;have tracked:∀{a:Addr} {h':Heap},(∃o,s.heap.get? a=some o/\H a=none)->Ul a s.heap h'->HOk X.prog X.w H h':=fun{a h'} ha hs b ob e=>by
  obtain⟨_,_,hfree⟩:=ha;refine(I.hok b ob e).stay (λc w' hc q=>(hs.2 c ?_).trans q) (λ_ q=>q) λ_ _ q=>q;rintro rfl;rcases hc with rfl|hc
  ·rw[hfree]at e;cases e
  ·rw[hfree]at hc;cases hc
 rcases hx with hk|hk
 ·refine wpAny_storeName_local hk hn (λh' hn' hs=>?_) hcls;obtain⟨oL,_,_,hoL,_⟩:=id hn;refine h _ ⟨I.ok,I.os,I.bare,⟨λb o e n hb hx=>?_,λb o e n hb hx=>?_,I.base.free,λb o e hx=>?_,I.base.tups,I.base.frzs,I.base.tbls⟩,⟨_,hn',λj y v' e1 e2 e3=>?_⟩,λy c e=>?_,I.free,I.freeC,λp hp=>?_,tracked ⟨oL,hoL,I.free⟩ hs,by simpa using I.len⟩ ⟨_,hs,.inl rfl⟩
  ·exact(hs.2 b (XG (YG (XA e) I.ok.above))).trans (I.base.keep b o e n hb hx)
  ·obtain⟨sl,e1⟩:=I.base.slot b o e n hb hx;exact⟨sl,(hs.2 b (XG (YG (XA e) I.ok.above))).trans e1⟩
  ·obtain⟨o',e1⟩:=I.base.there b o e hx;exact⟨o',(hs.2 b (XG (YG (XA e) I.ok.above))).trans e1⟩
  ·by_cases hj:j=i
   ·subst hj;rw[hi]at e1;cases e1;rw[Hd hiσ]at e2;cases e2;exact⟨u,r,.inl ⟨hk,by simp⟩⟩
   ·rw[VD (XU hj)]at e2;obtain⟨u',r',q⟩:=hl j y v' e1 e2 e3;refine⟨u',r',?_⟩;rcases q with⟨k,e⟩|⟨k,c,e,z⟩
    ·refine .inl ⟨k,?_⟩;have:y≠x:=λe=>hj (HY hN e1 (e▸hi));simp[this,e]
    ·exact .inr ⟨k,c,e,z.sameBut hs (cne y c e)⟩
  ·obtain⟨w',z⟩:=I.cell y c e;exact⟨w',z.sameBut hs (cne y c e)⟩
  ·obtain⟨e,n,ne,nf,d⟩:=I.pin p hp;exact⟨(hs.2 p.1 ne).trans e,n,ne,nf,d⟩
 ·have hfn:X.fn x=true:=by
   rcases hf with z|z
   ·exact z
   ·rw[z]at hk;cases hk
  obtain⟨c,hc⟩:=I.ok.has x (.inl hk);obtain⟨w',z⟩:=I.cell x c hc;refine wpAny_storeName_cell I.ok.kind hk hc z (λh' hc' hs=>?_);obtain⟨oc,hoc,hocd⟩:=id z;refine h {s with heap:=h'} ⟨I.ok,I.os,I.bare,⟨λb o e n hb hx=>?_,λb o e n hb hx=>?_,I.base.free,λb o e hx=>?_,I.base.tups,I.base.frzs,I.base.tbls⟩,⟨m,hn.sameBut hs (XU (cne x c hc)),λj y v' e1 e2 e3=>?_⟩,λy c' e=>?_,I.free,I.freeC,λp hp=>?_,tracked ⟨oc,hoc,I.freeC x c hc⟩ hs,by simpa using I.len⟩ ⟨c,hs,.inr hc⟩
  ·exact(hs.2 b (XG (YG (XA e) (I.ok.cab x c hfn hc)))).trans (I.base.keep b o e n hb hx)
  ·obtain⟨sl,e1⟩:=I.base.slot b o e n hb hx;exact⟨sl,(hs.2 b (XG (YG (XA e) (I.ok.cab x c hfn hc)))).trans e1⟩
  ·obtain⟨o',e1⟩:=I.base.there b o e hx;exact⟨o',(hs.2 b (XG (YG (XA e) (I.ok.cab x c hfn hc)))).trans e1⟩
  ·by_cases hj:j=i
   ·subst hj;rw[hi]at e1;cases e1;rw[Hd hiσ]at e2;cases e2;exact⟨u,r,.inr ⟨.inl hk,c,hc,hc'⟩⟩
   ·rw[VD (XU hj)]at e2;obtain⟨u',r',q⟩:=hl j y v' e1 e2 e3;refine⟨u',r',?_⟩;rcases q with q|⟨k,c',e,z'⟩
    ·exact .inl q
    ·refine .inr ⟨k,c',e,z'.sameBut hs ?_⟩;rintro rfl;exact hj (HY hN e1 (I.ok.inj _ _ _ e hc▸hi))
  ·by_cases hcc:c'=c
   ·subst hcc;exact⟨_,hc'⟩
   ·obtain⟨w2,z2⟩:=I.cell y c' e;exact⟨w2,z2.sameBut hs hcc⟩
  ·obtain⟨e,n,ne,nf,d⟩:=I.pin p hp;refine⟨(hs.2 p.1 ?_).trans e,n,ne,nf,d⟩;intro q;rw[q,hoc]at e;have q':oc=p.2:=YD e;exact d w' (by rw[<- q'];exact hocd)
theorem I0{M:Model}{A:Xt}{E:X0->X1->Prop}{i:Nat}{x:Str}{v:V}{u:X0}{Q:Unit->X1->Prop}(I:Inv X pins σ H s)(hN:X.N.Nodup)(hi:X.N[i]?=some x) (hx:Loc X.env.scope x) (r:RelV v u)
  (h:∀s',Inv X pins (σ.set i (some v)) H s'->Q () s') (hf:X.fn x=true\/X.env.scope.names.lookup x=some .local:=by first|exact .inl rfl|exact .inr rfl|assumption):X3 M A (storeName X.env x u) Q E s:=
 HZ I hN hi hx r (λs' I' _=>h s' I') hf
theorem Inv.call'{s':X1}{ch:List Addr}(I:Inv X pins σ H s)(ho:s'.os=s.os)(u:Un (frs X.stack) ch H H' s.heap s'.heap)(hok:HOk X.prog X.w H' s'.heap)(hg:AllBare s'.gens)
  (hch:∀b∈ch,(b∈X.ex\/X.s₀.heap.objs.size≤b)/\b≠X.env.locals/\(∀x c,X.env.cells.lookup x=some c->c≠b)/\∀p∈X.pn++pins,p.1≠b):Inv X pins σ H' s':=by
 obtain⟨h',g',d',t',o'⟩:=s';have e:o'=s.os:=ho;subst e;exact I.call (g':=g') (t':=t') (d':=d') u hok hg hch
end
abbrev XK:=X0->Option Addr->Hp->Prop
abbrev St:=List (Option V)
abbrev VK:=V->Hp->Prop
abbrev TE:=St->Hp->VK->Prop
abbrev TT:=St->Hp->(Bool->Hp->Prop)->Prop
abbrev TA:=St->Hp->(List V->Hp->Prop)->Prop
structure Ends where
 nx:St->Hp->Prop
 rt:VK
 bk:St->Hp->Prop:=λ_ _=>False
 ct:St->Hp->Prop:=λ_ _=>False
abbrev TS:=Ends->St->Hp->Prop
def EP(X:Cx)(pins:List (Addr×Obj))(σ:St)(Q:VK)(u:X0)(s':X1):Prop:=∃v H',Inv X pins σ H' s'/\RelV v u/\Q v H'
def TP(X:Cx)(pins:List (Addr×Obj))(σ:St)(Q:Bool->Hp->Prop)(b:Bool)(s':X1):Prop:=∃H',Inv X pins σ H' s'/\Q b H'
def AP(X:Cx)(pins:List (Addr×Obj))(σ:St)(Q:List V->Hp->Prop)(us:List X0)(s':X1):Prop:=∃vs H',Inv X pins σ H' s'/\Vals vs us/\Q vs H'
def SP(X:Cx)(pins:List (Addr×Obj))(D:Ends)(f:Flow)(s':X1):Prop:=
 match f with
 |.next=>∃σ' H',Inv X pins σ' H' s'/\D.nx σ' H'
 |.brk=>∃σ' H',Inv X pins σ' H' s'/\D.bk σ' H'
 |.cont=>∃σ' H',Inv X pins σ' H' s'/\D.ct σ' H'
 |.ret u=>∃v σ' H',Inv X pins σ' H' s'/\RelV v u/\D.rt v H'
def PE(X:Cx)(e:Expr)(t:TE):Prop:=
 ∀(pins:List (Addr×Obj)) (s:X1) (σ:St) (H:Hp) (Q:VK),Inv X pins σ H s->t σ H Q->X3 (X6 X.prog X.w) X.A (eval e X.env) (EP X pins σ Q) X.xe s
def PT(X:Cx)(e:Expr)(t:TT):Prop:=
 ∀(pins:List (Addr×Obj)) (s:X1) (σ:St) (H:Hp) (Q:Bool->Hp->Prop),Inv X pins σ H s->t σ H Q->X3 (X6 X.prog X.w) X.A (isTrue e X.env (eval e X.env)) (TP X pins σ Q) X.xe s
def PW(X:Cx)(e:Expr)(t:TT):Prop:=
 ∀(whole:Sem X0) (pins:List (Addr×Obj)) (s:X1) (σ:St) (H:Hp) (Q:Bool->Hp->Prop),Inv X pins σ H s->t σ H Q->X3 (X6 X.prog X.w) X.A (isTrue e X.env whole) (TP X pins σ Q) X.xe s
theorem PW.pt{X:Cx}{e:Expr}{t:TT}(h:PW X e t):PT X e t:=h _
def PA(X:Cx)(es:List Expr)(t:TA):Prop:=
 ∀(pos:Pos) (pins:List (Addr×Obj)) (s:X1) (σ:St) (H:Hp) (Q:List V->Hp->Prop),Inv X pins σ H s->t σ H Q->X3 (X6 X.prog X.w) X.A (spliced (Y4 pos (XB es X.env))) (AP X pins σ Q) X.xe s
def PS(X:Cx)(st:Stmt)(t:TS):Prop:=
 ∀(pins:List (Addr×Obj)) (s:X1) (σ:St) (H:Hp) (D:Ends),Inv X pins σ H s->t D σ H->X3 (X6 X.prog X.w) X.A (exec st X.env) (SP X pins D) X.xe s
def PSs(X:Cx)(st:List Stmt)(t:TS):Prop:=
 ∀(pins:List (Addr×Obj)) (s:X1) (σ:St) (H:Hp) (D:Ends),Inv X pins σ H s->t D σ H->X3 (X6 X.prog X.w) X.A (execs st X.env) (SP X pins D) X.xe s
theorem thn{α:Type}{t:Sem α}{Q Q':α->X1->Prop}{M:Model}{A:Xt}{E:X0->X1->Prop}{s:X1}(h:X3 M A t Q E s)(hQ:∀a s,Q a s->Q' a s):X3 M A t Q' E s:=ZN h hQ λ_ _ x=>x
section
variable{X:Cx}
theorem bin{a b:Expr}{ta tb:TE}(ha:PE X a ta)(hb:PE X b tb){pins:List (Addr×Obj)}{s:X1}{σ:St}{H:Hp}{R:V->V->Hp->Prop}(I:Inv X pins σ H s)(h:ta σ H λx H1=>tb σ H1 λy H2=>R x y H2)
  {α:Type} {Q:α->X1->Prop} {f:X0->X0->Sem α}
  (hf:∀v u s2 x y H2,Inv X pins σ H2 s2->RelV x v->RelV y u->R x y H2->X3 (X6 X.prog X.w) X.A (f v u) Q X.xe s2):
  X3 (X6 X.prog X.w) X.A (eval a X.env) (λv s₁=>X3 (X6 X.prog X.w) X.A (eval b X.env) (λu s₂=>X3 (X6 X.prog X.w) X.A (f v u) Q X.xe s₂) X.xe s₁) X.xe s:=by
 refine thn (ha pins s σ H _ I h) λv s1 ⟨x,H1,I1,r1,q1⟩=>?_;refine thn (hb pins s1 σ H1 _ I1 q1) λu s2 ⟨y,H2,I2,r2,q2⟩=>?_;exact hf v u s2 x y H2 I2 r1 r2 q2
def tVar(i:Nat):TE:=λσ H Q=>∃v,σ[i]?=some (some v)/\Q v H
def tC(v:V):TE:=λ_ H Q=>Q v H
theorem Ia{i:Nat}{x:Str}{pos:Pos}(hN:X.N[i]?=some x) (hv:Vis X.env.scope x) (hd:(x==("__debug__":Str))=false:=by decide) (hcd:(x==("__classdict__":Str))=false:=by decide):PE X (.Name x pos) (tVar i):=by
 intro pins s σ H Q I h;obtain⟨v,e,h⟩:=h;obtain⟨m,hn,hl⟩:=I.loc;obtain⟨u,r,l⟩:=hl i x v hN e hv;have fin:EP X pins σ Q u s:=⟨v,H,I,r,h⟩;rcases l with⟨hk,hm⟩|⟨hk,c,hc,hcell⟩
 ·exact wpAny_Name (wpAny_loadName_local I.ok.kind hk hn hm fin) hd
 ·rcases hk with hk|hk
  ·exact wpAny_Name (wpAny_loadName_cell I.ok.kind hk hc hcell fin) hd
  ·exact wpAny_Name (wpAny_loadName_free I.ok.kind hk hc hcell fin hcd) hd
theorem pe_int{i j pos}:PE X (.Constant (.int i) j pos) (tC (.int i)):=λ_ _ _ H _ I h=>wpAny_Constant_int ⟨.int i,H,I.tok _,⟨_,rfl⟩,h⟩
theorem pe_bl{b j pos}:PE X (.Constant (.bool b) j pos) (tC (.bl b)):=λ_ _ _ H _ I h=>Constant_bool ⟨.bl b,H,I,rfl,h⟩
theorem pe_non{j pos}:PE X (.Constant .none j pos) (tC .non):=λ_ _ _ H _ I h=>Constant_none ⟨.non,H,I,rfl,h⟩
theorem pe_str{x j pos}:PE X (.Constant (.str x) j pos) (tC (.str x)):=λ_ _ _ H _ I h=>Calls.Constant_str ⟨.str x,H,I.tok _,⟨_,rfl⟩,h⟩
def Gl(X:Cx)(x:Str):Prop:=X.env.kindOf x=some .globalImplicit
theorem Eh{E:X0->X1->Prop}{pins:List (Addr×Obj)}{s:X1}{σ:St}{H:Hp}{x:Str}{u:X0}{pos:Pos}{Q:X0->X1->Prop}(I:Inv X pins σ H s)(hg:Gl X x)(hm:X.mg x=some u)(h:Q u s)
  (hd:(x==("__debug__":Str))=false:=by decide):X3 (X6 X.prog X.w) X.A (eval (.Name x pos) X.env) Q E s:=
 HM I.ok.kind hg (Calls.loadGlobal_global (by rw[I.ok.glob];exact I.mod.glob.keeps I.bk) hm h) hd
theorem ZZ{E:X0->X1->Prop}{pins:List (Addr×Obj)}{s:X1}{σ:St}{H:Hp}{x:Str}{u:X0}{pos:Pos}{Q:X0->X1->Prop}(I:Inv X pins σ H s)(hg:Gl X x)(hm:X.mg x=none)(hv:YE x=some u)(h:Q u s)
  (hn:x≠"__name__":=by decide) (hd:(x==("__debug__":Str))=false:=by decide):X3 (X6 X.prog X.w) X.A (eval (.Name x pos) X.env) Q E s:=by
 obtain⟨mb,h1,h2⟩:=I.mod.blt;exact HM I.ok.kind hg (Calls.loadGlobal_builtin (by rw[I.ok.glob];exact I.mod.glob.keeps I.bk) hm (by rw[I.ok.blt];exact h1.keeps I.bk) ((h2 x hn).trans hv) h) hd
theorem S3{x:Str}{v:V}{u:X0}{pos:Pos}(hg:Gl X x)(hm:X.mg x=some u)(r:RelV v u)(hd:(x==("__debug__":Str))=false:=by decide):PE X (.Name x pos) (tC v):=
 λ_ _ _ H _ I h=>Eh I hg hm ⟨v,H,I,r,h⟩ hd
theorem S4{x:Str}{v:V}{u:X0}{pos:Pos}(hg:Gl X x)(hm:X.mg x=none)(hv:YE x=some u)(r:RelV v u)(hn:x≠"__name__":=by decide)(hd:(x==("__debug__":Str))=false:=by decide):PE X (.Name x pos) (tC v):=
 λ_ _ _ H _ I h=>ZZ I hg hm hv ⟨v,H,I,r,h⟩ hn hd
variable{a b:Expr}{ta tb:TE}{pos:Pos}
def tB(t:TE):TT:=λσ H Q=>t σ H λx H1=>∃c,x=.bl c/\Q c H1
theorem S5{e:Expr}{t:TE}(h:PE X e t)(he:∀whole,isTrue e X.env whole=(do let v<- whole;standAt e.pos;Z9 [v] (truthy v)):=by intro _;rfl):PT X e (tB t):=by
 intro pins s σ H Q I hw;refine isTrue_plain (thn (h pins s σ H _ I hw) λv s1 ⟨x,H1,I1,r1,q1⟩=>?_) (he _);obtain⟨d,rfl,q⟩:=q1;cases r1;exact ZO ⟨H1,I1,q⟩
variable{tA tB':TT}{rest:List Expr}
def tAnd(t u:TT):TT:=λσ H Q=>t σ H λc H1=>if c=true then u σ H1 Q else Q false H1
def tOr(t u:TT):TT:=λσ H Q=>t σ H λc H1=>if c=true then Q true H1 else u σ H1 Q
def tNot(t:TT):TT:=λσ H Q=>t σ H λc H1=>Q (!c) H1
theorem pw_and1(ha:PT X a tA):PW X (.BoolOp .And [a] pos) tA:=by
 intro wh pins s σ H Q I h;refine isTrue_and (thn (ha pins s σ H Q I h) λc s1 e=>?_);cases c with
 |true=>exact isTrue_and_nil e
 |false=>exact e
theorem pw_or1(ha:PT X a tA):PW X (.BoolOp .Or [a] pos) tA:=by
 intro wh pins s σ H Q I h;refine isTrue_or (thn (ha pins s σ H Q I h) λc s1 e=>?_);cases c with
 |false=>exact isTrue_or_nil e
 |true=>exact e
theorem pw_and(ha:PT X a tA)(hb:PW X (.BoolOp .And (b::rest) pos) tB'):PW X (.BoolOp .And (a::b::rest) pos) (tAnd tA tB'):=by
 intro wh pins s σ H Q I h;refine isTrue_and (thn (ha pins s σ H _ I h) λc s1 ⟨H1,I1,q1⟩=>?_);cases c with
 |true=>exact hb wh pins s1 σ H1 Q I1 q1
 |false=>exact⟨H1,I1,q1⟩
theorem pw_or(ha:PT X a tA)(hb:PW X (.BoolOp .Or (b::rest) pos) tB'):PW X (.BoolOp .Or (a::b::rest) pos) (tOr tA tB'):=by
 intro wh pins s σ H Q I h;refine isTrue_or (thn (ha pins s σ H _ I h) λc s1 ⟨H1,I1,q1⟩=>?_);cases c with
 |true=>exact⟨H1,I1,q1⟩
 |false=>exact hb wh pins s1 σ H1 Q I1 q1
theorem S6(ha:PT X a tA):PT X (.UnaryOp .Not a pos) (tNot tA):=by
 intro pins s σ H Q I h;exact isTrue_not (ha pins s σ H (λc H1=>Q (!c) H1) I h)
def S7(ta tb:TE):TE:=λσ H Q=>ta σ H λx H1=>∃c,x=.bl c/\if c=true then tb σ H1 Q else Q (.bl false) H1
def tOrV(ta tb:TE):TE:=λσ H Q=>ta σ H λx H1=>∃c,x=.bl c/\if c=true then Q (.bl true) H1 else tb σ H1 Q
def S8(ta:TE):TE:=λσ H Q=>ta σ H λx H1=>∃c,x=.bl c/\Q (.bl (!c)) H1
theorem Ib{op}{t:TE}(h:PE X a t):PE X (.BoolOp op [a] pos) t:=λpins s σ H Q I hw=>BoolOp_one (h pins s σ H Q I hw)
theorem S9(ha:PE X a ta)(hb:PE X (.BoolOp .And (b::rest) pos) tb):PE X (.BoolOp .And (a::b::rest) pos) (S7 ta tb):=by
 intro pins s σ H Q I h;refine BoolOp_and (thn (ha pins s σ H _ I h) λv s1 ⟨x,H1,I1,r1,q1⟩=>?_);obtain⟨c,rfl,q1⟩:=q1;cases r1;refine ZO ?_;cases c with
 |true=>exact hb pins s1 σ H1 Q I1 q1
 |false=>exact⟨.bl false,H1,I1,rfl,q1⟩
theorem Sa(ha:PE X a ta)(hb:PE X (.BoolOp .Or (b::rest) pos) tb):PE X (.BoolOp .Or (a::b::rest) pos) (tOrV ta tb):=by
 intro pins s σ H Q I h;refine BoolOp_or (thn (ha pins s σ H _ I h) λv s1 ⟨x,H1,I1,r1,q1⟩=>?_);obtain⟨c,rfl,q1⟩:=q1;cases r1;refine ZO ?_;cases c with
 |false=>exact hb pins s1 σ H1 Q I1 q1
 |true=>exact⟨.bl true,H1,I1,rfl,q1⟩
theorem Sb(ha:PE X a ta):PE X (.UnaryOp .Not a pos) (S8 ta):=by
 intro pins s σ H Q I h;refine UnaryOp_ (thn (ha pins s σ H _ I h) λv s1 ⟨x,H1,I1,r1,q1⟩=>?_);obtain⟨c,rfl,q1⟩:=q1;cases r1;exact not_of (ZO ⟨.bl (!c),H1,I1,rfl,q1⟩)
def tIf(t:TT)(ta tb:TE):TE:=λσ H Q=>t σ H λc H1=>if c=true then ta σ H1 Q else tb σ H1 Q
theorem Sc{c:Expr}(hc:PT X c tA)(ha:PE X a ta)(hb:PE X b tb):PE X (.IfExp c a b pos) (tIf tA ta tb):=by
 intro pins s σ H Q I h;refine wpAny_IfExp (thn (hc pins s σ H _ I h) λd s1 ⟨H1,I1,q1⟩=>?_);cases d with
 |true=>exact ha pins s1 σ H1 Q I1 q1
 |false=>exact hb pins s1 σ H1 Q I1 q1
end
def SqL(K:X5)(H:Hp)(a:Addr)(xs:List V):Prop:=
 Rd H a (.lst xs)\/
  ∃(o:Obj) (its:Array X0) (n:Nat),K.lookup a=some o/\o.cls=.type "list"/\o.dict=none/\o.data=.seq its n/\its.size≤sizeLine/\Vals xs its.toList
def SqT(K:X5)(H:Hp)(a:Addr)(xs:List V):Prop:=
 Rd H a (.tup xs)\/
  ∃(o:Obj) (its:Array X0) (n:Nat),K.lookup a=some o/\o.cls=.type "tuple"/\o.data=.seq its n/\its.size≤sizeLine/\Vals xs its.toList
def absV:X0->Option V
 |.none=>some .non
 |.bool b=>some (.bl b)
 |.int i _=>some (.int i)
 |.str x _=>some (.str x)
 |.bytes b _=>some (.byt b)
 |.float b _=>some (.flt b)
 |.ref a=>some (.ref a)
 |.type n=>some (.ty n)
 |_=>none
theorem RelV.abs{x:V}{u:X0}(r:RelV x u):absV u=some x:=by
 cases x with
 |non=>cases r;rfl
 |bl _=>cases r;rfl
 |int _=>obtain⟨t,rfl⟩:=r;rfl
 |str _=>obtain⟨t,rfl⟩:=r;rfl
 |byt _=>obtain⟨t,rfl⟩:=r;rfl
 |flt _=>obtain⟨t,rfl⟩:=r;rfl
 |ref _=>cases r;rfl
 |ty _=>cases r;rfl
theorem RelV.inj{x y:V}{u:X0}(r:RelV x u)(q:RelV y u):x=y:=YD (r.abs.symm.trans q.abs)
theorem Vals.inj:∀{xs ys:List V} {us:List X0},Vals xs us->Vals ys us->xs=ys
 |_,_,_,.nil,.nil=>rfl
 |_,_,_,.cons r t,.cons r' t'=>by rw[r.inj r',Vals.inj t t']
section
variable{X:Cx}{pins:List (Addr×Obj)}{σ:St}{H:Hp}{s:X1}{a:Addr}{xs ys:List V}
theorem SqL.of{K:X5}(h:H a=some (.lst xs)):SqL K H a xs:=.inl (.inl h)
theorem SqT.of{K:X5}(h:H a=some (.tup xs)):SqT K H a xs:=.inl (.inl h)
theorem Inv.list(I:Inv X pins σ H s)(h:SqL X.K H a xs):∃its:List X0,Vals xs its/\PlainL s.heap a its.toArray/\xs.length≤sizeLine:=by
 rcases h with h|⟨o,its,n,hk,hc,hd,hs,hz,r⟩
 ·obtain⟨z,its,n,r,e⟩:=h.ok I.hok;exact⟨its,r,⟨_,n,e,rfl,rfl,rfl⟩,z⟩
 ·refine⟨its.toList,r,⟨o,n,I.kIn a o hk,hc,hd,by simpa using hs⟩,?_⟩
  have e:=r.length;simp only[Y3]at e;lia
theorem Inv.tuple(I:Inv X pins σ H s)(h:SqT X.K H a xs):∃its:List X0,Vals xs its/\IsTup s.heap a its.toArray/\xs.length≤sizeLine:=by
 rcases h with h|⟨o,its,n,hk,hc,hs,hz,r⟩
 ·obtain⟨z,its,r,p⟩:=h.ok I.hok;exact⟨its,r,p.1,z⟩
 ·refine⟨its.toList,r,⟨o,I.kIn a o hk,hc,n,by simpa using hs⟩,?_⟩
  have e:=r.length;simp only[Y3]at e;lia
theorem Inv.list_inj(I:Inv X pins σ H s)(h:SqL X.K H a xs)(h':SqL X.K H a ys):xs=ys:=by
 obtain⟨its,r,⟨o,n,e,_,_,d⟩,_⟩:=I.list h;obtain⟨its',r',⟨o',n',e',_,_,d'⟩,_⟩:=I.list h';rw[e]at e';cases e';rw[d]at d';injection d' with d1 _;have:its=its':=by simpa using congrArg Array.toList d1
 subst this;exact r.inj r'
theorem Inv.tuple_inj(I:Inv X pins σ H s)(h:SqT X.K H a xs)(h':SqT X.K H a ys):xs=ys:=by
 obtain⟨its,r,⟨o,e,_,n,d⟩,_⟩:=I.tuple h;obtain⟨its',r',⟨o',e',_,n',d'⟩,_⟩:=I.tuple h';rw[e]at e';cases e';rw[d]at d';injection d' with d1 _;have:its=its':=by simpa using congrArg Array.toList d1
 subst this;exact r.inj r'
end
abbrev Cx.wish(X:Cx)(E:X0->X1->Prop):Cx:={X with xe:=E}
abbrev Cx.nox(X:Cx):Cx:=X.wish λ_ _=>False
theorem Cx.Ok.wish{X:Cx}(ok:X.Ok)(E:X0->X1->Prop):(X.wish E).Ok:=
 ⟨ok.mod,ok.kind,ok.glob,ok.blt,ok.above,ok.inj,ok.has,ok.cab,ok.hd,ok.frames,ok.stk,ok.exf,ok.bs,ok.bsz,ok.noex,ok.exfs,ok.funs,ok.frf⟩
theorem Cx.Ok.unwish{X:Cx}{E:X0->X1->Prop}(ok:(X.wish E).Ok):X.Ok:=
 ⟨ok.mod,ok.kind,ok.glob,ok.blt,ok.above,ok.inj,ok.has,ok.cab,ok.hd,ok.frames,ok.stk,ok.exf,ok.bs,ok.bsz,ok.noex,ok.exfs,ok.funs,ok.frf⟩
section
variable{X:Cx}{pins:List (Addr×Obj)}{σ:St}{H:Hp}{s:X1}{E:X0->X1->Prop}
theorem Inv.wish(I:Inv X pins σ H s)(E:X0->X1->Prop):Inv (X.wish E) pins σ H s:=⟨I.ok.wish E,I.os,I.bare,I.base,I.loc,I.cell,I.free,I.freeC,I.pin,I.hok,I.len⟩
theorem Inv.unwish(I:Inv (X.wish E) pins σ H s):Inv X pins σ H s:=⟨I.ok.unwish,I.os,I.bare,I.base,I.loc,I.cell,I.free,I.freeC,I.pin,I.hok,I.len⟩
theorem SP.unwish{D:Ends}{f:Flow}{s':X1}(h:SP (X.wish E) pins D f s'):SP X pins D f s':=by
 cases f with
 |next=>obtain⟨σ',H',I,q⟩:=h;exact⟨σ',H',I.unwish,q⟩
 |brk=>obtain⟨σ',H',I,q⟩:=h;exact⟨σ',H',I.unwish,q⟩
 |cont=>obtain⟨σ',H',I,q⟩:=h;exact⟨σ',H',I.unwish,q⟩
 |ret u=>obtain⟨v,σ',H',I,r,q⟩:=h;exact⟨v,σ',H',I.unwish,r,q⟩
theorem PSs.nox{st:List Stmt}{t:TS}(h:PSs X.nox st t):PSs X st t:=λpins s σ H D I hw=>
 ZN (h pins s σ H D (I.wish _) hw) (λ_ _ q=>q.unwish) λ_ _ z=>Yg z
end
section
variable{X:Cx}{st:Stmt}{rest:List Stmt}{t u:TS}{e:Expr}{te:TE}{pos:Pos}
def Sd:TS:=λD σ H=>D.nx σ H
def tSeq(t u:TS):TS:=λD σ H=>t {D with nx:=u D} σ H
theorem pss_nil:PSs X [] Sd:=λ_ _ σ H _ I h=>wpAny_execs_nil ⟨σ,H,I,h⟩
theorem Se(h1:PS X st t)(h2:PSs X rest u):PSs X (st::rest) (tSeq t u):=by
 intro pins s σ H D I h;refine wpAny_execs_cons (thn (h1 pins s σ H {D with nx:=u D} I h) λf s1 q=>?_);cases f with
 |next=>
  obtain⟨σ',H',I',q⟩:=q;exact h2 pins s1 σ' H' D I' q
 |ret v=>exact q
 |brk=>exact q
 |cont=>exact q
theorem Inv.quiet{pins:List (Addr×Obj)}{σ:St}{H:Hp}{s:X1}(I:Inv X pins σ H s):interactive X.env=false:=by simp[interactive,I.ok.kind]
def Sf(te:TE):TS:=λD σ H=>te σ H λ_ H1=>D.nx σ H1
theorem Sg(he:PE X e te)(hs:ZP e none pos.line X.env=pure false:=by rfl):PS X (.Expr e pos) (Sf te):=by
 intro pins s σ H D I h;exact wpAny_Expr_any (thn (he pins s σ H _ I h) λv s1 ⟨x,H1,I1,r1,q1⟩=>⟨σ,H1,I1,q1⟩) I.quiet hs
def tRet(te:TE):TS:=λD σ H=>te σ H D.rt
theorem Sh(he:PE X e te):PS X (.Return (some e) pos) (tRet te):=by
 intro pins s σ H D I h;exact wpAny_Return_some (thn (he pins s σ H _ I h) λv s1 ⟨x,H1,I1,r1,q1⟩=>⟨x,σ,H1,I1,r1,q1⟩)
def tIfS(c:TT)(t u:TS):TS:=λD σ H=>c σ H λb H1=>if b=true then t D σ H1 else u D σ H1
theorem Si{c:Expr}{a b:List Stmt}{tc:TT}(hc:PT X c tc)(ha:PSs X a t)(hb:PSs X b u):PS X (.If c a b pos) (tIfS tc t u):=by
 intro pins s σ H D I h;refine wpAny_If (thn (hc pins s σ H _ I h) λd s1 ⟨H1,I1,q1⟩=>?_);cases d with
 |true=>exact ha pins s1 σ H1 D I1 q1
 |false=>exact hb pins s1 σ H1 D I1 q1
def Sj:TS:=λ_ _ _=>False
theorem ps_never:PS X st Sj:=λ_ _ _ _ _ _ h=>h.elim
end
abbrev TG:=V->St->Hp->(St->Hp->Prop)->Prop
abbrev TGs:=List V->St->Hp->(St->Hp->Prop)->Prop
def PG(X:Cx)(target:Expr)(t:TG):Prop:=
 ∀(pins:List (Addr×Obj)) (s:X1) (σ:St) (H:Hp) (v:V) (u:X0) (Q:St->Hp->Prop),Inv X pins σ H s->RelV v u->t v σ H Q->
  X3 (X6 X.prog X.w) X.A (assign target X.env u) (λ_ s'=>∃σ' H',Inv X pins σ' H' s'/\Q σ' H') X.xe s
def PGs(X:Cx)(ts:List Expr)(t:TGs):Prop:=
 ∀(pins:List (Addr×Obj)) (s:X1) (σ:St) (H:Hp) (vs:List V) (us:List X0) (Q:St->Hp->Prop),Inv X pins σ H s->Vals vs us->t vs σ H Q->
  X3 (X6 X.prog X.w) X.A (assignInOrder ((ZQ ts X.env).map (·.2)) us) (λ_ s'=>∃σ' H',Inv X pins σ' H' s'/\Q σ' H') X.xe s
abbrev TSet:=V->V->V->Hp->(Hp->Prop)->Prop
def PSet(X:Cx)(t:TSet):Prop:=
 ∀(pins:List (Addr×Obj)) (s:X1) (σ:St) (H:Hp) (o i v:V) (ov iv u:X0) (Q:Hp->Prop),Inv X pins σ H s->RelV o ov->RelV i iv->RelV v u->t o i v H Q->
  X3 (X6 X.prog X.w) X.A (setItem ov iv u) (λ_ s'=>∃H',Inv X pins σ H' s'/\Q H') X.xe s
section
variable{X:Cx}{pos:Pos}
def Cw(i:Nat):TG:=λv σ H Q=>Q (σ.set i (some v)) H
theorem Ic{i:Nat}{x:Str}(hN:X.N.Nodup)(hi:X.N[i]?=some x) (hx:Loc X.env.scope x) (hf:X.fn x=true\/X.env.scope.names.lookup x=some .local:=by first|exact .inl rfl|exact .inr rfl|assumption):PG X (.Name x pos) (Cw i):=by
 intro pins s σ H v u Q I r h;exact wpAny_assign_Name (I0 I hN hi hx r (λs' I'=>⟨_,H,I',h⟩) hf)
def gNil:TGs:=λvs σ H Q=>vs=[]/\Q σ H
def Id(t:TG)(u:TGs):TGs:=λvs σ H Q=>∃v r,vs=v::r/\t v σ H λσ' H'=>u r σ' H' Q
theorem Sk:PGs X [] gNil:=by
 intro pins s σ H vs us Q I r h;obtain⟨e,h⟩:=h;subst e;cases r;exact assignInOrder_nil ⟨σ,H,I,h⟩
theorem Sl{e:Expr}{es:List Expr}{t:TG}{u:TGs}(h1:PG X e t)(h2:PGs X es u)
  (hs:(ZQ (e::es) X.env).map (·.2)=assign e X.env::(ZQ es X.env).map (·.2):=by rfl):PGs X (e::es) (Id t u):=by
 intro pins s σ H vs us Q I r h;obtain⟨v,vr,e1,h⟩:=h;subst e1;cases r with
 |cons r rr=>
  rw[hs];refine assignInOrder_cons (thn (h1 pins s σ H _ _ _ I r h) λ_ s1 ⟨σ1,H1,I1,q1⟩=>?_);exact h2 pins s1 σ1 H1 _ _ Q I1 rr q1
def gTup(K:X5)(n:Nat)(t:TGs):TG:=λv σ H Q=>∃a xs,v=.ref a/\SqT K H a xs/\xs.length=n/\t xs σ H Q
theorem Sn{es:List Expr}{k:Nat}{t:TGs}{n:Nat}(hc:X.calm=true)(h:PGs X es t)
  (hn:(ZQ es X.env).length=n:=by rfl) (hst:(ZQ es X.env).findIdx? (·.1)=none:=by rfl):PG X (.Tuple es k pos) (gTup X.K n t):=by
 intro pins s σ H v u Q I r hw;obtain⟨a,xs,e1,hq,hl,hw⟩:=hw;subst e1;cases r;obtain⟨its,rv,ht,hz⟩:=I.tuple hq;refine assign_Tuple_tuple (I.ok.hd hc) ht (by simp[hn,<- hl,rv.length]) hst λh' hx=>?_
 have I1:Inv X pins σ H {s with heap:=h'}:=I.kept (t':=s.toks) λb o e=>hx b o (XG (XA e)) e;exact h pins _ σ H xs _ Q I1 (by simpa using rv) hw
def gSub(to ti:TE)(t:TSet):TG:=λv σ H Q=>to σ H λo H1=>ti σ H1 λi H2=>t o i v H2 λH3=>Q σ H3
theorem So{o i:Expr}{to ti:TE}{t:TSet}(ho:PE X o to)(hi:PE X i ti)(hs:PSet X t)
  (ha:∀v,assign (.Subscript o i pos) X.env v=(do
   let ov<- Z9 [v] (eval o X.env)
   let iv<- Z9 [v,ov] (eval i X.env)
   standAt pos
   Z9 [v,ov,iv] (setItem ov iv v)
   release [v,ov,iv] []):=by intro _;rfl):PG X (.Subscript o i pos) (gSub to ti t):=by
 intro pins s σ H v u Q I r h;rw[ha];refine X2 (YL (thn (ho pins s σ H _ I h) λov s1 ⟨x,H1,I1,r1,q1⟩=>?_));refine X2 (YL (thn (hi pins s1 σ H1 _ I1 q1) λiv s2 ⟨y,H2,I2,r2,q2⟩=>?_));refine X2 (wpAny_standAt (X2 (YL (thn (hs pins s2 σ H2 x y v ov iv u _ I2 r1 r2 r q2) λ_ s3 ⟨H3,I3,q3⟩=>?_))));exact wpAny_release ⟨σ,H3,I3,q3⟩
def tAsg(te:TE)(g:TG):TS:=λD σ H=>te σ H λx H1=>g x σ H1 D.nx
theorem Ie{tg e:Expr}{te:TE}{g:TG}(he:PE X e te)(hg:PG X tg g)(hs:swapsWithSole [tg] e pos.line X.env=pure false:=by rfl)(hw:swappedStores [tg] e X.env=pure none:=by rfl)
  (h1:(ZQ [tg] X.env).map (·.2)=[assign tg X.env]:=by rfl):PS X (.Assign [tg] e pos) (tAsg te g):=by
 intro pins s σ H D I h;refine wpAny_Assign_stores (thn (he pins s σ H _ I h) λv s1 ⟨x,H1,I1,r1,q1⟩=>?_) hs hw;rw[h1];exact thn (hg pins s1 σ H1 x v _ I1 r1 q1) λ_ s2 q=>q
theorem Ig{i:Nat}{x:Str}{e:Expr}{te:TE}{pos':Pos}(hN:X.N.Nodup)(hi:X.N[i]?=some x) (hx:Loc X.env.scope x) (he:PE X e te) (hs:ZP e (some (.Name x pos')) pos.line X.env=pure false:=by rfl) (hf:X.fn x=true\/X.env.scope.names.lookup x=some .local:=by first|exact .inl rfl|exact .inr rfl|assumption):
  PS X (.Assign [.Name x pos'] e pos) (tAsg te (Cw i)):=by
 intro pins s σ H D I h;refine wpAny_Assign_Name (thn (he pins s σ H _ I h) λv s1 ⟨y,H1,I1,r1,q1⟩=>?_) hs;exact I0 I1 hN hi hx r1 (λs2 I2=>⟨_,H1,I2,q1⟩) hf
end
section
variable{X:Cx}{pos:Pos}
def Sq(c:TT)(tb:TS):TS:=λD σ H=>∃W:Nat->St->Hp->Prop,(∃m,W m σ H)/\∀m σ H,W m σ H->
 c σ H λb H1=>if b=true then∃N:St->Hp->Prop,(∀σ' H',N σ' H'->∃m',m'<m/\W m' σ' H')/\tb {D with nx:=N,ct:=N,bk:=D.nx} σ H1 else D.nx σ H1
theorem Sr{c:Expr}{body:List Stmt}{tc:TT}{tb:TS}(hp:PassesOwn (X6 X.prog X.w) X.A X.env X.xe)(hc:PT X c tc)(hb:PSs X body tb):PS X (.While c body [] pos) (Sq tc tb):=by
 intro pins s σ H D I h;obtain⟨W,⟨m0,w0⟩,turn⟩:=h;refine wpAny_While (codeAny_whileLoop (λn s'=>∃σ' H',Inv X pins σ' H' s'/\W n σ' H') ?_ m0 ⟨σ,H,I,w0⟩);rintro n s1 ⟨σ1,H1,I1,w1⟩;refine UW hp (thn (hc pins s1 σ1 H1 _ I1 (turn n σ1 H1 w1)) λb s2 ⟨H2,I2,q2⟩=>?_);cases b with
 |true=>
  obtain⟨N,hN,q2⟩:=q2;rw[if_pos rfl];refine UW hp (thn (hb pins s2 σ1 H2 _ I2 q2) λf s3 q3=>?_);cases f with
  |next=>
   obtain⟨σ3,H3,I3,n3⟩:=q3;obtain⟨m',hm,w3⟩:=hN σ3 H3 n3;exact⟨m',hm,σ3,H3,I3,w3⟩
  |cont=>
   obtain⟨σ3,H3,I3,n3⟩:=q3;obtain⟨m',hm,w3⟩:=hN σ3 H3 n3;exact⟨m',hm,σ3,H3,I3,w3⟩
  |brk=>exact q3
  |ret v=>exact q3
 |false=>
  rw[if_neg XC];exact wpAny_execs_nil ⟨σ1,H2,I2,q2⟩
end
structure It where
 go:Nat->Hp->Prop
 yld:Nat->Hp->V->Hp->Prop
 stop:Nat->Hp->Prop
def FpOk(X:Cx)(pins:List (Addr×Obj))(H:Hp)(b:Addr):Prop:=
 H b=none/\b≠X.env.locals/\b∉X.fs/\(b∈X.ex\/X.s₀.heap.objs.size≤b)/\(∀x c,X.env.cells.lookup x=some c->c≠b)/\∀p∈X.pn++pins,p.1≠b
theorem Inv.fpOk{X:Cx}{pins:List (Addr×Obj)}{σ:St}{H H':Hp}{s:X1}{b:Addr}(I:Inv X pins σ H s)(hb:s.heap.objs.size≤b)(hn:H' b=none):FpOk X pins H' b:=by
 refine⟨hn,V5 (YG I.lt hb),I.nofs hb,.inr (Y8 I.sz hb),λx c e z=>?_,λp hp z=>?_⟩
 ·obtain⟨v,q⟩:=I.cell x c e;exact absurd (YG q.lt (by rw[z];exact hb)) (V4 _)
 ·exact absurd (YG (XA (I.pin p hp).1) (by rw[z];exact hb)) (V4 _)
structure Turn (P:Xk) (w:Xh) (K:X5) (tg:Expr) (J:It) (fp:List Addr) (it:Addr) (tn:Nat->Heap->Prop):Prop where
 mem:it∈fp
 obj:∀i h,tn i h->∀b∈fp,∃o,h.get? b=some o/\∀v,o.data≠.cell v
 keep:∀i h h',tn i h->(∀b∈fp,∀o,h.get? b=some o->h'.get? b=some o)->tn i h'
 item:∀(X:Cx),X.prog=P->X.w=w->X.K=K->X.calm=true->∀(i:Nat) (pins:List (Addr×Obj)) (s:X1) (σ:St) (H:Hp) (E:X0->X1->Prop),Inv X pins σ H s->(∀b∈fp,FpOk X pins H b)->tn i s.heap->J.go i H->
  X3 (X6 P w) X.A (pyNext (.ref it)) (λr s1=>∃u,r=some u/\
   X3 (X6 P w) X.A (BE tg (.ref it) u) (λ_ s2=>∃x H',Inv X pins σ H' s2/\RelV x u/\J.yld i H x H'/\tn (i+1) s2.heap/\∀b∈fp,H' b=none) E s1) E s
 done:∀(X:Cx),X.prog=P->X.w=w->X.K=K->X.calm=true->∀(i:Nat) (pins:List (Addr×Obj)) (s:X1) (σ:St) (H:Hp) (E:X0->X1->Prop),Inv X pins σ H s->(∀b∈fp,FpOk X pins H b)->tn i s.heap->J.stop i H->
  X3 (X6 P w) X.A (pyNext (.ref it)) (λr s1=>r=none/\Inv X pins σ H s1) E s
 self:∀(A:Xt) (i:Nat) (s:X1) (Q:X0->X1->Prop) (E:X0->X1->Prop),tn i s.heap->Q (.ref it) s->X3 (X6 P w) A (pyIter (.ref it)) Q E s
abbrev TI:=St->Hp->(It->Hp->Prop)->Prop
def PIE(X:Cx)(pins:List (Addr×Obj))(σ:St)(tg:Expr)(R:It->Hp->Prop)(itv:X0)(s2:X1):Prop:=
 ∃(it:Addr) (fp:List Addr) (tn:Nat->Heap->Prop) (J:It) (H':Hp),itv=.ref it/\Inv X pins σ H' s2/\Turn X.prog X.w X.K tg J fp it tn/\tn 0 s2.heap/\(∀b∈fp,FpOk X pins H' b)/\R J H'
def PI(X:Cx)(tg iter:Expr)(wi:TI):Prop:=
 ∀(pins:List (Addr×Obj)) (s:X1) (σ:St) (H:Hp) (R:It->Hp->Prop),Inv X pins σ H s->wi σ H R->
  X3 (X6 X.prog X.w) X.A (eval iter X.env) (λv s1=>X3 (X6 X.prog X.w) X.A (pyIter v) (PIE X pins σ tg R) X.xe s1) X.xe s
theorem Vd{M:Model}{A:Xt}{E:X0->X1->Prop}{s:X1}{tg:Expr}{it:Addr}{u:X0}{o:Obj}{n:String}{vs:Array X0}{Q:Unit->X1->Prop}(ho:s.heap.get? it=some o)(hc:o.cls=.type n)(hd:o.data=.fields vs)
  (hn:["enumerate","zip","dict_itemiterator","dict_reverseitemiterator","odict_iterator","itertools.zip_longest","itertools.pairwise"].contains n=false) (hQ:Q () s):X3 M A (BE tg (.ref it) u) Q E s:=by
 unfold BE;cases tg<;>first
  |exact X8 hQ
  |(cases u<;>first
    |exact X8 hQ
    |(refine X2 (Vv ho ?_)
      rw[hc,hd];show X3 M A (if(["enumerate","zip","dict_itemiterator","dict_reverseitemiterator","odict_iterator","itertools.zip_longest","itertools.pairwise"].contains n&&vs[0]?==some (Y9 _))=true then _ else _) Q E s;rw[if_neg (by intro h;rw[hn,WJ]at h;cases h)]
      exact X8 hQ))
def Itl(K:X5)(a:Addr):It:=
 ⟨λi H=>∃xs x,SqL K H a xs/\xs[i]?=some x,λi H x H'=>H'=H/\∀xs,SqL K H a xs->xs[i]?=some x,λi H=>∃xs,SqL K H a xs/\xs.length≤i⟩
def Itt(K:X5)(a:Addr):It:=
 ⟨λi H=>∃xs x,SqT K H a xs/\xs[i]?=some x,λi H x H'=>H'=H/\∀xs,SqT K H a xs->xs[i]?=some x,λi H=>∃xs,SqT K H a xs/\xs.length≤i⟩
def Itr(lo:Int)(n:Nat):It:=⟨λi _=>i<n,λi H x H'=>H'=H/\x=.int (lo+i),λi _=>n≤i⟩
theorem Su{P:Xk}{w:Xh}{K:X5}{tg:Expr}(a it:Addr):Turn P w K tg (Itl K a) [it] it (λi h=>h.IsListIter it a i)where
 mem:=by simp
 obj:=λi h st b hb=>by
  have e:b=it:=by simpa using hb
  subst e;obtain⟨o,e,c,d⟩:=st;exact⟨o,e,λv z=>by rw[d]at z;cases z⟩
 keep:=λi h h' st k=>st.at λo e=>k it (by simp) o e
 item:=by
  intro X hP hw hK hc i pins s σ H E I hf st hg;subst hP hw hK;obtain⟨xs,x,hq,hx⟩:=hg;obtain⟨its,rv,p,hz⟩:=I.list hq;obtain⟨u,hu,ru⟩:=rv.get hx;obtain⟨f0,f1,f2,f3,f4,f5⟩:=hf it (by simp)
  refine wpAny_pyNext_list_item st p.isList (x:=u) (by simpa using hu) λh' st' sb=>?_
  have I1:Inv X pins σ H {s with heap:=h'}:=I.turned (t':=s.toks) (λb o hb e=>(sb.2 b hb).trans e) f0 f1 f3 f4 f5;obtain⟨o,e,c,d⟩:=id st';exact⟨u,rfl,Vd (s:={s with heap:=h'}) e c d (by decide) ⟨x,H,I1,ru,⟨rfl,λys hy=>by rw[I.list_inj hy hq];exact hx⟩,st',λb hb=>(hf b hb).1⟩⟩
 done:=by
  intro X hP hw hK hc i pins s σ H E I hf st hg;subst hP hw hK;obtain⟨xs,hq,hx⟩:=hg;obtain⟨its,rv,p,hz⟩:=I.list hq;obtain⟨f0,f1,f2,f3,f4,f5⟩:=hf it (by simp)
  have hl:=rv.length;exact wpAny_pyNext_list_end (I.ok.hd hc) st p.isList (by simp;lia) λh' eb=>⟨rfl,I.turned (t':=s.toks) (λb o hb e=>eb b o hb e) f0 f1 f3 f4 f5⟩
 self:=λ_ _ _ _ _ st h=>wpAny_pyIter_listiter st h
theorem Sv{P:Xk}{w:Xh}{K:X5}{tg:Expr}(a it:Addr):Turn P w K tg (Itt K a) [it] it (λi h=>h.IsTupleIter it a i)where
 mem:=by simp
 obj:=λi h st b hb=>by
  have e:b=it:=by simpa using hb
  subst e;obtain⟨o,e,c,d⟩:=st;exact⟨o,e,λv z=>by rw[d]at z;cases z⟩
 keep:=λi h h' st k=>st.at λo e=>k it (by simp) o e
 item:=by
  intro X hP hw hK hc i pins s σ H E I hf st hg;subst hP hw hK;obtain⟨xs,x,hq,hx⟩:=hg;obtain⟨its,rv,p,hz⟩:=I.tuple hq;obtain⟨u,hu,ru⟩:=rv.get hx;obtain⟨f0,f1,f2,f3,f4,f5⟩:=hf it (by simp)
  refine wpAny_pyNext_tuple_item st (show s.heap.IsTuple a its.toArray from p) (x:=u) (by simpa using hu) λh' st' sb=>?_
  have I1:Inv X pins σ H {s with heap:=h'}:=I.turned (t':=s.toks) (λb o hb e=>(sb.2 b hb).trans e) f0 f1 f3 f4 f5;obtain⟨o,e,c,d⟩:=id st';exact⟨u,rfl,Vd (s:={s with heap:=h'}) e c d (by decide) ⟨x,H,I1,ru,⟨rfl,λys hy=>by rw[I.tuple_inj hy hq];exact hx⟩,st',λb hb=>(hf b hb).1⟩⟩
 done:=by
  intro X hP hw hK hc i pins s σ H E I hf st hg;subst hP hw hK;obtain⟨xs,hq,hx⟩:=hg;obtain⟨its,rv,p,hz⟩:=I.tuple hq;obtain⟨f0,f1,f2,f3,f4,f5⟩:=hf it (by simp)
  have hl:=rv.length;exact wpAny_pyNext_tuple_end (I.ok.hd hc) st (show s.heap.IsTuple a its.toArray from p) (by simp;lia) λh' eb=>⟨rfl,I.turned (t':=s.toks) (λb o hb e=>eb b o hb e) f0 f1 f3 f4 f5⟩
 self:=λ_ _ _ _ _ st h=>wpAny_pyIter_tupleiter st h
theorem Sw{P:Xk}{w:Xh}{K:X5}{tg:Expr}(it:Addr)(lo:Int)(n:Nat):Turn P w K tg (Itr lo n) [it] it (λi h=>IsRangeIter h it (lo+(i:Nat)*1) ((n:Int) - (i:Nat)) 1)where
 mem:=by simp
 obj:=λi h st b hb=>by
  have e:b=it:=by simpa using hb
  subst e;exact⟨_,st,λv z=>by
   have z':ZX _=Data.cell v:=z;cases z'⟩
 keep:=λi h h' st k=>k it (by simp) _ st
 item:=by
  intro X hP hw hK hc i pins s σ H E I hf st hg;subst hP hw hK;obtain⟨f0,f1,f2,f3,f4,f5⟩:=hf it (by simp)
  have W:=Walks.range (prog:=X.prog) (w:=X.w) (I.ok.hd hc) it lo 1 n;refine W.item i s _ _ hg st λv h' tk hv st' kk=>?_;obtain⟨t,rfl⟩:=hv;have I1:Inv X pins σ H {s with heap:=h',toks:=tk}:=I.turned (λb o hb e=>kk b o (by simpa using hb) e) f0 f1 f3 f4 f5
  refine⟨_,rfl,Vd (s:={s with heap:=h',toks:=tk}) (n:="range_iterator") st' rfl rfl (by decide) ⟨.int (lo+i),H,I1,⟨t,?_⟩,⟨rfl,rfl⟩,st',fun b hb=>(hf b hb).1⟩⟩
  rw[Int.mul_one]
 done:=by
  intro X hP hw hK hc i pins s σ H E I hf st hg;subst hP hw hK;obtain⟨f0,f1,f2,f3,f4,f5⟩:=hf it (by simp)
  exact wpAny_pyNext_range_end (I.ok.hd hc) st (by have:n≤i:=hg;lia) λh' eb=>⟨rfl,I.turned (t':=s.toks) (λb o hb e=>eb b o hb e) f0 f1 f3 f4 f5⟩
 self:=λ_ _ _ _ _ st h=>wpAny_pyIter_rangeiter st h
section
variable{X:Cx}{tg:Expr}
theorem Ih{pins:List (Addr×Obj)}{σ:St}{H:Hp}{s:X1}{R:It->Hp->Prop}{E:X0->X1->Prop}{lo hi:Int}{t u v:Tok}{tk:Nat}(I:Inv X pins σ H s)(h1:-(2^62)≤lo)(h2:lo<2^62)(h3:-(2^62)≤hi)(h4:hi<2^62)
  (q:R (Itr lo (hi - lo).toNat) H):X3 (X6 X.prog X.w) X.A (pyIter (.ref s.heap.objs.size)) (PIE X pins σ tg R) E {s with heap:=s.heap.push {cls:=.type "range",data:=.fields #[.int lo t,.int hi u,.int 1 v]},toks:=tk}:=by
 refine wpAny_pyIter_range (Eg ..) (small_one h1 h2 h3 h4) ?_;have I1:Inv X pins σ H {s with heap:=s.heap.push {cls:=.type "range",data:=.fields #[.int lo t,.int hi u,.int 1 v]},toks:=tk}:=I.kept fun b o e=>Xu _ e;refine⟨(s.heap.push {cls:=.type "range",data:=.fields #[.int lo t,.int hi u,.int 1 v]}).objs.size,[(s.heap.push {cls:=.type "range",data:=.fields #[.int lo t,.int hi u,.int 1 v]}).objs.size],_,_,H,rfl,
  I1.kept (t':=tk) λb o e=>Xu _ e,Sw _ lo (hi - lo).toNat,?_,λb hb=>?_,q⟩
 ·have e1:lo+((0:Nat):Int)*1=lo:=by simp
  have e2:(((hi - lo).toNat:Nat):Int) - ((0:Nat):Int)=VX lo hi 1:=by rw[rangeSize_one];split<;>lia
  show IsRangeIter _ _ (lo+((0:Nat):Int)*1) ((((hi - lo).toNat:Nat):Int) - ((0:Nat):Int)) 1;rw[e1,e2];exact XS _ rfl
 ·have e:b=(s.heap.push {cls:=.type "range",data:=.fields #[.int lo t,.int hi u,.int 1 v]}).objs.size:=by simpa using hb
  subst e;exact I1.fpOk (Xi _) (I1.hok.fresh (Xi _))
def Sx(ta:TA):TI:=λσ H R=>ta σ H λvs H1=>∃j:Int,vs=[.int j]/\ -(2^62)≤j/\j<2^62/\R (Itr 0 j.toNat) H1
def Sy(ta:TA):TI:=λσ H R=>ta σ H λvs H1=>∃i j:Int,vs=[.int i,.int j]/\(-(2^62)≤i/\i<2^62/\ -(2^62)≤j/\j<2^62)/\R (Itr i (j - i).toNat) H1
theorem Sz{a:Expr}{ta:TA}{p pos:Pos}(hg:Gl X "range")(hm:X.mg "range"=none)(ha:PA X [a] ta)(hs:XB [a] X.env=[(false,eval a X.env)]:=by rfl):PI X tg (.Call (.Name "range" p) [a] [] pos) (Sx ta):=by
 intro pins s σ H R I h;refine Call_ (ZZ I hg hm boot_range (Va (thn (ha pos pins s σ H _ I h) λus s1 ⟨vs,H1,I1,r1,q1⟩=>?_) hs rfl));obtain⟨j,e,q1,q2,q⟩:=q1;subst e;cases r1 with
 |cons r rr=>
  cases rr;obtain⟨t,rfl⟩:=r;exact call_range_1 (Ih I1 (by lia) (by lia) q1 q2 (by simpa using q))
theorem SA{a b:Expr}{ta:TA}{p pos:Pos}(hg:Gl X "range")(hm:X.mg "range"=none)(ha:PA X [a,b] ta)(hs:XB [a,b] X.env=[(false,eval a X.env),(false,eval b X.env)]:=by rfl)(hs2:XB [b] X.env=[(false,eval b X.env)]:=by rfl):
  PI X tg (.Call (.Name "range" p) [a,b] [] pos) (Sy ta):=by
 intro pins s σ H R I h;refine Call_ (ZZ I hg hm boot_range (Va (thn (ha pos pins s σ H _ I h) λus s1 ⟨vs,H1,I1,r1,q1⟩=>?_) (by rw[hs,hs2]) (by rw[hs2];rfl)))
 obtain⟨i,j,e,⟨q1,q2,q3,q4⟩,q⟩:=q1;subst e;cases r1 with
 |cons r rr=>
  cases rr with
  |cons r' rr=>
   cases rr;obtain⟨t,rfl⟩:=r;obtain⟨t',rfl⟩:=r';exact call_range_2 (Ih I1 q1 q2 q3 q4 q)
def tFor(wi:TI)(g:TG)(tb:TS):TS:=λD σ H=>wi σ H λJ H1=>∃W:Nat->Nat->St->Hp->Prop,(∃m,W 0 m σ H1)/\∀i m σ H,W i m σ H->
 (J.stop i H/\D.nx σ H)\/(J.go i H/\∃N:St->Hp->Prop,(∀σ' H',N σ' H'->∃m',m'<m/\W (i+1) m' σ' H')/\∀x H',J.yld i H x H'->g x σ H' λσ2 H2=>tb {D with nx:=N,ct:=N,bk:=D.nx} σ2 H2)
def W4(fp:List Addr)(h:Heap):List (Addr×Obj):=fp.filterMap λb=>(h.get? b).map λo=>(b,o)
theorem Cy{fp:List Addr}{h:Heap}{b:Addr}{o:Obj}(hb:b∈fp)(e:h.get? b=some o):(b,o)∈W4 fp h:=List.mem_filterMap.mpr ⟨b,hb,by rw[e];rfl⟩
theorem SC{fp:List Addr}{h:Heap}{p:Addr×Obj}(hp:p∈W4 fp h):p.1∈fp/\h.get? p.1=some p.2:=by
 obtain⟨b,hb,e⟩:=List.mem_filterMap.mp hp;cases q:h.get? b with
 |none=>rw[q]at e;cases e
 |some o=>
  rw[q]at e;have e':(b,o)=p:=YD e;subst e';exact⟨hb,q⟩
theorem Inv.pinned{pins:List (Addr×Obj)}{σ:St}{H:Hp}{s:X1}{fp:List Addr}(I:Inv X pins σ H s)(hf:∀b∈fp,FpOk X pins H b)(ho:∀b∈fp,∃o,s.heap.get? b=some o/\∀v,o.data≠.cell v):Inv X (pins++W4 fp s.heap) σ H s:=
 I.pins_of λp hp=>(YN.mp hp).elim (λz=>I.pin p (ZT _ z)) λz=>by
  obtain⟨hb,e⟩:=SC z;obtain⟨f0,f1,f2,_⟩:=hf p.1 hb;obtain⟨o,e',d⟩:=ho p.1 hb;rw[e]at e';cases e';exact⟨e,f0,f1,f2,d⟩
theorem Inv.unpinned{pins pl:List (Addr×Obj)}{σ:St}{H:Hp}{s:X1}(I:Inv X (pins++pl) σ H s):Inv X pins σ H s:=I.pins_of λp hp=>I.pin p (ZT _ (List.mem_append_left _ hp))
theorem SD{iter:Expr}{body:List Stmt}{wi:TI}{g:TG}{tb:TS}{pos:Pos}(hp:PassesOwn (X6 X.prog X.w) X.A X.env X.xe)(hc:X.calm=true)(hi:PI X tg iter wi)(hg:PG X tg g)(hb:PSs X body tb)
  (hs:∀x,BF iter X.env x=pure x:=by intro _;rfl):PS X (.For tg iter body [] pos) (tFor wi g tb):=by
 intro pins s σ H D I h;refine wpAny_For (thn (hi pins s σ H _ I h) λv s1 h1=>thn h1 λitv s2 h2=>?_) hs;obtain⟨it,fp,tn,J,H2,e,I2,T,st2,f2,W,⟨m0,w0⟩,turn⟩:=h2;subst e;have stat:∀{H':Hp},(∀b∈fp,H' b=none)->∀b∈fp,FpOk X pins H' b:=λhn b hb=>⟨hn b hb,(f2 b hb).2⟩;refine codeAny_forLoop_any (λn s'=>∃i σ' H',Inv X pins σ' H' s'/\tn i s'.heap/\(∀b∈fp,H' b=none)/\W i n σ' H') ?_ m0 ⟨0,σ,H2,I2,st2,λb hb=>(f2 b hb).1,w0⟩;rintro n s3 ⟨i,σ3,H3,I3,st3,fr3,w3⟩;rcases turn i n σ3 H3 w3 with⟨stop,qn⟩|⟨go,N,hN,step⟩
 ·refine UW hp (thn (T.done X rfl rfl rfl hc i pins s3 σ3 H3 X.xe I3 (stat fr3) st3 stop) λr s4 ⟨hr,I4⟩=>?_);subst hr;exact wpAny_execs_nil ⟨σ3,H3,I4,qn⟩
 ·refine UW hp (thn (T.item X rfl rfl rfl hc i pins s3 σ3 H3 X.xe I3 (stat fr3) st3 go) λr s4 ⟨u,hr,h4⟩=>?_);subst hr;refine UW hp (thn h4 λ_ s5 ⟨x,H5,I5,r5,y5,st5,fr5⟩=>?_);have I5':=I5.pinned (stat fr5) (T.obj _ _ st5);refine UW hp (thn (hg _ s5 σ3 H5 x u _ I5' r5 (step x H5 y5)) λ_ s6 ⟨σ6,H6,I6,q6⟩=>?_);refine UW hp (thn (hb _ s6 σ6 H6 _ I6 q6) λf s7 q7=>?_);have again:∀{σ7:St} {H7:Hp},Inv X (pins++W4 fp s5.heap) σ7 H7 s7->N σ7 H7->∃m,m<n/\∃i σ' H',Inv X pins σ' H' s7/\tn i s7.heap/\(∀b∈fp,H' b=none)/\W i m σ' H':=fun{σ7 H7} I7 n7=>by
   obtain⟨m',hm,w7⟩:=hN σ7 H7 n7;refine⟨m',hm,i+1,σ7,H7,I7.unpinned,T.keep _ _ _ st5 λb hb o e=>(I7.pin (b,o) (ZT _ (ZT _ (Cy hb e)))).1,λb hb=>?_,w7⟩;obtain⟨o,e,d⟩:=T.obj _ _ st5 b hb;exact(I7.pin (b,o) (ZT _ (ZT _ (Cy hb e)))).2.1
  cases f with
  |next=>obtain⟨σ7,H7,I7,n7⟩:=q7;exact again I7 n7
  |cont=>obtain⟨σ7,H7,I7,n7⟩:=q7;exact again I7 n7
  |brk=>obtain⟨σ7,H7,I7,q7⟩:=q7;exact⟨σ7,H7,I7.unpinned,q7⟩
  |ret v=>obtain⟨x7,σ7,H7,I7,r7,q7⟩:=q7;exact⟨x7,σ7,H7,I7.unpinned,r7,q7⟩
end
abbrev R2:=V->V->Hp->VK->Prop
def OpR(X:Cx)(f:X0->X0->Sem X0)(r:R2):Prop:=
 ∀(pins:List (Addr×Obj)) (s:X1) (σ:St) (H:Hp) (x y:V) (v u:X0) (Q:VK),Inv X pins σ H s->RelV x v->RelV y u->r x y H Q->
  X3 (X6 X.prog X.w) X.A (f v u) (EP X pins σ Q) X.xe s
def UnR(X:Cx)(f:X0->Sem X0)(r:V->Hp->VK->Prop):Prop:=
 ∀(pins:List (Addr×Obj)) (s:X1) (σ:St) (H:Hp) (x:V) (v:X0) (Q:VK),Inv X pins σ H s->RelV x v->r x H Q->
  X3 (X6 X.prog X.w) X.A (f v) (EP X pins σ Q) X.xe s
def CallR(X:Cx)(f:X0)(r:List V->Hp->VK->Prop):Prop:=
 ∀(pins:List (Addr×Obj)) (s:X1) (σ:St) (H:Hp) (xs:List V) (us:List X0) (Q:VK),Inv X pins σ H s->Vals xs us->r xs H Q->
  X3 (X6 X.prog X.w) X.A (call f us) (EP X pins σ Q) X.xe s
def tOp(r:R2)(ta tb:TE):TE:=λσ H Q=>ta σ H λx H1=>tb σ H1 λy H2=>r x y H2 Q
def tUn(r:V->Hp->VK->Prop)(ta:TE):TE:=λσ H Q=>ta σ H λx H1=>r x H1 Q
def rI(C:Int->Int->Prop)(g:Int->Int->V):R2:=λx y H Q=>∃i j,x=.int i/\y=.int j/\C i j/\Q (g i j) H
def rI0(g:Int->Int->V):R2:=λx y H Q=>∃i j,x=.int i/\y=.int j/\Q (g i j) H
def rU(g:Int->V):V->Hp->VK->Prop:=λx H Q=>∃i,x=.int i/\Q (g i) H
section
variable{X:Cx}{a b c:Expr}{ta tb tc:TE}{pos:Pos}
theorem binT(ha:PE X a ta)(hb:PE X b tb){pins:List (Addr×Obj)}{s:X1}{σ:St}{H:Hp}{R:V->V->Hp->Prop}(I:Inv X pins σ H s)
  (h:ta σ H λx H1=>tb σ H1 λy H2=>R x y H2) {Q:X0->X1->Prop} {f:X0->X0->Sem X0}
  (hf:∀v u s2 x y H2,Inv X pins σ H2 s2->RelV x v->RelV y u->R x y H2->X3 (X6 X.prog X.w) X.A (f v u) Q X.xe s2):
  X3 (X6 X.prog X.w) X.A (eval a X.env) (λv s₁=>X3 (X6 X.prog X.w) X.A (eval b X.env) (λu s₂=>X3 (X6 X.prog X.w) X.A (f v u) Q X.xe s₂) X.xe s₁) X.xe s:=by
 refine thn (ha pins s σ H _ I h) λv s1 ⟨x,H1,I1,r1,q1⟩=>?_;refine thn (hb pins s1 σ H1 _ I1 q1) λu s2 ⟨y,H2,I2,r2,q2⟩=>?_;exact hf v u s2 x y H2 I2 r1 r2 q2
theorem SE{op:Ud}{r:R2}(ho:OpR X (Yy op) r)(ha:PE X a ta)(hb:PE X b tb):PE X (.BinOp a op b pos) (tOp r ta tb):=by
 intro pins s σ H Q I h;exact wpAny_BinOp (binT ha hb I h λv u s2 x y H2 I2 rx ry q=>ho pins s2 σ H2 x y v u Q I2 rx ry q)
theorem SF{op:UnaryOp}{r:V->Hp->VK->Prop}(ho:UnR X (unaryOp op) r)(ha:PE X a ta):PE X (.UnaryOp op a pos) (tUn r ta):=by
 intro pins s σ H Q I h;exact UnaryOp_ (thn (ha pins s σ H _ I h) λv s1 ⟨x,H1,I1,r1,q1⟩=>ho pins s1 σ H1 x v Q I1 r1 q1)
theorem opI{f:X0->X0->Sem X0}{C:Int->Int->Prop}{g:Int->Int->Int}
  (rule:∀(i j:Int) (t u:Tok) (s:X1) (Q:X0->X1->Prop) (E:X0->X1->Prop),C i j->Q (.int (g i j) s.toks) {s with toks:=s.toks+1}->X3 (X6 X.prog X.w) X.A (f (.int i t) (.int j u)) Q E s):
  OpR X f (rI C λi j=>.int (g i j)):=by
 intro pins s σ H x y v u Q I rx ry h;obtain⟨i,j,rfl,rfl,hc,q⟩:=h;obtain⟨t,rfl⟩:=rx;obtain⟨t',rfl⟩:=ry;exact rule i j t t' s _ _ hc ⟨.int (g i j),H,I.tok _,⟨_,rfl⟩,q⟩
theorem opI0{f:X0->X0->Sem X0}{g:Int->Int->Int}
  (rule:∀(i j:Int) (t u:Tok) (s:X1) (Q:X0->X1->Prop) (E:X0->X1->Prop),Q (.int (g i j) s.toks) {s with toks:=s.toks+1}->X3 (X6 X.prog X.w) X.A (f (.int i t) (.int j u)) Q E s):
  OpR X f (rI0 λi j=>.int (g i j)):=by
 intro pins s σ H x y v u Q I rx ry h;obtain⟨i,j,rfl,rfl,q⟩:=h;obtain⟨t,rfl⟩:=rx;obtain⟨t',rfl⟩:=ry;exact rule i j t t' s _ _ ⟨.int (g i j),H,I.tok _,⟨_,rfl⟩,q⟩
theorem opB0{f:X0->X0->Sem X0}{g:Int->Int->Bool}
  (rule:∀(i j:Int) (t u:Tok) (s:X1) (Q:X0->X1->Prop) (E:X0->X1->Prop),Q (.bool (g i j)) s->X3 (X6 X.prog X.w) X.A (f (.int i t) (.int j u)) Q E s):
  OpR X f (rI0 λi j=>.bl (g i j)):=by
 intro pins s σ H x y v u Q I rx ry h;obtain⟨i,j,rfl,rfl,q⟩:=h;obtain⟨t,rfl⟩:=rx;obtain⟨t',rfl⟩:=ry;exact rule i j t t' s _ _ ⟨.bl (g i j),H,I,rfl,q⟩
def CPow(i j:Int):Prop:=0≤j/\j≤1000000/\i.natAbs<2^64
def CMul(i j:Int):Prop:=(-(2^64)<i/\i<2^64)\/(-(2^64)<j/\j<2^64)
theorem CMul.ok{i j:Int}(h:CMul i j):IntMulOk i j:=by
 rcases h with⟨h1,h2⟩|⟨h1,h2⟩
 ·exact .of_left (intBits_le_64 h1 h2)
 ·exact .of_right (intBits_le_64 h1 h2)
theorem SG:OpR X (Yy .Add) (rI0 λi j=>.int (i+j)):=opI0 λ_ _ _ _ _ _ _ q=>add_int q
theorem SH:OpR X (Yy .Sub) (rI0 λi j=>.int (i - j)):=opI0 λ_ _ _ _ _ _ _ q=>sub_int q
theorem SI:OpR X (Yy .Mult) (rI CMul λi j=>.int (i*j)):=opI λ_ _ _ _ _ _ _ hc q=>mul_int q hc.ok
theorem SJ:OpR X (Yy .Mod) (rI (λ_ j=>0<j) λi j=>.int (i%j)):=opI λi j _ _ _ _ _ hc q=>by
 have h1:(0:Int)<j:=hc;exact mod_int' (by lia) (by rw[Int.fmod_eq_emod_of_nonneg i (by lia)];exact q)
theorem SK:OpR X (Yy .Pow) (rI CPow λi j=>.int (i^j.toNat)):=opI λ_ _ _ _ _ _ _ hc q=>pow_int_small hc.1 hc.2.1 hc.2.2 q
theorem SL:OpR X (Yy .LShift) (rI CPow λi j=>.int (i*2^j.toNat)):=opI λ_ _ _ _ _ _ _ hc q=>lshift_int_small hc.1 hc.2.1 hc.2.2 q
theorem SM:OpR X (Yy .BitAnd) (rI0 λi j=>.int (Ct i j)):=opI0 λ_ _ _ _ _ _ _ q=>and_int q
theorem SN:OpR X (Yy .BitXor) (rI0 λi j=>.int (Cu i j)):=opI0 λ_ _ _ _ _ _ _ q=>xor_int q
theorem unI{f:X0->Sem X0}{g:Int->Int}
  (rule:∀(i:Int) (t:Tok) (s:X1) (Q:X0->X1->Prop) (E:X0->X1->Prop),Q (.int (g i) s.toks) {s with toks:=s.toks+1}->X3 (X6 X.prog X.w) X.A (f (.int i t)) Q E s):
  UnR X f (rU λi=>.int (g i)):=by
 intro pins s σ H x v Q I rx h;obtain⟨i,rfl,q⟩:=h;obtain⟨t,rfl⟩:=rx;exact rule i t s _ _ ⟨.int (g i),H,I.tok _,⟨_,rfl⟩,q⟩
theorem SO:UnR X (unaryOp .USub) (rU λi=>.int (-i)):=unI λ_ _ _ _ _ q=>neg_int q
end
def scal:V->V->Bool
 |.non,.non=>true|.non,.int _=>true|.int _,.non=>true|.non,.bl _=>true|.bl _,.non=>true|.non,.str _=>true|.str _,.non=>true
 |.int _,.int _=>true|.bl _,.bl _=>true|.str _,.str _=>true|.byt _,.byt _=>true
 |.int _,.str _=>true|.str _,.int _=>true|.bl _,.str _=>true|.str _,.bl _=>true
 |_,_=>false
def rEq:R2:=λx y H Q=>scal x y=true/\Q (.bl (decide (x=y))) H
def rNe:R2:=λx y H Q=>scal x y=true/\Q (.bl (!decide (x=y))) H
theorem Ii{i j:Int}:decide (V.int i=V.int j)=(i==j):=by
 rw[C0];simp
theorem Ij{i j:Bool}:decide (V.bl i=V.bl j)=(i==j):=by
 rw[C0];simp
theorem Ik{i j:Str}:decide (V.str i=V.str j)=(i==j):=by
 rw[C0];simp
theorem Il{i j:Array UInt8}:decide (V.byt i=V.byt j)=(i.toList==j.toList):=by
 rw[C0];cases i;cases j;simp
section
variable{X:Cx}{a b c:Expr}{ta tb tc:TE}{pos:Pos}
theorem XM{pins:List (Addr×Obj)}{σ:St}{H:Hp}{s:X1}{Q:VK}{k k':Bool}(I:Inv X pins σ H s)(q:Q (.bl k) H)(e:k=k'):EP X pins σ Q (.bool k') s:=by
 subst e;exact⟨.bl k,H,I,rfl,q⟩
theorem SQ:OpR X (Y6 .Eq) rEq:=by
 intro pins s σ H x y v u Q I rx ry h;obtain⟨hs,q⟩:=h;cases x with
 |non=>
  cases rx;cases y with
  |non=>cases ry;exact PySem.EqNone.eq_none_none (XM I q (by simp))
  |bl j=>cases ry;exact PySem.EqNone.eq_none_bool (XM I q (by simp))
  |int j=>obtain⟨t',rfl⟩:=ry;exact PySem.EqNone.eq_none_int (XM I q (by simp))
  |str j=>obtain⟨t',rfl⟩:=ry;exact PySem.EqNone.eq_none_str (XM I q (by simp))
  |_=>exact absurd (show false=true from hs) XC
 |bl i=>
  cases rx;cases y with
  |non=>cases ry;exact PySem.EqNone.eq_bool_none (XM I q (by simp))
  |bl j=>cases ry;exact eq_bool (XM I q Ij)
  |str j=>obtain⟨t',rfl⟩:=ry;exact PySem.EqMixed.eq_bool_str (XM I q (by simp))
  |_=>exact absurd (show false=true from hs) XC
 |int i=>
  obtain⟨t,rfl⟩:=rx;cases y with
  |non=>cases ry;exact PySem.EqNone.eq_int_none (XM I q (by simp))
  |int j=>obtain⟨t',rfl⟩:=ry;exact eq_int (XM I q Ii)
  |str j=>obtain⟨t',rfl⟩:=ry;exact PySem.EqMixed.eq_int_str (XM I q (by simp))
  |_=>exact absurd (show false=true from hs) XC
 |str i=>
  obtain⟨t,rfl⟩:=rx;cases y with
  |non=>cases ry;exact PySem.EqNone.eq_str_none (XM I q (by simp))
  |bl j=>cases ry;exact PySem.EqMixed.eq_str_bool (XM I q (by simp))
  |int j=>obtain⟨t',rfl⟩:=ry;exact PySem.EqMixed.eq_str_int (XM I q (by simp))
  |str j=>obtain⟨t',rfl⟩:=ry;exact eq_str (XM I q Ik)
  |_=>exact absurd (show false=true from hs) XC
 |byt i=>
  obtain⟨t,rfl⟩:=rx;cases y with
  |byt j=>obtain⟨t',rfl⟩:=ry;exact PySem.W.eq_bytes (XM I q Il)
  |_=>exact absurd (show false=true from hs) XC
 |_=>cases y<;>exact absurd (show false=true from hs) XC
theorem SR:OpR X (Y6 .NotEq) rNe:=by
 intro pins s σ H x y v u Q I rx ry h;obtain⟨hs,q⟩:=h;cases x with
 |non=>
  cases rx;cases y with
  |non=>cases ry;exact PySem.EqNone.ne_none_none (XM I q (by simp))
  |bl j=>cases ry;exact PySem.EqNone.ne_none_bool (XM I q (by simp))
  |int j=>obtain⟨t',rfl⟩:=ry;exact PySem.EqNone.ne_none_int (XM I q (by simp))
  |str j=>obtain⟨t',rfl⟩:=ry;exact PySem.EqNone.ne_none_str (XM I q (by simp))
  |_=>exact absurd (show false=true from hs) XC
 |bl i=>
  cases rx;cases y with
  |non=>cases ry;exact PySem.EqNone.ne_bool_none (XM I q (by simp))
  |bl j=>cases ry;exact ne_bool (XM I q (congrArg not Ij))
  |str j=>obtain⟨t',rfl⟩:=ry;exact PySem.EqMixed.ne_bool_str (XM I q (by simp))
  |_=>exact absurd (show false=true from hs) XC
 |int i=>
  obtain⟨t,rfl⟩:=rx;cases y with
  |non=>cases ry;exact PySem.EqNone.ne_int_none (XM I q (by simp))
  |int j=>obtain⟨t',rfl⟩:=ry;exact ne_int (XM I q (congrArg not Ii))
  |str j=>obtain⟨t',rfl⟩:=ry;exact PySem.EqMixed.ne_int_str (XM I q (by simp))
  |_=>exact absurd (show false=true from hs) XC
 |str i=>
  obtain⟨t,rfl⟩:=rx;cases y with
  |non=>cases ry;exact PySem.EqNone.ne_str_none (XM I q (by simp))
  |bl j=>cases ry;exact PySem.EqMixed.ne_str_bool (XM I q (by simp))
  |int j=>obtain⟨t',rfl⟩:=ry;exact PySem.EqMixed.ne_str_int (XM I q (by simp))
  |str j=>obtain⟨t',rfl⟩:=ry;exact ne_str (XM I q (congrArg not Ik))
  |_=>exact absurd (show false=true from hs) XC
 |byt i=>
  obtain⟨t,rfl⟩:=rx;cases y with
  |byt j=>obtain⟨t',rfl⟩:=ry;exact PySem.W.ne_bytes (XM I q (congrArg not Il))
  |_=>exact absurd (show false=true from hs) XC
 |_=>cases y<;>exact absurd (show false=true from hs) XC
theorem SS:OpR X (Y6 .Lt) (rI0 λi j=>.bl (decide (i<j))):=opB0 λ_ _ _ _ _ _ _ q=>lt_int q
theorem ST:OpR X (Y6 .LtE) (rI0 λi j=>.bl (decide (i≤j))):=opB0 λ_ _ _ _ _ _ _ q=>le_int q
theorem SU:OpR X (Y6 .Gt) (rI0 λi j=>.bl (decide (j<i))):=opB0 λ_ _ _ _ _ _ _ q=>gt_int q
theorem SV:OpR X (Y6 .GtE) (rI0 λi j=>.bl (decide (j≤i))):=opB0 λ_ _ _ _ _ _ _ q=>ge_int q
theorem SW:OpR X (Y6 .Is) (λx y H Q=>y=.non/\Q (.bl (decide (x=.non))) H):=by
 intro pins s σ H x y v u Q I rx ry h;obtain⟨rfl,q⟩:=h;cases ry;refine is_none_gen (XM I q ?_);cases x<;>first
  |(cases rx;rfl)
  |(obtain⟨t,rfl⟩:=rx;rfl)
theorem SX:OpR X (Y6 .IsNot) (λx y H Q=>y=.non/\Q (.bl (!decide (x=.non))) H):=by
 intro pins s σ H x y v u Q I rx ry h;obtain⟨rfl,q⟩:=h;cases ry;refine isnot_none_gen (XM I q ?_);cases x<;>first
  |(cases rx;rfl)
  |(obtain⟨t,rfl⟩:=rx;rfl)
theorem OpR.or{f:X0->X0->Sem X0}{r r':R2}(h:OpR X f r)(h':OpR X f r'):OpR X f (λx y H Q=>r x y H Q\/r' x y H Q):=by
 intro pins s σ H x y v u Q I rx ry q;rcases q with q|q
 ·exact h pins s σ H x y v u Q I rx ry q
 ·exact h' pins s σ H x y v u Q I rx ry q
theorem SY{op:CmpOp}{r:R2}(ho:OpR X (Y6 op) r)(ha:PE X a ta)(hb:PE X b tb)(hm:behindInMarks op b=false):PE X (.Compare a [op] [b] pos) (tOp r ta tb):=by
 intro pins s σ H Q I h;exact wpAny_Compare1 (binT ha hb I h λv u s2 x y H2 I2 rx ry q=>ho pins s2 σ H2 x y v u Q I2 rx ry q) hm
def Im(t:TE):TT:=λσ H Q=>t σ H λx H'=>∃k,x=.bl k/\Q k H'
theorem SZ{op:CmpOp}{r:R2}(ho:OpR X (Y6 op) r)(ha:PE X a ta)(hb:PE X b tb)(hm:behindInMarks op b=false):PT X (.Compare a [op] [b] pos) (Im (tOp r ta tb)):=by
 intro pins s σ H Q I h;refine wpAny_isTrue_Compare1 (thn (ha pins s σ H _ I h) λv s1 ⟨x,H1,I1,r1,q1⟩=>thn (hb pins s1 σ H1 _ I1 q1) λu s2 ⟨y,H2,I2,r2,q2⟩=>
  thn (ho pins s2 σ H2 x y v u _ I2 r1 r2 q2) λc s3 ⟨z,H3,I3,r3,k,e,q3⟩=>?_) hm
 subst e;cases r3;exact ZO ⟨H3,I3,q3⟩
def Ei(r r':R2)(ta tb tc:TE):TE:=λσ H Q=>ta σ H λx H1=>tb σ H1 λy H2=>r x y H2 λz H3=>∃k,z=.bl k/\
 (if k=true then tc σ H3 λw' H4=>r' y w' H4 Q else Q (.bl false) H3)
theorem T0{op op':CmpOp}{r r':R2}(ho:OpR X (Y6 op) r)(ho':OpR X (Y6 op') r')(ha:PE X a ta)(hb:PE X b tb)(hc:PE X c tc)
  (hm:lastMarks [op,op'] [b,c]=false:=by with_unfolding_all rfl):PE X (.Compare a [op,op'] [b,c] pos) (Ei r r' ta tb tc):=by
 intro pins s σ H Q I h;refine Compare_chain (thn (ha pins s σ H _ I h) λv s1 ⟨x,H1,I1,r1,q1⟩=>chain_link (thn (hb pins s1 σ H1 _ I1 q1) λu s2 ⟨y,H2,I2,r2,q2⟩=>
  thn (ho pins s2 σ H2 x y v u _ I2 r1 r2 q2) λd s3 ⟨z,H3,I3,r3,k,e,q3⟩=>?_)) hm
 subst e;cases r3;refine ZO ?_;cases k with
 |false=>exact ite_ff ⟨.bl false,H3,I3,rfl,q3⟩
 |true=>exact ite_tt (chain_last (thn (hc pins s3 σ H3 _ I3 q3) λw' s4 ⟨z',H4,I4,r4,q4⟩=>ho' pins s4 σ H4 y z' u w' Q I4 r2 r4 q4))
theorem T1{op op':CmpOp}{r r':R2}(ho:OpR X (Y6 op) r)(ho':OpR X (Y6 op') r')(ha:PE X a ta)(hb:PE X b tb)(hc:PE X c tc)
  (hm:lastMarks [op,op'] [b,c]=false:=by with_unfolding_all rfl):PT X (.Compare a [op,op'] [b,c] pos) (Im (Ei r r' ta tb tc)):=by
 intro pins s σ H Q I h;refine isTrue_chain (thn (ha pins s σ H _ I h) λv s1 ⟨x,H1,I1,r1,q1⟩=>test_link (thn (hb pins s1 σ H1 _ I1 q1) λu s2 ⟨y,H2,I2,r2,q2⟩=>
  thn (ho pins s2 σ H2 x y v u _ I2 r1 r2 q2) λd s3 ⟨z,H3,I3,r3,k,e,q3⟩=>?_)) hm
 subst e;cases r3;refine ZO ?_;cases k with
 |false=>
  obtain⟨k',e',q'⟩:=q3;cases e';exact ite_ff ⟨H3,I3,q'⟩
 |true=>
  refine ite_tt (test_last (thn (hc pins s3 σ H3 _ I3 q3) λw' s4 ⟨z',H4,I4,r4,q4⟩=>thn (ho' pins s4 σ H4 y z' u w' _ I4 r2 r4 q4) λd' s5 ⟨z2,H5,I5,r5,k2,e2,q5⟩=>?_));subst e2;cases r5;exact ZO ⟨H5,I5,q5⟩
theorem W5:(sizeLine:Nat)<2^63:=by rw[sizeLine_eq];decide
theorem T2:OpR X (Yy .Add) (λx y H Q=>∃i j,x=.str i/\y=.str j/\i.length+j.length≤sizeLine/\Q (.str (i++j)) H):=by
 intro pins s σ H x y v u Q I rx ry h;obtain⟨i,j,rfl,rfl,hz,q⟩:=h;obtain⟨t,rfl⟩:=rx;obtain⟨t',rfl⟩:=ry;exact add_str (λt' tk=>⟨.str (i++j),H,I.tok _,⟨_,rfl⟩,q⟩) hz
theorem Z1{x:V}{us:List X0}(r:Vals [x] us):∃u,us=[u]/\RelV x u:=by
 cases r with
 |cons r1 r2=>cases r2;exact⟨_,rfl,r1⟩
theorem W6{x y:V}{us:List X0}(r:Vals [x,y] us):∃u w',us=[u,w']/\RelV x u/\RelV y w':=by
 cases r with
 |cons r1 r2=>
  cases r2 with
  |cons r3 r4=>cases r4;exact⟨_,_,rfl,r1,r3⟩
theorem T3:CallR X (.builtin "abs") (fun xs H Q=>∃i,xs=[.int i]/\Q (.int (if i<0 then -i else i)) H):=by
 intro pins s σ H xs us Q I r h;obtain⟨i,rfl,q⟩:=h;obtain⟨u,rfl,t,rfl⟩:=Z1 r;exact call_abs_int λu tk=>⟨.int (if i<0 then -i else i),H,I.tok _,⟨_,rfl⟩,q⟩
theorem T4(hc:X.calm=true):CallR X (.builtin "max") (fun xs H Q=>∃i j,xs=[.int i,.int j]/\Q (.int (if j>i then j else i)) H):=by
 intro pins s σ H xs us Q I r h;obtain⟨i,j,rfl,q⟩:=h;obtain⟨u,w',rfl,⟨t,rfl⟩,⟨t',rfl⟩⟩:=W6 r;refine max_two_ints (I.ok.hd hc) λh' tk k=>⟨_,H,I.kept k,?_,q⟩;by_cases hj:j>i
 ·rw[if_pos hj,if_pos hj];exact⟨_,rfl⟩
 ·rw[if_neg hj,if_neg hj];exact⟨_,rfl⟩
theorem T5(hc:X.calm=true):CallR X (.builtin "min") (fun xs H Q=>∃i j,xs=[.int i,.int j]/\Q (.int (if j<i then j else i)) H):=by
 intro pins s σ H xs us Q I r h;obtain⟨i,j,rfl,q⟩:=h;obtain⟨u,w',rfl,⟨t,rfl⟩,⟨t',rfl⟩⟩:=W6 r;refine min_two_ints (I.ok.hd hc) λh' tk k=>⟨_,H,I.kept k,?_,q⟩;by_cases hj:j<i
 ·rw[if_pos hj,if_pos hj];exact⟨_,rfl⟩
 ·rw[if_neg hj,if_neg hj];exact⟨_,rfl⟩
theorem Io:CallR X (.type "int") (fun xs H Q=>(∃i,xs=[.int i]/\Q (.int i) H)\/∃k,xs=[.bl k]/\Q (.int (if k then 1 else 0)) H):=by
 intro pins s σ H xs us Q I r h;rcases h with⟨i,rfl,q⟩|⟨k,rfl,q⟩
 ·obtain⟨u,rfl,t,rfl⟩:=Z1 r;exact call_int_int ⟨.int i,H,I,⟨_,rfl⟩,q⟩
 ·obtain⟨u,rfl,r1⟩:=Z1 r;cases r1;exact call_int_bool ⟨.int (if k then 1 else 0),H,I.tok _,⟨_,rfl⟩,q⟩
end
structure ObjM (h:Heap) (x dx C:Addr) (mA:Str->Option X0):Prop where
 obj:h.get? x=some (UE C dx)
 ns:h.Ns1 dx mA
 ne:dx≠x
theorem T6{h:Heap}{dx:Addr}{mA:Str->Option X0}(n:h.Ns1 dx mA):∃od,h.get? dx=some od/\∀name,BX name od=some (mA name):=by
 obtain⟨o,es,ep,ho,hd,hk,_,hm⟩:=n;refine⟨o,ho,λname=>?_⟩;have e:=hm name;unfold nsFind findBy at e;rw[<- Array.find?_toList]at e;unfold BX;rw[hd];dsimp only;split
 ·rename_i y q
  rw[q]at e;exact congrArg some e
 ·rename_i q
  rw[q]at e;have a:es.toList.any (·.refKey)=false:=by
   rw[List.any_eq_false];intro y hy;obtain⟨z,t,hkey⟩:=hk y (Array.mem_toList_iff.mp hy);simp[DictEntry.refKey,hkey]
  have a':¬es.toList.any (·.refKey)=true:=by rw[a];exact XC
  rw[if_neg a'];exact congrArg some e
theorem ObjM.look{h:Heap}{x dx C:Addr}{mA:Str->Option X0}(I:ObjM h x dx C mA):∃od,PySem.W.InstAt h x (UE C dx) C (some od)/\∀name,BX name od=some (mA name):=
 let⟨od,ho,hl⟩:=T6 I.ns
 ⟨od,⟨I.obj,rfl,rfl,ho⟩,hl⟩
section
variable{prog:Xk}{w:Xh}{A:Xt}{E:X0->X1->Prop}{s:X1}{K:X5}{x dx C f:Addr}{mA:Str->Option X0}{name:Str}{v:X0}
theorem T7{expr:Bool}{Q:X0->X1->Prop}(X:K.In s.heap)(I:ObjM s.heap x dx C mA)(hg:V0 K C name=true)(hh:VM K C=true)
  (ha:XI K (.ref C) name=some none) (hv:mA name=some v) (hv':PySem.W.handedIn v=true) (h:Q v {s with toks:=s.toks+1}):
  X3 (X6 prog w) A (getAttr (.ref x) name expr) Q E s:=by
 obtain⟨od,J,hl⟩:=I.look;exact PySem.W.get_value X J (DU hg).1 (PySem.W.findObj_own hh ha rfl (by rw[hl,hv])) hv' h
theorem T8{pl:Sem Bool}{Q:X0×List X0->X1->Prop}(X:K.In s.heap)(I:ObjM s.heap x dx C mA)(hg:V0 K C name=true)
  (hf:XI K (.ref C) name=some (some (.ref f))) (ht:YC K (.ref f)=true) (hv:mA name=none) (h:Q (.ref f,[.ref x]) s):
  X3 (X6 prog w) A (getMethod (.ref x) name pl) Q E s:=by
 obtain⟨od,J,hl⟩:=I.look;exact PySem.W.method_fn X J (DU hg).1 (DU hg).2 hf (beq_iff_eq.mp ht) (by show(BX name od).map (·.isSome)=some false;rw[hl,hv];rfl) h
theorem T9{ns:List Str}{Q:Unit->X1->Prop}(X:K.In s.heap)(I:ObjM s.heap x dx C mA)
  (hs:XI K (.ref C) "__setattr__"=some (some (.builtin "object.__setattr__"))) (hp:WH K C=true) (ht:DX K C name=some none) (hh:VM K C=true)
  (hw:E5 mA ns) (hsz:ns.length≤sizeLine)
  (h:∀h',ObjM h' x dx C (λy=>if y=name then some v else mA y)->Ul dx s.heap h'->Q () {s with heap:=h',toks:=s.toks+2}):
  X3 (X6 prog w) A (setAttr (.ref x) name v) Q E s:=by
 obtain⟨od,J,hl⟩:=I.look;refine PySem.W.set_plain X J hs (PySem.W.osa_open (s:={s with toks:=s.toks+1}) (r:=none) X J hp ht λb=>?_);obtain⟨cd,hc,hd'⟩:=PySem.W.any_some hh;have hx:s.heap.get? x=some ⟨.ref C,some dx,.plain,#[]⟩:=I.obj;refine X2 (X8 (X2 (X2 (wpAny_loadPart hx (X2 (PySem.W.Looks.here (s:={s with toks:=s.toks+1}) (PySem.W.looks_clsIn X hc) ?_))))));rw[hd'];refine X8 (a:=some dx) (X2 (X8 (X2 ?_)));refine wpAny_nsSet1 (s:={s with toks:=s.toks+1}) I.ns λh' hn2 hs2=>?_;obtain⟨oD,esD,epD,hoD,hdD,hcD⟩:=hn2.count (PySem.Within.cons name v hw);refine X2 (wpAny_lookBehind hoD (by rw[hdD];exact pastItsLine_dict (Y8 hcD (by rw[Yu];lia))) ?_)
 exact X8 (h _ ⟨(hs2.2 _ (XU I.ne)).trans I.obj,hn2,I.ne⟩ hs2)
theorem Ta{R:Result->X1->Prop}{vs:List X0}{kw:List (Str×X0)}(X:K.In s.heap)(hm:WI K C=true)
  (hi:XI K (.ref C) "__init__"=some (some (.ref f))) (hf:PySem.W.typeIn K (.ref f)=some (.type "function"))
  (h:YY (X6 prog w) (A.under (.builtin "type.__call__" ⟨.ref C::vs,kw⟩)) (.call (.ref f) ⟨.ref (s.heap.objs.size+1)::vs,kw⟩) (PySem.W.InitBack (s.heap.objs.size+1) R)
   {s with heap:=(s.heap.push Uk).push (UE C s.heap.objs.size)}):
  YY (X6 prog w) A (.call (.ref C) ⟨vs,kw⟩) R s:=by
 obtain⟨hh,g,d,t,os⟩:=s;exact PySem.W.make_core (PySem.W.makes_of X hm) (PySem.W.looks_findIn X hi) (λself=>PySem.W.bind_fn X self hf) (.inl rfl) h
end
def putF(f:Str)(v:V):List (Str×V)->List (Str×V)
 |[]=>[(f,v)]
 |(g,x)::r=>if g=f then(g,v)::r else(g,x)::putF f v r
theorem Ip(f g:Str)(v:V):∀fs:List (Str×V),(putF f v fs).lookup g=if g=f then some v else fs.lookup g
 |[]=>by
  show Uj g [(f,v)]=_;by_cases h:g=f
  ·have hb:(g==f)=true:=beq_iff_eq.mpr h;simp only[Uj,hb,if_pos h]
  ·have hb:(g==f)=false:=beq_eq_false_iff_ne.mpr h;simp only[Uj,hb,if_neg h]
 |(k,x)::r=>by
  have ih:=Ip f g v r;rw[show putF f v ((k,x)::r)=(if k=f then(k,v)::r else(k,x)::putF f v r)from rfl];by_cases hk:k=f
  ·rw[if_pos hk];by_cases h:g=k
   ·have hb:(g==k)=true:=beq_iff_eq.mpr h;simp only[Uj,hb,if_pos (h.trans hk)]
   ·have hb:(g==k)=false:=beq_eq_false_iff_ne.mpr h;simp only[Uj,hb,if_neg (λe:g=f=>h (e.trans hk.symm))]
  ·rw[if_neg hk];by_cases h:g=k
   ·have hb:(g==k)=true:=beq_iff_eq.mpr h;simp only[Uj,hb,if_neg (λe:g=f=>hk (h.symm.trans e))]
   ·have hb:(g==k)=false:=beq_eq_false_iff_ne.mpr h;simp only[Uj,hb];exact ih
theorem Ej(f:Str)(v:V):∀fs:List (Str×V),f∈(putF f v fs).map (·.1)/\∀g,g∈fs.map (·.1)->g∈(putF f v fs).map (·.1)
 |[]=>⟨by simp[putF],λg h=>by simp at h⟩
 |(k,x)::r=>by
  obtain⟨i1,i2⟩:=Ej f v r;rw[show putF f v ((k,x)::r)=(if k=f then(k,v)::r else(k,x)::putF f v r)from rfl];by_cases hk:k=f
  ·rw[if_pos hk];subst hk;exact⟨by simp,λg h=>by simpa using h⟩
  ·rw[if_neg hk];refine⟨?_,λg h=>?_⟩
   ·rw[XD];exact XX _ i1
   ·rw[XD]at h ⊢;rcases Xr.mp h with e|e
    ·exact Xr.mpr (.inl e)
    ·exact XX _ (i2 g e)
theorem Iq(f:Str)(v:V):∀fs:List (Str×V),(putF f v fs).length≤fs.length+1
 |[]=>by simp[putF]
 |(k,x)::r=>by
  have ih:=Iq f v r;rw[show putF f v ((k,x)::r)=(if k=f then(k,v)::r else(k,x)::putF f v r)from rfl];by_cases hk:k=f
  ·rw[if_pos hk,Yu,Yu];lia
  ·rw[if_neg hk,Yu,Yu];lia
theorem RelO.some_of{v:V}{o:Option X0}(r:RelO (some v) o):∃u,o=some u/\RelV v u:=by
 cases o with
 |none=>exact(show False from r).elim
 |some u=>exact⟨u,rfl,r⟩
theorem RelO.none_of{o:Option X0}(r:RelO none o):o=none:=by
 cases o with
 |none=>rfl
 |some u=>exact(show False from r).elim
theorem Tb{v:V}{u:X0}(r:RelV v u):PySem.W.handedIn u=true:=by
 cases v with
 |non=>cases(show u=Xz from r);rfl
 |bl b=>cases(show u=Ye b from r);rfl
 |int i=>obtain⟨t,e⟩:=(show∃t,u=VS i t from r);cases e;rfl
 |str x=>obtain⟨t,e⟩:=(show∃t,u=XJ x t from r);cases e;rfl
 |byt b=>obtain⟨t,e⟩:=(show∃t,u=Value.bytes b t from r);cases e;rfl
 |flt b=>obtain⟨t,e⟩:=(show∃t,u=Ca b t from r);cases e;rfl
 |ref a=>cases(show u=Xs a from r);rfl
 |ty n=>cases(show u=XH n from r);rfl
section
variable{P:Xk}{w:Xh}{H H':Hp}{h h':Heap}{a C dx:Addr}{fs fs':List (Str×V)}
theorem WQ(hok:HOk P w H h)(e:H a=some (.ins C dx fs)):∃mA,ObjM h a dx C mA/\(∀f,RelO (fs.lookup f) (mA f))/\E5 mA (fs.map (·.1))/\fs.length≤1000/\H dx=some (.own a):=by
 obtain⟨d,z,ne,ob,mA,n,r,q⟩:=(show ObjOk P w H h a (.ins C dx fs)from hok a _ e);exact⟨mA,⟨ob,n,ne⟩,r,q,z,d⟩
end
structure Cls (K:X5) (C:Addr):Prop where
 pg:V0 K C Uo=true
 hd:VM K C=true
 po:WH K C=true
 sa:XI K (.ref C) "__setattr__"=some (some (.builtin "object.__setattr__"))
theorem Cls.get{K:X5}{C:Addr}(c:Cls K C)(f:Str):V0 K C f=true:=c.pg
def NoAttr(K:X5)(C:Addr)(f:Str):Prop:=XI K (.ref C) f=some none
theorem NoAttr.taker{K:X5}{C:Addr}{f:Str}(n:NoAttr K C f):DX K C f=some none:=by
 unfold DX;rw[show XI K (.ref C) f=some none from n]
 rfl
structure Con (K:X5) (C:Addr) (f:Str) (v:V) (u:X0):Prop where
 at_:XI K (.ref C) f=some (some u)
 rel:RelV v u
 get:PySem.W.specialIn K u "__get__"=some none
 cp:PySem.W.copiedNames.contains f=false
structure Meth (K:X5) (C:Addr) (m:Str) (f:Addr):Prop where
 at_:XI K (.ref C) m=some (some (.ref f))
 fn:YC K (.ref f)=true
 kp:Y5 K (.ref f)=true
section
variable{X:Cx}{pins:List (Addr×Obj)}{σ:St}{H:Hp}{s:X1}{a C dx:Addr}{fs:List (Str×V)}{f:Str}{v:V}{A:Xt}{E:X0->X1->Prop}
theorem Tc{b:Bool}{Q:X0->X1->Prop}(I:Inv X pins σ H s)(e:H a=some (.ins C dx fs))(c:Cls X.K C)(n:NoAttr X.K C f)(l:fs.lookup f=some v)
  (h:∀u s',Inv X pins σ H s'->RelV v u->Q u s'):X3 (X6 X.prog X.w) A (getAttr (.ref a) f b) Q E s:=by
 obtain⟨mA,O,r,_,_,_⟩:=WQ I.hok e;obtain⟨u,hu,ru⟩:=RelO.some_of (v:=v) (o:=mA f) (by rw[<- l];exact r f)
 exact T7 I.kIn O (c.get f) c.hd n hu (Tb ru) (h u _ (I.tok _) ru)
theorem Ir{m:Str}{g:Addr}{pl:Sem Bool}{Q:X0×List X0->X1->Prop}(I:Inv X pins σ H s)(e:H a=some (.ins C dx fs))(c:Cls X.K C)(k:Meth X.K C m g)(l:fs.lookup m=none)
  (h:Q (.ref g,[.ref a]) s):X3 (X6 X.prog X.w) A (getMethod (.ref a) m pl) Q E s:=by
 obtain⟨mA,O,r,_,_,_⟩:=WQ I.hok e;have hn:mA m=none:=RelO.none_of (by rw[<- l];exact r m)
 exact T8 I.kIn O (c.get m) k.at_ k.fn hn h
theorem Td{y:V}{u:X0}{Q:Unit->X1->Prop}(I:Inv X pins σ H s)(e:H a=some (.ins C dx fs))(c:Cls X.K C)(n:NoAttr X.K C f)(hl:fs.length<1000)(ry:RelV y u)
  (h:∀s',Inv X pins σ (upd H a (.ins C dx (putF f y fs))) s'->Q () s'):X3 (X6 X.prog X.w) A (setAttr (.ref a) f u) Q E s:=by
 obtain⟨mA,O,r,wi,_,ho⟩:=WQ I.hok e;have hz:(fs.map (·.1)).length≤sizeLine:=by rw[Xa,sizeLine_eq];lia
 refine T9 I.kIn O c.sa c.po n.taker c.hd wi hz λh' O' sb=>h _ ?_;have hd:∃o,h'.get? dx=some o:=let⟨o,_,_,e',_⟩:=O'.ns;⟨o,e'⟩
 refine I.write (x:=a) (e:=dx) (by rw[e];exact YH) (.inr ho) (λb q hb z=>(sb.2 b hb).trans z) hd ?_
 refine⟨by rw[XL O.ne];exact ho,?_,O.ne,O'.obj,_,O'.ns,λg=>?_,λg hg=>?_⟩
 ·have:=Iq f y fs;lia
 ·show RelO ((putF f y fs).lookup g) (if g=f then some u else mA g);rw[Ip];by_cases q:g=f
  ·rw[if_pos q,if_pos q];exact ry
  ·rw[if_neg q,if_neg q];exact r g
 ·by_cases q:g=f
  ·rw[q];exact(Ej f y fs).1
  ·refine(Ej f y fs).2 g (wi g λz=>hg ?_);show(if g=f then some u else mA g)=none;rw[if_neg q];exact z
theorem Inv.made(I:Inv X pins σ H s):Inv X pins σ (upd (upd H s.heap.objs.size (.own (s.heap.objs.size+1))) (s.heap.objs.size+1) (.ins C s.heap.objs.size []))
  {s with heap:=(s.heap.push Uk).push (UE C s.heap.objs.size)}:=by
 have e1:(s.heap.push Uk).get? s.heap.objs.size=some Uk:=XS s.heap rfl;have e2:((s.heap.push Uk).push (UE C s.heap.objs.size)).get? (s.heap.objs.size+1)=some (UE C s.heap.objs.size):=by
  have:=XS (s.heap.push Uk) (o:=UE C s.heap.objs.size) rfl
  rwa [ZH]at this
 have e3:(s.heap.push Uk).Ns s.heap.objs.size (λ_=>none):=⟨Uk,#[],_,e1,rfl,(λe he=>absurd he (by simp)),λ_=>rfl⟩
 have I1:=I.laid (a:=s.heap.objs.size) (o:=.own (s.heap.objs.size+1)) (h':=s.heap.push Uk) (t':=s.toks) (λb u q=>Xu _ q) (Xi _) ⟨_,e1⟩;refine I1.laid (a:=s.heap.objs.size+1) (o:=.ins C s.heap.objs.size []) (t':=s.toks) (λb u q=>Xu _ q) (VQ (ZH _ _)) ?_;have ne:s.heap.objs.size≠s.heap.objs.size+1:=XG (C8 _);refine⟨by rw[XL ne,Zh],YO _,ne,e2,λ_=>none,(Heap.Ns1.of_empty e3).at λo q=>Xu _ q,λ_=>YH,λy hy=>absurd rfl hy⟩
theorem Te{prog:Xk}{w:Xh}{env:Env}{e:Expr}{f:Str}{pos:Pos}{s:X1}{Q:X0->X1->Prop}(hb:Ux e f env (eval e env)=eval e env)
  (h:X3 (X6 prog w) A (eval e env) (λo s₁=>X3 (X6 prog w) A (getAttr o f true) Q E s₁) E s):X3 (X6 prog w) A (eval (.Attribute e f pos) env) Q E s:=
 Attribute_any_ h (by rw[arm_eval_Attribute,hb])
end
def tFld(K:X5)(ta:TE)(f:Str):TE:=λσ H Q=>ta σ H λx H1=>∃a C dx fs v,x=.ref a/\H1 a=some (.ins C dx fs)/\Cls K C/\NoAttr K C f/\fs.lookup f=some v/\Q v H1
def sFld(K:X5)(ta tv:TE)(f:Str):TS:=λD σ H=>tv σ H λy H1=>ta σ H1 λx H2=>∃a C dx fs,x=.ref a/\H2 a=some (.ins C dx fs)/\Cls K C/\NoAttr K C f/\fs.length<1000/\
 D.nx σ (upd H2 a (.ins C dx (putF f y fs)))
section
variable{X:Cx}{o e value:Expr}{f:Str}{pos pos' tpos:Pos}{ta tv:TE}
theorem Tf(he:PE X e ta)(hb:Ux e f X.env (eval e X.env)=eval e X.env):PE X (.Attribute e f pos) (tFld X.K ta f):=by
 intro pins s σ H Q I h;refine Te hb (thn (he pins s σ H _ I h) λu s1 ⟨x,H1,I1,rx,a,C,dx,fs,v,ex,ea,c,n,l,q⟩=>?_);subst ex;obtain rfl:u=Xs a:=rx;exact Tc I1 ea c n l λu' s2 I2 ru=>⟨v,H1,I2,ru,q⟩
theorem Tg(ha:PE X o ta)(hv:PE X value tv)(hs:ZP value (some (.Attribute o f pos')) pos.line X.env=pure false):PS X (.Assign [.Attribute o f pos'] value pos) (sFld X.K ta tv f):=by
 intro pins s σ H D I h;refine plainObj_wpAny_Assign_Attribute (thn (hv pins s σ H _ I h) λu s1 ⟨y,H1,I1,ry,q⟩=>thn (ha pins s1 σ H1 _ I1 q) λov s2 ⟨x,H2,I2,rx,a,C,dx,fs,ex,ea,c,n,l,q2⟩=>?_) hs;subst ex;obtain rfl:ov=Xs a:=rx;exact Td I2 ea c n l ry λs3 I3=>⟨σ,_,I3,q2⟩
end
section
variable{X:Cx}{pins:List (Addr×Obj)}{σ:St}{H:Hp}{s:X1}{A:Xt}{E:X0->X1->Prop}{Q:X0->X1->Prop}{c:X0}{b:Bool}
inductive TyOf (K:X5) (H:Hp):V->X0->Prop where
 |non:TyOf K H .non (.type "NoneType")
 |bl (x:Bool):TyOf K H (.bl x) (.type "bool")
 |int (i:Int):TyOf K H (.int i) (.type "int")
 |str (x:Str):TyOf K H (.str x) (.type "str")
 |flt (x:UInt64):TyOf K H (.flt x) (.type "float")
 |lst {a:Addr} {xs:List V} (e:H a=some (.lst xs)):TyOf K H (.ref a) (.type "list")
 |frz {a:Addr} {o:Obj} {xs:List V} (e:H a=some (.frz o (.lst xs))):TyOf K H (.ref a) (.type "list")
 |tup {a:Addr} {xs:List V} (e:H a=some (.tup xs)):TyOf K H (.ref a) (.type "tuple")
 |dK {a:Addr} {kvs:List (Key×V)} (e:H a=some (.dK kvs)):TyOf K H (.ref a) (.type "dict")
 |dT {a:Addr} {kvs:List (List Key×V)} (e:H a=some (.dT kvs)):TyOf K H (.ref a) (.type "dict")
 |ins {a C dx:Addr} {fs:List (Str×V)} (e:H a=some (.ins C dx fs)) (cl:Cls K C) (ha:XI K (.ref C) "__class__"=some (some (.builtin "object.__class__")))
   (hn:PySem.W.specialIn K (.builtin "object.__class__") "__get__"=some (some (.builtin "getset_descriptor.__get__"))) (htk:PySem.W.takesIn K (.builtin "object.__class__")=some true)
   (hm:PySem.W.mroIn K C (.type "object")=some true):TyOf K H (.ref a) (.ref C)
theorem Th{x:V}{u t:X0}(I:Inv X pins σ H s)(rx:RelV x u)(ty:TyOf X.K H x t)(e:V1 X.K t c=some b)(h:∀tk,Q (.bool b) {s with toks:=tk}):
  X3 (X6 X.prog X.w) A (call (.builtin "isinstance") [u,c]) Q E s:=by
 cases ty with
 |non=>cases(show u=Xz from rx);exact ZF PySem.W.kitx_none I.kIn YH e (λz=>nomatch z) h
 |bl y=>cases(show u=Ye y from rx);exact ZF PySem.W.kitx_bool I.kIn YH e (λz=>nomatch z) h
 |int i=>obtain⟨t,q⟩:=(show∃t,u=VS i t from rx);cases q;exact ZF PySem.W.kitx_int I.kIn YH e (λz=>nomatch z) h
 |str y=>obtain⟨t,q⟩:=(show∃t,u=XJ y t from rx);cases q;exact ZF PySem.W.kitx_str I.kIn YH e (λz=>nomatch z) h
 |flt y=>obtain⟨t,q⟩:=(show∃t,u=Ca y t from rx);cases q;exact ZF PySem.W.kitx_float I.kIn YH e (λz=>nomatch z) h
 | @lst a xs ea=>
  cases(show u=Xs a from rx);obtain⟨_,_,n,_,h1⟩:=(show ObjOk X.prog X.w H s.heap a (.lst xs)from I.hok a _ ea);exact ZF BV I.kIn ⟨_,h1,rfl⟩ e (λz=>nomatch z) h
 | @frz a ob xs ea=>
  cases(show u=Xs a from rx);obtain⟨_,_,_,n,_,h1⟩:=(show ObjOk X.prog X.w H s.heap a (.frz ob (.lst xs))from I.hok a _ ea);exact ZF BV I.kIn ⟨_,h1,rfl⟩ e (λz=>nomatch z) h
 | @tup a xs ea=>
  cases(show u=Xs a from rx);obtain⟨_,_,_,p⟩:=(show ObjOk X.prog X.w H s.heap a (.tup xs)from I.hok a _ ea);obtain⟨o,h1,h2,_⟩:=p.1;exact ZF PySem.W.kitx_tuple I.kIn ⟨o,h1,h2⟩ e (λz=>nomatch z) h
 | @dK a kvs ea=>
  cases(show u=Xs a from rx);obtain⟨_,_,vs,_,p⟩:=(show ObjOk X.prog X.w H s.heap a (.dK kvs)from I.hok a _ ea);obtain⟨o,es,ep,h1,h2,_⟩:=p;exact ZF BW I.kIn ⟨o,h1,h2.1⟩ e (λz=>nomatch z) h
 | @dT a kvs ea=>
  cases(show u=Xs a from rx);obtain⟨_,_,xs,_,o,es,ep,h1,h2,_⟩:=(show ObjOk X.prog X.w H s.heap a (.dT kvs)from I.hok a _ ea);exact ZF BW I.kIn ⟨o,h1,h2.1⟩ e (λz=>nomatch z) h
 | @ins a C dx fs ea cl ha hn htk hm=>
  cases(show u=Xs a from rx);obtain⟨mA,O,_⟩:=WQ I.hok ea;obtain⟨od,J,_⟩:=O.look;exact ZF (PySem.W.kitx_own (cl.get _) cl.hd ha hn htk hm) I.kIn J e (λz=>nomatch z) h
end
structure Room (k:Nat) (A:Xt):Prop where
 hd:A.handled=none
 dp:A.depth+3*k+5<recursionLimit
 un:A.units+16*k+200<cLine
theorem Room.mono{j k:Nat}{A:Xt}(r:Room k A)(h:j≤k):Room j A:=⟨r.hd,by have:=r.dp;lia,by have:=r.un;lia⟩
theorem Room.deeper{k:Nat}{A:Xt}(r:Room (k+1) A)(env:Env):Room k (A.deeper env):=
 ⟨r.hd,by have:=r.dp;show A.depth+1+3*k+5<_;lia,by have:=r.un;show A.units+3+16*k+200<_;lia⟩
theorem Ti{A:Xt}{C:Addr}{us:List X0}{kw:List (Str×X0)}:(A.under (.builtin "type.__call__" ⟨.ref C::us,kw⟩)).depth=A.depth+1:=by
 first|rfl|simp[E4,Code.weight,Code.isCreation,Code.isGuard,Code.isCaller,Code.frames,Code.isFrame,guardIds]
theorem Tj{A:Xt}{C:Addr}{us:List X0}{kw:List (Str×X0)}:(A.under (.builtin "type.__call__" ⟨.ref C::us,kw⟩)).units=A.units+1:=by
 first|rfl|simp[E4,Code.cUnits,Code.frames,Code.isFrame]
theorem Room.make{k:Nat}{A:Xt}(r:Room (k+1) A)(C:Addr)(us:List X0)(kw:List (Str×X0)):Room k (A.under (.builtin "type.__call__" ⟨.ref C::us,kw⟩)):=
 ⟨r.hd,by have:=r.dp;rw[Ti];lia,by have:=r.un;rw[Tj];lia⟩
theorem Room.depth{k:Nat}{A:Xt}(r:Room k A):A.depth<recursionLimit:=by have:=r.dp;lia
def tNil:TA:=λ_ H Q=>Q [] H
def W7(ta:TE)(tr:TA):TA:=λσ H Q=>ta σ H λx H1=>tr σ H1 λxs H2=>Q (x::xs) H2
section
variable{X:Cx}{e:Expr}{es:List Expr}{te:TE}{t:TA}{pos:Pos}
theorem pa_nil:PA X [] tNil:=λ_ _ _ _ H Q I h=>WN ⟨[],H,I,.nil,h⟩
theorem U0(ha:PE X e te)(hr:PA X es t)(hs:XB (e::es) X.env=(false,eval e X.env)::XB es X.env:=by rfl):PA X (e::es) (W7 te t):=by
 intro pos pins s σ H Q I h;rw[hs];show X3 _ _ (spliced ((false,eval e X.env)::Y4 pos (XB es X.env))) _ _ s;refine WM (thn (ha pins s σ H _ I h) λu s1 ⟨x,H1,I1,r1,q1⟩=>?_);exact thn (hr pos pins s1 σ H1 _ I1 q1) λus s2 ⟨xs,H2,I2,r2,q2⟩=>⟨x::xs,H2,I2,.cons r1 r2,q2⟩
def tTup(t:TA):TE:=λσ H Q=>t σ H λxs H1=>xs.length≤sizeLine/\∀p,H1 p=none->Q (.ref p) (upd H1 p (.tup xs))
def tLst(t:TA):TE:=λσ H Q=>t σ H λxs H1=>xs.length≤sizeLine/\∀p,H1 p=none->Q (.ref p) (upd H1 p (.lst xs))
theorem Tk{x1}(h:PA X es t):PE X (.Tuple es x1 pos) (tTup t):=by
 intro pins s σ H Q I hq;refine wpAny_Tuple_spliced (thn (h pos pins s σ H _ I hq) λus s1 ⟨xs,H1,I1,r,z,q⟩=>⟨by rw[<- r.length];exact z,?_⟩)
 have hf:H1 s1.heap.objs.size=none:=I1.hok.fresh (Xi _);refine⟨.ref s1.heap.objs.size,upd H1 s1.heap.objs.size (.tup xs),I1.laid (t':=s1.toks) (λb u e=>Xu _ e) (Xi _) ?_,rfl,q _ hf⟩;exact⟨z,us,r,⟨_,XS _ rfl,rfl,_,rfl⟩,_,XS _ rfl,rfl⟩
theorem Tl(h:PA X es t):PE X (.List es pos) (tLst t):=by
 intro pins s σ H Q I hq;refine wpAny_List_spliced (thn (h pos pins s σ H _ I hq) λus s1 ⟨xs,H1,I1,r,z,q⟩=>⟨by rw[<- r.length];exact z,?_⟩)
 have hf:H1 s1.heap.objs.size=none:=I1.hok.fresh (Xi _);refine⟨.ref s1.heap.objs.size,upd H1 s1.heap.objs.size (.lst xs),I1.laid (t':=s1.toks) (λb u e=>Xu _ e) (Xi _) ?_,rfl,q _ hf⟩;exact⟨z,us,0,r,XS _ rfl⟩
end
abbrev Sp:=List V->Hp->VK->XK->Prop
abbrev CXT:=List Env->Hp->X1->XK->X0->X1->Prop
structure Env0 (P:Xk) (w:Xh) (K:X5) (mg:Str->Option X0) (base:Heap) (A:Xt) (outer:List Env) (s:X1) (H:Hp):Prop where
 frames:A.frames=some outer
 mod:Mod K mg base
 bs:∀b o,base.get? b=some o->s.heap.get? b=some o/\H b=none
 bsz:base.objs.size≤s.heap.objs.size
 funs:s.heap.FunFrames base outer
 frf:∀b∈frs outer,H b=none
 hok:HOk P w H s.heap
 bare:AllBare s.gens
def CE(outer:List Env)(P:Xk)(w:Xh)(H:Hp)(s:X1)(Q:VK)(u:X0)(s':X1):Prop:=
 ∃v H',s'.os=s.os/\AllBare s'.gens/\Un (frs outer) [] H H' s.heap s'.heap/\HOk P w H' s'.heap/\RelV v u/\Q v H'
def CR(CX:CXT)(outer:List Env)(P:Xk)(w:Xh)(H:Hp)(s:X1)(Q:VK)(E:XK)(r:Result)(s':X1):Prop:=
 match r with
 |.ok (.ret u)=>CE outer P w H s Q u s'
 |.ok _=>False
 |.error e=>CX outer H s E e s'
structure FnOk (P:Xk) (w:Xh) (K:X5) (mg:Str->Option X0) (base:Heap) (CX:CXT) (k:Nat) (f:Addr) (fd:Xf) (ps:List Str) (sp:Sp):Prop where
 len:∀vs H Q E,sp vs H Q E->vs.length=ps.length
 run:∀(A:Xt) (outer:List Env) (s:X1) (H:Hp) (args:Args) (us:List X0) (vs:List V) (Q:VK) (E:XK),Room k A->Env0 P w K mg base A outer s H->BindsTo s fd args (ps.zip us)->Vals vs us->sp vs H Q E->
  YY (X6 P w) A (.call (.ref f) args) (CR CX outer P w H s Q E) s
theorem FnOk.mono{P:Xk}{w:Xh}{K:X5}{mg:Str->Option X0}{base:Heap}{CX:CXT}{j k:Nat}{f:Addr}{fd:Xf}{ps:List Str}{sp:Sp}(F:FnOk P w K mg base CX j f fd ps sp)(h:j≤k):
  FnOk P w K mg base CX k f fd ps sp:=⟨F.len,λA outer s H args us vs Q E hr=>F.run A outer s H args us vs Q E (hr.mono h)⟩
theorem FnOk.imp{P:Xk}{w:Xh}{K:X5}{mg:Str->Option X0}{base:Heap}{CX:CXT}{k:Nat}{f:Addr}{fd:Xf}{ps:List Str}{sp sp':Sp}(F:FnOk P w K mg base CX k f fd ps sp)
  (h:∀vs H Q E,sp' vs H Q E->sp vs H Q E):FnOk P w K mg base CX k f fd ps sp':=
 ⟨λvs H Q E q=>F.len vs H Q E (h _ _ _ _ q),λA outer s H args us vs Q E hr he hb hv hs=>F.run A outer s H args us vs Q E hr he hb hv (h _ _ _ _ hs)⟩
theorem Env0.make{P:Xk}{w:Xh}{K:X5}{mg:Str->Option X0}{base:Heap}{A:Xt}{outer:List Env}{s:X1}{H:Hp}(e:Env0 P w K mg base A outer s H)(C:Addr)(us:List X0)(kw:List (Str×X0)):
  Env0 P w K mg base (A.under (.builtin "type.__call__" ⟨.ref C::us,kw⟩)) outer s H:=⟨by first|exact e.frames|(simpa [E4,Code.envs,Code.isFrame,pushEnvs]using e.frames),e.mod,e.bs,e.bsz,e.funs,e.frf,e.hok,e.bare⟩
section
variable{X:Cx}{pins:List (Addr×Obj)}{σ:St}{H:Hp}{s s':X1}
theorem Inv.env0(I:Inv X pins σ H s):Env0 X.prog X.w X.K X.mg X.base X.A X.stack s H:=
 ⟨I.ok.frames,I.ok.mod,I.bs,Y8 I.ok.bsz I.sz,I.stack,I.stkFree,I.hok,I.bare⟩
theorem Inv.after{Q:VK}{u:X0}(I:Inv X pins σ H s)(h:CE X.stack X.prog X.w H s Q u s'):EP X pins σ Q u s':=by
 obtain⟨v,H',os,bare,un,hok,r,q⟩:=h;obtain⟨hh,g,d,t,os'⟩:=s';obtain rfl:os'=s.os:=os;exact⟨v,H',I.call (h':=hh) (g':=g) (d':=d) (t':=t) (ch:=[]) un hok bare (λb z=>absurd z (by simp)),r,q⟩
end
def Tn(sp:Sp)(dvs:List V)(E:XK)(t:TA):TE:=λσ H Q=>t σ H λvs H1=>sp (vs++dvs) H1 Q E
def Iu(C:Addr)(m:Str)(sp:Sp)(dvs:List V)(E:XK)(ta:TE)(t:TA):TE:=λσ H Q=>ta σ H λx H1=>∃a dx fs,x=.ref a/\H1 a=some (.ins C dx fs)/\fs.lookup m=none/\
 t σ H1 λvs H2=>sp (x::(vs++dvs)) H2 Q E
def To(C:Addr)(sp:Sp)(dvs:List V)(E:XK)(t:TA):TE:=λσ H Q=>t σ H λvs H1=>∀x dx,H1 x=none->H1 dx=none->dx≠x->
 sp (.ref x::(vs++dvs)) (upd (upd H1 dx (.own x)) x (.ins C dx [])) (λv H2=>v=.non/\Q (.ref x) H2) E
def Binds(K:X5)(fd:Xf)(ps:List Str)(ds:List X0):Prop:=
 ∀(s:X1) (us:List X0),K.In s.heap->(us++ds).length=ps.length->BindsTo s fd ⟨us,[]⟩ (ps.zip (us++ds))
theorem Binds.all{K:X5}{fd:Xf}{ps:List Str}(h:∀us:List X0,us.length=ps.length->bindArgs fd ⟨us,[]⟩=pure (ps.zip us)):Binds K fd ps []:=λs us _ hl=>by
 rw[WD]at hl ⊢;exact .of_eq (h us hl)
def Ve(CX:CXT)(X:Cx)(E:XK):Prop:=∀(pins:List (Addr×Obj)) (σ:St) (H:Hp) (s:X1) (e:X0) (s':X1),Inv X pins σ H s->CX X.stack H s E e s'->X.xe e s'
section
variable{X:Cx}{CX:CXT}{k:Nat}{f C:Addr}{fd:Xf}{ps:List Str}{sp:Sp}{dvs:List V}{ds:List X0}{E:XK}{x m:Str}{p pos apos:Pos}{e o:Expr}{es:List Expr}{ta:TE}{t:TA}
theorem Ek{pins:List (Addr×Obj)}{σ:St}{H:Hp}{s:X1}{Q:VK}{us:List X0}{vs:List V}(F:FnOk X.prog X.w X.K X.mg X.base CX k f fd ps sp)(hr:Room k X.A)(hb:Binds X.K fd ps ds)(hd:Vals dvs ds)(hx:Ve CX X E)
  (I:Inv X pins σ H s) (r:Vals vs us) (h:sp (vs++dvs) H Q E):X3 (X6 X.prog X.w) X.A (call (.ref f) us) (EP X pins σ Q) X.xe s:=by
 have r2:Vals (vs++dvs) (us++ds):=r.append hd;have hl:(us++ds).length=ps.length:=by rw[<- r2.length];exact F.len _ _ _ _ h
 refine wpAny_call (Vw (F.run X.A X.stack s H ⟨us,[]⟩ (us++ds) (vs++dvs) Q E hr I.env0 (hb s us I.kIn hl) r2 h) λr s' hq=>?_);cases r with
 |error e=>exact hx pins σ H s e s' I hq
 |ok fl=>
  cases fl with
  |ret u=>exact I.after hq
  |next=>exact Yg hq
  |brk=>exact Yg hq
  |cont=>exact Yg hq
theorem Tp(F:FnOk X.prog X.w X.K X.mg X.base CX k f fd ps sp)(hr:Room k X.A)(hg:Gl X x)(hm:X.mg x=some (.ref f))(hk:Y5 X.K (.ref f)=true)(hb:Binds X.K fd ps ds)(hd:Vals dvs ds)(hx:Ve CX X E)
  (ha:PA X (e::es) t) (hdb:(x==("__debug__":Str))=false:=by decide) (he:XB (e::es) X.env=(false,eval e X.env)::XB es X.env:=by rfl) (hpl:(Y4 pos (XB es X.env)).any (·.1)=false:=by rfl):
  PE X (.Call (.Name x p) (e::es) [] pos) (Tn sp dvs E t):=by
 intro pins s σ H Q I h;refine Uy (Eh I hg hm ?_ hdb);refine DV (h₀:=X.base) I.ok.mod.kin hk (thn (ha pos pins s σ H _ I h) λus s1 ⟨vs,H1,I1,r,q⟩=>⟨I1.kIn,?_⟩) he hpl;exact Ek F hr hb hd hx I1 r q
theorem Tq{pl:Sem Bool}(he:PE X o ta)(c:Cls X.K C)(hm:Meth X.K C m f)(F:FnOk X.prog X.w X.K X.mg X.base CX k f fd ps sp)(hr:Room k X.A)(hb:Binds X.K fd ps ds)(hd:Vals dvs ds)(hx:Ve CX X E)(ha:PA X (e::es) t)
  (hst:XB (e::es) X.env=(false,eval e X.env)::XB es X.env:=by rfl) (hpl:(Y4 pos (XB es X.env)).any (·.1)=false:=by rfl)
  (ht:eval (.Call (.Attribute o m apos) (e::es) [] pos) X.env=(do
   let ov<- eval o X.env
   standAt apos.atName
   let(f,first)<- Z9 [ov] (getMethod ov m pl)
   callWith pos f first (Y4 pos (XB (e::es) X.env)) (Ue pos (Uf [] X.env))):=by rfl):
  PE X (.Call (.Attribute o m apos) (e::es) [] pos) (Iu C m sp dvs E ta t):=by
 intro pins s σ H Q I h;refine Hg (pl:=pl) (thn (he pins s σ H _ I h) λu s1 ⟨x,H1,I1,rx,a,dx,fs,ex,ea,l,q⟩=>?_) ht;subst ex;obtain rfl:u=Xs a:=rx;refine Ir I1 ea c hm l ?_;refine DV (first:=[.ref a]) (h₀:=X.base) I.ok.mod.kin hm.kp (thn (ha pos pins s1 σ H1 _ I1 q) λus s2 ⟨vs,H2,I2,r,q2⟩=>⟨I2.kIn,?_⟩) hst hpl
 exact Ek (us:=.ref a::us) (vs:=.ref a::vs) F hr hb hd hx I2 (.cons rfl r) q2
theorem Tr{pl:Sem Bool}(he:PE X o ta)(c:Cls X.K C)(hm:Meth X.K C m f)(F:FnOk X.prog X.w X.K X.mg X.base CX k f fd ps sp)(hr:Room k X.A)(hb:Binds X.K fd ps ds)(hd:Vals dvs ds)(hx:Ve CX X E)
  (ht:eval (.Call (.Attribute o m apos) [] [] pos) X.env=(do
   let ov<- eval o X.env
   standAt apos.atName
   let(f,first)<- Z9 [ov] (getMethod ov m pl)
   callWith pos f first (Y4 pos (XB [] X.env)) (Ue pos (Uf [] X.env))):=by rfl):
  PE X (.Call (.Attribute o m apos) [] [] pos) (Iu C m sp dvs E ta tNil):=by
 intro pins s σ H Q I h;refine Hg (pl:=pl) (thn (he pins s σ H _ I h) λu s1 ⟨x,H1,I1,rx,a,dx,fs,ex,ea,l,q⟩=>?_) ht;subst ex;obtain rfl:u=Xs a:=rx;refine Ir I1 ea c hm l ?_;exact PySem.W.callWith_K0 (first:=[.ref a]) I1.kIn hm.kp (Ek (us:=[.ref a]) (vs:=[.ref a]) F hr hb hd hx I1 (.cons rfl .nil) q)
structure Mk (K:X5) (C f:Addr):Prop where
 makes:WI K C=true
 init:XI K (.ref C) "__init__"=some (some (.ref f))
 fn:YC K (.ref f)=true
 kp:Y5 K (.ref C)=true
theorem Ts{pins:List (Addr×Obj)}{σ:St}{H:Hp}{s:X1}{Q:VK}{us:List X0}{vs:List V}(M:Mk X.K C f)(F:FnOk X.prog X.w X.K X.mg X.base CX k f fd ps sp)(hr:Room (k+1) X.A)(hb:Binds X.K fd ps ds)(hd:Vals dvs ds)
  (hx:Ve CX X E) (I:Inv X pins σ H s) (r:Vals vs us)
  (h:∀x dx,H x=none->H dx=none->dx≠x->sp (.ref x::(vs++dvs)) (upd (upd H dx (.own x)) x (.ins C dx [])) (λv H2=>v=.non/\Q (.ref x) H2) E):
  X3 (X6 X.prog X.w) X.A (call (.ref C) us) (EP X pins σ Q) X.xe s:=by
 have hq:=h (s.heap.objs.size+1) s.heap.objs.size (I.hok.fresh (UF _)) (I.hok.fresh (Xi _)) (XG (C8 _));have I2:=Inv.made (C:=C) I;have r2:Vals (V.ref (s.heap.objs.size+1)::(vs++dvs)) (Xs (s.heap.objs.size+1)::(us++ds)):=.cons rfl (r.append hd);have hl:(Xs (s.heap.objs.size+1)::us++ds).length=ps.length:=by
  have e:=r2.length;rw[F.len _ _ _ _ hq]at e;exact e.symm
 refine wpAny_call (Ta (f:=f) I.kIn M.makes M.init (beq_iff_eq.mp M.fn) (Vw (F.run _ X.stack _ _ ⟨Xs (s.heap.objs.size+1)::us,[]⟩ (Xs (s.heap.objs.size+1)::(us++ds)) _ _ E (hr.make C us [])
  (I2.env0.make C us []) (hb _ (Xs (s.heap.objs.size+1)::us) I2.kIn hl) r2 hq) λr s' hq'=>?_))
 cases r with
 |error e=>exact hx pins σ _ _ e s' I2 hq'
 |ok fl=>
  cases fl with
  |ret u=>
   obtain⟨v,H',I3,rv,ev,q3⟩:=I2.after hq';subst ev;exact⟨rv,⟨V.ref (s.heap.objs.size+1),H',I3,rfl,q3⟩⟩
  |next=>exact Yg hq'
  |brk=>exact Yg hq'
  |cont=>exact Yg hq'
theorem Tt(M:Mk X.K C f)(F:FnOk X.prog X.w X.K X.mg X.base CX k f fd ps sp)(hr:Room (k+1) X.A)(hg:Gl X x)(hm:X.mg x=some (.ref C))(hb:Binds X.K fd ps ds)(hd:Vals dvs ds)(hx:Ve CX X E)
  (ha:PA X (e::es) t) (hdb:(x==("__debug__":Str))=false:=by decide) (he:XB (e::es) X.env=(false,eval e X.env)::XB es X.env:=by rfl) (hpl:(Y4 pos (XB es X.env)).any (·.1)=false:=by rfl):
  PE X (.Call (.Name x p) (e::es) [] pos) (To C sp dvs E t):=by
 intro pins s σ H Q I h;refine Uy (Eh I hg hm ?_ hdb);refine DV (h₀:=X.base) I.ok.mod.kin M.kp (thn (ha pos pins s σ H _ I h) λus s1 ⟨vs,H1,I1,r,q⟩=>⟨I1.kIn,?_⟩) he hpl;exact Ts M F hr hb hd hx I1 r q
end
section
variable{X:Cx}{CX:CXT}{k:Nat}{f C:Addr}{fd:Xf}{ps ks:List Str}{sp:Sp}{E:XK}{x m:Str}{p pos apos kpos:Pos}{e o:Expr}{es:List Expr}{kws:List Za}{te ta:TE}{t tk:TA}{nm:Option Str}
structure KBinds (K:X5) (fd:Xf) (ps ks:List Str) (g:List X0->List X0->List X0) (gV:List V->List V->List V):Prop where
 to:∀(s:X1) (us ws:List X0),K.In s.heap->(g us ws).length=ps.length->BindsTo s fd ⟨us,ks.zip ws⟩ (ps.zip (g us ws))
 rel:∀{vs:List V} {us:List X0} {zs:List V} {ws:List X0},Vals vs us->Vals zs ws->Vals (gV vs zs) (g us ws)
variable{g:List X0->List X0->List X0}{gV:List V->List V->List V}
end
structure FnScope (N P:List Str) (sc:Scope):Prop where
 kind:sc.kind=.function
 co:sc.isCoroutine=false
 gen:sc.isGenerator=false
 nd:N.Nodup
 pre:N.take P.length=P
 par:∀x∈P,sc.names.lookup x=some .local\/sc.names.lookup x=some .cell
 nofree:∀y∈sc.names,y.2≠.free
theorem mkSc {N P:List Str}{sc:Scope}(a:sc.kind=.function:=by rfl)(b:sc.isCoroutine=false:=by rfl)(c:sc.isGenerator=false:=by rfl)(d:N.Nodup:=by decide+kernel)(e:N.take P.length=P:=by rfl)(f:∀x∈P,sc.names.lookup x=some .local\/sc.names.lookup x=some .cell:=by decide+kernel)(g:∀y∈sc.names,y.2≠.free:=by decide+kernel):FnScope N P sc:=⟨a,b,c,d,e,f,g⟩
theorem Iv{kindOf:Str->Option Zb}{x:Str}:∀{binds:List (Str×X0)} {m:Str->Option X0},(∀v,(x,v)∉binds)->bindL kindOf binds m x=m x
 |[],_,_=>rfl
 |(n,v)::r,m,h=>by
  unfold bindL;rw[Iv λw hw=>h w (XX _ hw)];split
  ·have:x≠n:=by rintro rfl;exact h v Yi
   simp[this]
  ·rfl
theorem Iw{kindOf:Str->Option Zb}{x:Str}:∀{binds:List (Str×X0)} {m:Str->Option X0},(∀v,(x,v)∉binds)->bindC kindOf binds m x=m x
 |[],_,_=>rfl
 |(n,v)::r,m,h=>by
  unfold bindC;rw[Iw λw hw=>h w (XX _ hw)];split
  ·rfl
  ·have:x≠n:=by rintro rfl;exact h v Yi
   simp[this]
theorem Ix{kindOf:Str->Option Zb}{x:Str}{v:X0}:∀{P:List Str} {vs:List X0} {i:Nat} {m:Str->Option X0},P.Nodup->P[i]?=some x->vs[i]?=some v->kindOf x=some .local->
  bindL kindOf (P.zip vs) m x=some v
 |[],_,_,_,_,h,_,_=>by simp at h
 |_::_,[],_,_,_,_,h,_=>by simp at h
 |p::P,w::vs,0,m,nd,h1,h2,hk=>by
  simp at h1 h2;subst h1;subst h2;show bindL kindOf ((p,w)::P.zip vs) m p=_;unfold bindL;rw[Iv λv hv=>(YF.mp nd).1 (DS hv).1,if_pos hk];simp
 |p::P,w::vs,i+1,m,nd,h1,h2,hk=>by
  show bindL kindOf ((p,w)::P.zip vs) m x=_;unfold bindL;exact Ix (i:=i) (YF.mp nd).2 (by simpa using h1) (by simpa using h2) hk
theorem Iy{kindOf:Str->Option Zb}{x:Str}{v:X0}:∀{P:List Str} {vs:List X0} {i:Nat} {m:Str->Option X0},P.Nodup->P[i]?=some x->vs[i]?=some v->kindOf x≠some .local->
  bindC kindOf (P.zip vs) m x=some v
 |[],_,_,_,_,h,_,_=>by simp at h
 |_::_,[],_,_,_,_,h,_=>by simp at h
 |p::P,w::vs,0,m,nd,h1,h2,hk=>by
  simp at h1 h2;subst h1;subst h2;show bindC kindOf ((p,w)::P.zip vs) m p=_;unfold bindC;rw[Iw λv hv=>(YF.mp nd).1 (DS hv).1,if_neg hk];simp
 |p::P,w::vs,i+1,m,nd,h1,h2,hk=>by
  show bindC kindOf ((p,w)::P.zip vs) m x=_;unfold bindC;exact Iy (i:=i) (YF.mp nd).2 (by simpa using h1) (by simpa using h2) hk
def U1(N:List Str)(vs:List V):St:=vs.map some++Xj (N.length - vs.length) none
def cxOf(CX:CXT)(P:Xk)(w:Xh)(K:X5)(mg:Str->Option X0)(base:Heap)(N:List Str)(qual:Str)(scope:Scope)(f:Addr)(cd:X0)(A:Xt)(outer:List Env)(s:X1)(H:Hp)(E:XK):Cx where
 prog:=P
 w:=w
 K:=K
 mg:=mg
 base:=base
 A:=A.deeper (envOfC qual scope s.heap.objs.size f cd)
 N:=N
 s₀:=s
 H₀:=H
 env:=envOfC qual scope s.heap.objs.size f cd
 outer:=outer
 stack:=envOfC qual scope s.heap.objs.size f cd::outer
 ex:=[]
 calm:=true
 fn:=λ_=>true
 pn:=[]
 xe:=λe s'=>X3 (X6 P w) (A.deeper (envOfC qual scope s.heap.objs.size f cd)) (leaving (envOfC qual scope s.heap.objs.size f cd) e) (λ_ s''=>CX outer H s E e s'') (λe' s''=>CX outer H s E e' s'') s'
theorem Iz{sc:Scope}{n:Nat}{x:Str}(h:sc.names.lookup x=some .cell):∃c,(cellsFrom n sc.names []).lookup x=some c:=by
 have q:=Hf sc.names n [] (.inl h);exact Option.isSome_iff_exists.mp q
theorem Tu{CX:CXT}{P:Xk}{w:Xh}{K:X5}{mg:Str->Option X0}{base:Heap}{N ps:List Str}{qual:Str}{scope:Scope}{f:Addr}{cd:X0}{A:Xt}{outer:List Env}{s s1:X1}{H:Hp}{E:XK}{us:List X0}{vs:List V}
  (S:FnScope N ps scope) (hd:A.handled=none) (e0:Env0 P w K mg base A outer s H) (hl:vs.length=ps.length) (r:Vals vs us)
  (x:InCallC s s.heap.objs.size (bindL (envOfC qual scope s.heap.objs.size f cd).kindOf (ps.zip us) λ_=>none) (cellsFrom (s.heap.objs.size+1) scope.names []) (bindC (envOfC qual scope s.heap.objs.size f cd).kindOf (ps.zip us) λ_=>none) s1):
  Inv (cxOf CX P w K mg base N qual scope f cd A outer s H E) [] (U1 N vs) H s1:=by
 have hpl:ps.length≤N.length:=by have:=congrArg WF S.pre;rw[YM]at this;lia
 obtain⟨h1,tk,rfl,hk⟩:=x.done;have noA:∀b:Addr,b∉(cxOf CX P w K mg base N qual scope f cd A outer s H E).ex:=λb z=>absurd (show b∈([]:List Addr)from z) (by simp)
 refine⟨⟨e0.mod,S.kind,rfl,rfl,Xi _,λy z c h1 h2=>?_,λy hy=>?_,λy c _ h=>?_,λ_=>hd,Around.frames_deeper e0.frames,.inr ⟨rfl,rfl⟩,λb z=>absurd z (noA b),e0.bs,e0.bsz,λb _ _=>noA b,λb z=>absurd z (noA b),e0.funs,e0.frf⟩,
  rfl,e0.bare,Un.kept hk,⟨_,x.toInCall.ns,λi y v h1 h2 h3=>?_⟩,λy c h=>⟨_,x.cell y c h⟩,e0.hok.fresh (Xi _),λy c h=>?_,λp hp=>absurd (show p∈([]:List (Addr×Obj))from hp) (by simp),e0.hok.kept hk,?_⟩
 ·exact name_of_addr x.apart (VY h1) (VY h2)
 ·have hy:scope.names.lookup y=some .cell\/scope.names.lookup y=some .free:=hy;rcases hy with hy|hy
  ·exact Iz hy
  ·exact absurd rfl (S.nofree _ (VY hy))
 ·exact C9 (x.above y c (VY h))
 ·have hi:i<vs.length:=by
   unfold U1 at h2;by_cases hi:i<vs.length
   ·exact hi
   ·rw[ZS (by simpa using hi)]at h2
    rw[Hc]at h2;split at h2<;>cases h2
  have ha:vs[i]?=some v:=by
   unfold U1 at h2;rw[Uh (by simpa using hi),Xw]at h2
   cases e:vs[i]? with
   |none=>rw[e]at h2;cases h2
   |some a=>rw[e]at h2;cases h2;rfl
  obtain⟨u,hu,rv⟩:=r.get ha;have hp:ps[i]?=some y:=by
   rw[<- S.pre,List.getElem?_take_of_lt (by lia)];exact h1
  have ndP:ps.Nodup:=by rw[<- S.pre];exact S.nd.sublist (List.take_sublist _ _)
  refine⟨u,rv,?_⟩;rcases S.par y (XE hp)with k|k
  ·exact .inl ⟨k,Ix ndP hp hu k⟩
  ·obtain⟨c,e⟩:=Iz (n:=s.heap.objs.size+1) k;refine .inr ⟨.inl k,c,e,?_⟩;have q:=x.cell y c e;rw[Iy ndP hp hu (by show scope.names.lookup y≠_;rw[k];decide)]at q
   exact q
 ·exact e0.hok.fresh (C9 (x.above y c (VY h)))
 ·unfold U1;show _=N.length;rw[Yz,Xa,Ze];lia
theorem Tv{CX:CXT}{P:Xk}{w:Xh}{K:X5}{mg:Str->Option X0}{base:Heap}{k:Nat}{f:Addr}{name qual:Str}{params:Arguments}{body:List Stmt}{scope:Scope}{dV kV doc pm cdv ct oc:X0}{an od:Option Addr}
  {osl:Array (Option X0)} {N ps:List Str} {sp:Sp} (lk:K.lookup f=some ⟨oc,od,.func (XO name qual params body scope dV kV doc pm an cdv ct),osl⟩) (hcd:YA K cdv qual=true) (S:FnScope N ps scope)
  (len:∀vs H Q E,sp vs H Q E->vs.length=ps.length)
  (hbody:∀(A:Xt) (outer:List Env) (s:X1) (H:Hp) (vs:List V) (Q:VK) (E:XK),Room k (A.deeper (envOfC qual scope s.heap.objs.size f cdv))->sp vs H Q E->
   ∃t,PSs (cxOf CX P w K mg base N qual scope f cdv A outer s H E) body t/\t {nx:=λ_ H'=>Q .non H',rt:=Q} (U1 N vs) H):
  FnOk P w K mg base CX (k+1) f (XO name qual params body scope dV kV doc pm an cdv ct) ps sp:=by
 refine⟨len,λA outer s H args us vs Q E hr e0 hb r hsp=>?_⟩;have hl:=len _ _ _ _ hsp;have KX:K.In s.heap:=e0.mod.kin.keeps λb o e=>(e0.bs b o e).1;have lim:s.heap.NoLimit:=e0.mod.nolimit.keeps λb o e=>(e0.bs b o e).1;have hkind:∀y∈ps.zip us,scope.names.lookup y.1=some .local\/(scope.names.lookup y.1=some .cell/\((cellsFrom (s.heap.objs.size+1) scope.names []).lookup y.1).isSome=true):=fun⟨n,v⟩ hy=>by
  rcases S.par n (DS hy).1 with q|q
  ·exact .inl q
  ·exact .inr ⟨q,Hf _ _ _ (.inl q)⟩
 refine codeAny_call_function hr.depth (KX _ _ lk) rfl S.co S.gen rfl (PySem.W.codeRec_of KX hcd) (hb _ _ _ _ ?_);refine wpAny_newFunctionEnv_cells S.kind hkind λenv he s1 x=>?_;subst he;refine⟨lim.keeps x.toInCall.keep,codeAny_func ?_⟩;obtain⟨t,ht,hq⟩:=hbody A outer s H vs Q E (hr.deeper _) hsp;have I:Inv (cxOf CX P w K mg base N qual scope f cdv A outer s H E) [] (U1 N vs) H s1:=Tu S hr.hd e0 hl r x;refine ZN (ht [] s1 (U1 N vs) H _ I hq) (λfl s' hs=>?_) λe s' hs=>hs;have fin:∀{σ':St} {H':Hp} {v:V} {u:X0},Inv (cxOf CX P w K mg base N qual scope f cdv A outer s H E) [] σ' H' s'->RelV v u->Q v H'->CE outer P w H s Q u s':=
  fun{σ' H' v u} J rv q=>⟨v,H',J.os,J.bare,J.base,J.hok,rv,q⟩
 cases fl with
 |ret u=>
  obtain⟨v,σ',H',J,rv,q⟩:=hs;exact fin J rv q
 |next=>
  obtain⟨σ',H',J,q⟩:=hs;exact fin (v:=V.non) (u:=Xz) J rfl q
 |brk=>
  obtain⟨_,_,_,q⟩:=hs;exact Yg q
 |cont=>
  obtain⟨_,_,_,q⟩:=hs;exact Yg q
section
variable{X:Cx}{x:Str}{p pos:Pos}{e:Expr}{es:List Expr}{t:TA}{id T:String}{r:List V->Hp->VK->Prop}
def tCB(r:List V->Hp->VK->Prop)(t:TA):TE:=λσ H Q=>t σ H λvs H1=>r vs H1 Q
theorem Tw(hc:CallR X (.builtin id) r)(hg:Gl X x)(hm:X.mg x=none)(hv:YE x=some (.builtin id))(ha:PA X (e::es) t)(hn:x≠"__name__":=by decide)(hdb:(x==("__debug__":Str))=false:=by decide)
  (he:XB (e::es) X.env=(false,eval e X.env)::XB es X.env:=by rfl) (hpl:(Y4 pos (XB es X.env)).any (·.1)=false:=by rfl):PE X (.Call (.Name x p) (e::es) [] pos) (tCB r t):=by
 intro pins s σ H Q I h;refine Uy (ZZ I hg hm hv ?_ hn hdb);exact Hi (thn (ha pos pins s σ H _ I h) λus s1 ⟨vs,H1,I1,r1,q1⟩=>hc pins s1 σ H1 vs us Q I1 r1 q1) he hpl
theorem Tx(hc:CallR X (.type T) r)(hg:Gl X x)(hm:X.mg x=none)(hv:YE x=some (.type T))(ha:PA X (e::es) t)(hn:x≠"__name__":=by decide)(hdb:(x==("__debug__":Str))=false:=by decide)
  (he:XB (e::es) X.env=(false,eval e X.env)::XB es X.env:=by rfl) (hpl:(Y4 pos (XB es X.env)).any (·.1)=false:=by rfl):PE X (.Call (.Name x p) (e::es) [] pos) (tCB r t):=by
 intro pins s σ H Q I h;refine Uy (ZZ I hg hm hv ?_ hn hdb);exact Va (thn (ha pos pins s σ H _ I h) λus s1 ⟨vs,H1,I1,r1,q1⟩=>hc pins s1 σ H1 vs us Q I1 r1 q1) he hpl
end
end L2
namespace HT
open PySem PyProof.Rows
section
open PySem.SeqAt
open PySem.AutoSeq1 (wpAny_loadPart')
open PySem.MeetsSeq PySem.MeetsSeq2 PySem.MeetsSeq3
end
section
variable{prog:Xk}{w:Xh}{A:Xt}{E:X0->X1->Prop}{s:X1}
theorem cat_tup{t b:Addr}{vs ws:List X0}{Q:X0->X1->Prop}(ht:IsTup s.heap t vs.toArray)(hb:IsTup s.heap b ws.toArray)(hv:vs≠ [])
  (h1:ws=[]->Q (.ref t) s) (h2:ws≠ []->Q (.ref s.heap.objs.size) {s with heap:=s.heap.push {cls:=.type "tuple",data:=.seq (vs++ws).toArray} })
  (hsz:vs.length+ws.length≤sizeLine):X3 (X6 prog w) A (Yy .Add (.ref t) (.ref b)) Q E s:=by
 obtain⟨⟨cls,dd,data,sl⟩,ho,hc,n,hd⟩:=id ht;obtain⟨⟨cls2,dd2,data2,sl2⟩,ho2,hc2,n2,hd2⟩:=id hb;simp only at hc hd hc2 hd2;subst hc hd hc2 hd2;have e:vs.toArray++ws.toArray=(vs++ws).toArray:=by simp
 by_cases hw:ws=[]
 ·exact concat_meets ⟨_,ho,rfl⟩ ⟨_,ho2,rfl⟩ noFill_tuple_add seq_tuple_add HB Hy (Hw _ _)
   (tuple_addW1 t b vs.toArray ws.toArray n n2 dd dd2 sl sl2 (by simpa using hv) (by simp[hw])) ⟨ho,ho2,h1 hw⟩
 ·refine concat_meets ⟨_,ho,rfl⟩ ⟨_,ho2,rfl⟩ noFill_tuple_add seq_tuple_add HB Hy (Hw _ _)
   (tuple_addW2 t b vs.toArray ws.toArray n n2 dd dd2 sl sl2 (by simpa using hv) (by simpa using hw) (by rw[XW,XW];exact hsz)) ⟨ho,ho2,?_⟩
  rw[e];exact h2 hw
def sIx(n d:Nat):Option Int->Nat
 |none=>d
 |some v=>if v<0 then(v+(n:Int)).toNat else min v.toNat n
theorem sIx_none(n d:Nat):sIx n d none=d:=rfl
theorem sIx_nat(n d k:Nat):sIx n d (some (k:Int))=min k n:=by
 show(if(k:Int)<0 then((k:Int)+(n:Int)).toNat else min (k:Int).toNat n)=min k n;rw[if_neg (by lia),YQ]
theorem Ty(n d:Nat)(hd:d≤n)(o:Option Int):sIx n d o≤n:=by
 cases o with
 |none=>exact hd
 |some v=>
  show(if v<0 then(v+(n:Int)).toNat else min v.toNat n)≤n;by_cases hv:v<0
  ·rw[if_pos hv];lia
  ·rw[if_neg hv];exact Nat.min_le_right _ _
theorem IA(v:Int)(n d:Nat):(if v<0 then max (v+(n:Int)) 0 else min v (n:Int))=((sIx n d (some v):Nat):Int):=by
 show(if v<0 then max (v+(n:Int)) 0 else min v (n:Int))=(((if v<0 then(v+(n:Int)).toNat else min v.toNat n):Nat):Int);by_cases hv:v<0
 ·simp only[if_pos hv];lia
 ·simp only[if_neg hv];lia
theorem Tz(lo hi:Option Int)(n:Nat):E6 lo hi 1 (n:Int)=(((sIx n 0 lo:Nat):Int),((sIx n n hi:Nat):Int)):=by
 have h1:¬((1:Int)<0):=by lia
 unfold E6;simp only[h1,if_false];refine Prod.ext ?_ ?_
 ·cases lo with
  |none=>rfl
  |some v=>exact IA v n 0
 ·cases hi with
  |none=>rfl
  |some v=>exact IA v n n
theorem TB(i j:Nat):Ci (i:Int) (j:Int) 1=j - i:=by
 unfold Ci;have h1:(1:Int)>0:=by lia
 simp only[h1,if_true,Int.ediv_one];split<;>lia
theorem IB{v:X0}{o:Option Int}{Q:Option Int->X1->Prop}(p:IsPart v o)(h:Q o s):X3 (X6 prog w) A (Builtin.Slice.slicePartIndex v) Q E s:=by
 cases p with
 |none=>exact slicePart_none h
 |int i t=>exact slicePart_int h
theorem IC{sl:Addr}{vl vu:X0}{lo hi:Option Int}{n:Nat}{Q:Int×Int×Nat->X1->Prop}(hs:s.heap.IsSliceOf sl vl vu .none)(pl:IsPart vl lo)(pu:IsPart vu hi)
  (h:Q (((sIx n 0 lo:Nat):Int),1,sIx n n hi - sIx n 0 lo) s):X3 (X6 prog w) A (Hs (.ref sl) (pure (n:Int))) Q E s:=by
 obtain⟨os,hos,hcs,hds⟩:=id hs;unfold Hs Builtin.Slice.sliceFields;refine X2 (X2 (wpAny_field hos hds (x:=vl) rfl (X2 (wpAny_field hos hds (x:=vu) rfl (X2 (wpAny_field hos hds (x:=.none) rfl (X8 ?_)))))));refine X2 (slicePart_none ?_);show X3 _ _ (if((1:Int)==0)=true then _ else _) _ _ s;rw[if_neg (by decide)]
 refine X2 (IB pl (X2 (IB pu (X2 (X8 ?_)))));show X3 _ _ (match E6 lo hi 1 (n:Int)with|(lo,hi)=>pure (lo,(1:Int),Ci lo hi 1)) _ _ s
 rw[Tz lo hi n];show X3 _ _ (pure (((sIx n 0 lo:Nat):Int),(1:Int),Ci ((sIx n 0 lo:Nat):Int) ((sIx n n hi:Nat):Int) 1)) _ _ s;rw[TB];exact X8 h
theorem TC(xs:Array X0)(i k:Nat):((Xx k).filterMap fun(m:Nat)=>xs[((i:Int)+(m:Int)*1).toNat]?).toArray=((xs.toList.drop i).take k).toArray:=by
 have e:(fun(m:Nat)=>xs[((i:Int)+(m:Int)*1).toNat]?)=λm=>xs[i+m]?:=by
  funext m
  have:((i:Int)+(m:Int)*1).toNat=i+m:=by lia
  rw[this]
 rw[e];have:=pick_run xs i k;rw[List.filterMap_map]at this;have e2:((λx=>xs[x]?)∘ λx=>i+x)=λm=>xs[i+m]?:=rfl;rw[e2]at this;rw[this]
theorem getItem_tuple_cut{t sl:Addr}{items:Array X0}{vl vu:X0}{lo hi:Option Int}{Q:X0->X1->Prop}(ht:IsTup s.heap t items)(hs:s.heap.IsSliceOf sl vl vu .none)(pl:IsPart vl lo)(pu:IsPart vu hi)
  (hw:¬(sIx items.size 0 lo=0/\sIx items.size items.size hi=items.size))
  (h:Q (.ref s.heap.objs.size) {s with heap:=s.heap.push {cls:=.type "tuple",data:=.seq ((items.toList.drop (sIx items.size 0 lo)).take (sIx items.size items.size hi - sIx items.size 0 lo)).toArray} })
  (hsz:items.size≤sizeLine):X3 (X6 prog w) A (getItem (.ref t) (.ref sl)) Q E s:=by
 have htake:sizeOk (.seq ((items.toList.drop (sIx items.size 0 lo)).take (sIx items.size items.size hi - sIx items.size 0 lo)).toArray):=by
  show((items.toList.drop (sIx items.size 0 lo)).take (sIx items.size items.size hi - sIx items.size 0 lo)).toArray.size≤sizeLine;rw[XW,YM,WC,Y3];lia
 have hj:sIx items.size items.size hi≤items.size:=Ty _ _ (Xi _) hi;obtain⟨os,hos,hcs,hds⟩:=id hs;have hTs:s.TypeIs (.ref sl) "slice":=⟨os,hos,hcs⟩;unfold getItem
 try with_reducible refine YL ?_
 first|refine X2 (X8 ?_)|skip
 refine X2 (wpAny_sequenceKey ht.typeIs (by decide) ?_)
 refine X2 (BG (name:=Yj "__getitem__") ht.typeIs VW
  (Zc VW ht.typeIs entry_tuple_getitem ?_ (args_tuple_getitem _ _)))
 show X3 _ _ (Hl (.ref t)>>= _) _ _ s;refine X2 (tupleItemsOf_ ht ?_);refine X2 (ZR hTs ?_);rw[if_pos (by decide)]
 refine X2 (IC hs pl pu ?_);have hno:¬((((sIx items.size 0 lo:Nat):Int)==0&&(1:Int)==1&&(sIx items.size items.size hi - sIx items.size 0 lo)==items.size)=true):=by
  intro q;rw[Y2,Y2]at q;have q1:((sIx items.size 0 lo:Nat):Int)=0:=eq_of_beq q.1.1;have q2:sIx items.size items.size hi - sIx items.size 0 lo=items.size:=eq_of_beq q.2;exact hw ⟨by lia,by lia⟩
 show X3 _ _ (if(((sIx items.size 0 lo:Nat):Int)==0&&(1:Int)==1&&(sIx items.size items.size hi - sIx items.size 0 lo)==items.size)=true then _ else _) _ _ s;rw[if_neg hno,TC]
 first
  |exact X2 (m:=Cf _) (Ug (X8 ⟨_,rfl,X8 h⟩) htake)
  |exact X2 (m:=Cf _) (Ug (X2 (X8 (X8 ⟨_,rfl,X8 h⟩))) htake)
  |exact X2 (X2 (m:=Cf _) (Ug (X8 (X8 ⟨_,rfl,X8 h⟩)) htake))
  |exact X2 (X2 (m:=Cf _) (Ug (X8 ⟨_,rfl,X8 h⟩) htake))
end
end HT
namespace L2
open PySem PySem.Spec PyProof.Rows
abbrev TO:=St->Hp->(Option Int->Hp->Prop)->Prop
def PO(X:Cx)(e:Option Expr)(t:TO):Prop:=
 ∀(pins:List (Addr×Obj)) (s:X1) (σ:St) (H:Hp) (Q:Option Int->Hp->Prop),Inv X pins σ H s->t σ H Q->
  X3 (X6 X.prog X.w) X.A (evalPart e X.env) (λu s'=>∃o H',Inv X pins σ H' s'/\IsPart u o/\Q o H') X.xe s
def TD:TO:=λ_ H Q=>Q none H
def TF(t:TE):TO:=λσ H Q=>t σ H λx H1=>∃i,x=.int i/\Q (some i) H1
theorem ID{ns:List Int}:∀{us:List X0},Vals (ns.map V.int) us->IntsAre us ns:=by
 induction ns with
 |nil=>intro us r;rw[Yf]at r;cases r;exact .nil
 |cons n ns ih=>
  intro us r;rw[XD]at r;cases r with
  |cons r1 r2=>
   obtain⟨t,e⟩:=r1;subst e;exact .cons n t (ih r2)
section
variable{X:Cx}{e:Expr}{te:TE}{lo hi:Option Expr}{tl th:TO}{pos p2:Pos}
theorem TH:PO X none TD:=by
 intro pins s σ H Q I h;rw[evalPart_none];exact X8 ⟨none,H,I,.none,h⟩
theorem TJ(h:PE X e te):PO X (some e) (TF te):=by
 intro pins s σ H Q I hw;rw[evalPart_some];refine thn (h pins s σ H _ I hw) λu s1 ⟨x,H1,I1,r1,q1⟩=>?_;obtain⟨i,rfl,q⟩:=q1;obtain⟨t,rfl⟩:=r1;exact⟨some i,H1,I1,.int i t,q⟩
def SlR(X:Cx)(r:V->Option Int->Option Int->Hp->VK->Prop):Prop:=
 ∀(pins:List (Addr×Obj)) (s:X1) (σ:St) (H:Hp) (x:V) (v vl vu:X0) (lo hi:Option Int) (sl:Addr) (Q:VK),Inv X pins σ H s->RelV x v->s.heap.IsSliceOf sl vl vu .none->IsPart vl lo->IsPart vu hi->r x lo hi H Q->
  ∃T id,Vx (.type T) "__getitem__"=pure (some (.builtin id))/\s.TypeIs v T/\X3 (X6 X.prog X.w) X.A (getItem v (.ref sl)) (EP X pins σ Q) X.xe s
theorem SlR.or{r r':V->Option Int->Option Int->Hp->VK->Prop}(h:SlR X r)(h':SlR X r'):SlR X (λx lo hi H Q=>r x lo hi H Q\/r' x lo hi H Q):=by
 intro pins s σ H x v vl vu lo hi sl Q I rx hs pl pu q;rcases q with q|q
 ·exact h pins s σ H x v vl vu lo hi sl Q I rx hs pl pu q
 ·exact h' pins s σ H x v vl vu lo hi sl Q I rx hs pl pu q
def tSl(r:V->Option Int->Option Int->Hp->VK->Prop)(te:TE)(tl th:TO):TE:=λσ H Q=>te σ H λx H1=>tl σ H1 λl H2=>th σ H2 λu H3=>r x l u H3 Q
theorem TK{r:V->Option Int->Option Int->Hp->VK->Prop}(hr:SlR X r)(he:PE X e te)(hl:PO X lo tl)(hu:PO X hi th):PE X (.Subscript e (.Slice lo hi none p2) pos) (tSl r te tl th):=by
 intro pins s σ H Q I h;refine Subscript_ (thn (he pins s σ H _ I h) λv s1 ⟨x,H1,I1,r1,q1⟩=>?_);refine wpAny_Slice (thn (hl pins s1 σ H1 _ I1 q1) λvl s2 ⟨l,H2,I2,pl,q2⟩=>thn (hu pins s2 σ H2 _ I2 q2) λvu s3 ⟨u,H3,I3,pu,q3⟩=>?_);rw[evalPart_none];refine X8 ?_;have I4:Inv X pins σ H3 {s3 with heap:=s3.heap.push {cls:=.type "slice",data:=.fields #[vl,vu,.none]} }:=I3.kept (t':=s3.toks) fun b ob q=>Xu _ q;obtain⟨T,id,hT,ht,hg⟩:=hr pins {s3 with heap:=s3.heap.push {cls:=.type "slice",data:=.fields #[vl,vu,.none]} } σ H3 x v vl vu l u s3.heap.objs.size Q I4 r1 (Heap.IsSliceOf.new ..) pl pu q3;show X3 (X6 X.prog X.w) X.A (subscriptTail e (.Slice lo hi none p2) v (.ref s3.heap.objs.size)) (EP X pins σ Q) X.xe {s3 with heap:=s3.heap.push {cls:=.type "slice",data:=.fields #[vl,vu,.none]} };exact tail_any (ops:=[.ref s3.heap.objs.size,v]) ht hT hg (by with_unfolding_all rfl)
def cutV(xs:List V)(lo hi:Option Int):List V:=(xs.drop (HT.sIx xs.length 0 lo)).take (HT.sIx xs.length xs.length hi - HT.sIx xs.length 0 lo)
theorem IF(xs:List V)(lo hi:Option Int):(cutV xs lo hi).length≤xs.length:=by
 unfold cutV;rw[YM,WC];lia
def rSlT(K:X5):V->Option Int->Option Int->Hp->VK->Prop:=λx lo hi H Q=>∃a xs,x=.ref a/\SqT K H a xs/\
 ¬(HT.sIx xs.length 0 lo=0/\HT.sIx xs.length xs.length hi=xs.length)/\∀p,H p=none->Q (.ref p) (upd H p (.tup (cutV xs lo hi)))
theorem TL:SlR X (rSlT X.K):=by
 intro pins s σ H x v vl vu lo hi sl Q I rx hs pl pu h;obtain⟨a,xs,rfl,hx,hw,q⟩:=h;cases rx;obtain⟨its,r,ht,hz⟩:=I.tuple hx;have hlen:its.toArray.size=xs.length:=by rw[XW];exact r.length.symm
 refine⟨"tuple",_,VW.lookup,ht.typeIs,?_⟩;refine HT.getItem_tuple_cut ht hs pl pu (by rw[hlen];exact hw) ?_ (by rw[hlen];exact hz)
 rw[hlen];refine⟨.ref s.heap.objs.size,_,I.laid (t':=s.toks) (o:=.tup (cutV xs lo hi)) (λb ob q=>Xu _ q) (Xi _) ?_,rfl,q _ (I.hok.fresh (Xi _))⟩;exact⟨Y8 (IF xs lo hi) hz,_,(r.drop (HT.sIx xs.length 0 lo)).take (HT.sIx xs.length xs.length hi - HT.sIx xs.length 0 lo),IsTup.new _ _,_,XS _ rfl,rfl⟩
def TM(K:X5):R2:=λx y H Q=>∃a b xs ys,x=.ref a/\y=.ref b/\SqT K H a xs/\SqT K H b ys/\xs≠ []/\xs.length+ys.length≤sizeLine/\
 (ys=[]->Q (.ref a) H)/\(ys≠ []->∀p,H p=none->Q (.ref p) (upd H p (.tup (xs++ys))))
theorem Vals.nil_iff{xs:List V}{us:List X0}(r:Vals xs us):us=[]↔xs=[]:=by
 cases r with
 |nil=>simp
 |cons _ _=>simp
theorem TN:OpR X (Yy .Add) (TM X.K):=by
 intro pins s σ H x y v u Q I rx ry h;obtain⟨a,b,xs,ys,rfl,rfl,ha,hb,hx,hz,q1,q2⟩:=h;cases rx;cases ry;obtain⟨its,r1,p1,_⟩:=I.tuple ha;obtain⟨its2,r2,p2,_⟩:=I.tuple hb;refine HT.cat_tup p1 p2 (λz=>hx (r1.nil_iff.mp z)) (λz=>⟨.ref a,H,I,rfl,q1 (r2.nil_iff.mp z)⟩) (λz=>?_) (by rw[<- r1.length,<- r2.length];exact hz)
 refine⟨.ref s.heap.objs.size,_,I.laid (t':=s.toks) (o:=.tup (xs++ys)) (λb ob q=>Xu _ q) (Xi _) ?_,rfl,q2 (λw=>z (r2.nil_iff.mpr w)) _ (I.hok.fresh (Xi _))⟩;exact⟨by rw[Yz];exact hz,_,r1.append r2,IsTup.new _ _,_,XS _ rfl,rfl⟩
end
def ixN(n:Nat)(i:Int):Option Nat:=if 0≤i then(if i<n then some i.toNat else none)else if -(n:Int)≤i then some (i+n).toNat else none
def atI{α:Type}(xs:List α)(i:Int):Option α:=(ixN xs.length i).bind λj=>xs[j]?
theorem IG{n:Nat}{i:Int}{j:Nat}(h:ixN n i=some j):seqIndex? i n=some j/\j<n/\ -(n:Int)≤i/\i<n:=by
 unfold ixN at h;by_cases h0:0≤i
 ·rw[if_pos h0]at h;by_cases h1:i<n
  ·rw[if_pos h1]at h;have e:i.toNat=j:=YD h;exact⟨by rw[seqIndex_of h0 h1,e],by lia,by lia,h1⟩
  ·rw[if_neg h1]at h;cases h
 ·rw[if_neg h0]at h;by_cases h1:-(n:Int)≤i
  ·rw[if_pos h1]at h;have e:(i+n).toNat=j:=YD h;exact⟨by rw[seqIndex_neg (by lia) h1,e],by lia,h1,by lia⟩
  ·rw[if_neg h1]at h;cases h
theorem El{α:Type}{xs:List α}{i:Int}{v:α}(h:atI xs i=some v):∃j,seqIndex? i xs.length=some j/\xs[j]?=some v/\j<xs.length/\ -(xs.length:Int)≤i/\i<xs.length:=by
 unfold atI at h;cases e:ixN xs.length i with
 |none=>rw[e]at h;cases h
 |some j=>
  rw[e]at h;obtain⟨h1,h2,h3,h4⟩:=IG e;exact⟨j,h1,h,h2,h3,h4⟩
theorem YI{α:Type}{xs:List α}{j:Nat}{v:α}(h:xs[j]?=some v):atI xs (j:Int)=some v:=by
 have hj:j<xs.length:=(XV.mp h).1;have e:ixN xs.length (j:Int)=some j:=by
  unfold ixN;rw[if_pos (by lia),if_pos (by lia)];simp
 unfold atI;rw[e];exact h
def IH(b:Expr):Prop:=∀o i,subscripted b false o i=operate [o,i] (getItem o i)
def IxR(X:Cx)(r:R2):Prop:=
 ∀(value slice:Expr) (pins:List (Addr×Obj)) (s:X1) (σ:St) (H:Hp) (x y:V) (v u:X0) (Q:VK),Inv X pins σ H s->RelV x v->RelV y u->r x y H Q->
  subscripted slice false v u=operate [v,u] (getItem v u)->X3 (X6 X.prog X.w) X.A (subscriptTail value slice v u) (EP X pins σ Q) X.xe s
def MtR(X:Cx)(id:String)(r:V->List V->Hp->VK->Prop):Prop:=
 ∀(pins:List (Addr×Obj)) (s:X1) (σ:St) (H:Hp) (x:V) (xs:List V) (v:X0) (us:List X0) (Q:VK),Inv X pins σ H s->RelV x v->Vals xs us->r x xs H Q->
  X3 (X6 X.prog X.w) X.A (call (.builtin id) (v::us)) (EP X pins σ Q) X.xe s
section
variable{X:Cx}{a b:Expr}{ta tb:TE}{pos:Pos}
theorem IxR.or{r r':R2}(h:IxR X r)(h':IxR X r'):IxR X (λx y H Q=>r x y H Q\/r' x y H Q):=by
 intro value slice pins s σ H x y v u Q I rx ry q hs;rcases q with q|q
 ·exact h value slice pins s σ H x y v u Q I rx ry q hs
 ·exact h' value slice pins s σ H x y v u Q I rx ry q hs
theorem MtR.or{id:String}{r r':V->List V->Hp->VK->Prop}(h:MtR X id r)(h':MtR X id r'):MtR X id (λx xs H Q=>r x xs H Q\/r' x xs H Q):=by
 intro pins s σ H x xs v us Q I rx rs q;rcases q with q|q
 ·exact h pins s σ H x xs v us Q I rx rs q
 ·exact h' pins s σ H x xs v us Q I rx rs q
theorem TQ{r:R2}(hr:IxR X r)(ha:PE X a ta)(hb:PE X b tb)(hs:IH b):PE X (.Subscript a b pos) (tOp r ta tb):=by
 intro pins s σ H Q I h;exact Subscript_ (binT ha hb I h λv u s2 x y H2 I2 rx ry q=>hr a b pins s2 σ H2 x y v u Q I2 rx ry q (hs _ _))
def rIxL(K:X5):R2:=λx y H Q=>∃p xs i v,x=.ref p/\y=.int i/\SqL K H p xs/\atI xs i=some v/\Q v H
def rIxT(K:X5):R2:=λx y H Q=>∃p xs i v,x=.ref p/\y=.int i/\SqT K H p xs/\atI xs i=some v/\Q v H
def rIxS:R2:=λx y H Q=>∃z i c,x=.str z/\y=.int i/\z.length≤sizeLine/\atI z.cps.toList i=some c/\Q (.str ⟨#[c]⟩) H
theorem II:IxR X (rIxL X.K):=by
 intro value slice pins s σ H x y v u Q I rx ry h hs;obtain⟨p,xs,i,z,rfl,rfl,hq,he,q⟩:=h;cases rx;obtain⟨t,rfl⟩:=ry;obtain⟨its,r,pl,hz⟩:=I.list hq;obtain⟨j,h1,h2,h3,h4,h5⟩:=El he;obtain⟨w,ew,rw'⟩:=r.get h2;have hl:=r.length;have hn:=W5;have fin:EP X pins σ Q w s:=⟨z,H,I,rw',q⟩;by_cases h0:0≤i
 ·have hj:i.toNat=j:=by
   rw[seqIndex_of h0 h5]at h1;exact YD h1
  exact item_listR pl.isList h0 (by lia) (by rw[hj];simpa using ew) fin hs
 ·have hj:(i+(its.toArray.size:Int)).toNat=j:=by
   rw[seqIndex_neg (by lia) h4]at h1
   rw[XW,<- hl];exact YD h1
  exact subscriptTail_builtinR (x:=w) pl.isList.typeIs slot_list_getitem.lookup
   (wpAny_getItem_list_neg (Q:=λr s'=>r=w/\EP X pins σ Q r s') pl.isList (by lia) (by rw[XW]<;>lia) (by lia) (by rw[hj];simpa using ew) ⟨rfl,fin⟩) hs
theorem TR:IxR X (rIxT X.K):=by
 intro value slice pins s σ H x y v u Q I rx ry h hs;obtain⟨p,xs,i,z,rfl,rfl,hq,he,q⟩:=h;cases rx;obtain⟨t,rfl⟩:=ry;obtain⟨its,r,pl,hz⟩:=I.tuple hq;obtain⟨j,h1,h2,h3,h4,h5⟩:=El he;obtain⟨w,ew,rw'⟩:=r.get h2;have hl:=r.length;have hn:=W5;have fin:EP X pins σ Q w s:=⟨z,H,I,rw',q⟩;exact subscriptTail_builtinR (x:=w) pl.typeIs slot_tuple_getitem.lookup
  (getItem_tuple (j:=j) (Q:=λr s'=>r=w/\EP X pins σ Q r s') pl (by lia) (by lia) (by rw[XW,<- hl];exact h1) (by simpa using ew) ⟨rfl,fin⟩) hs
theorem TU:IxR X rIxS:=by
 intro value slice pins s σ H x y v u Q I rx ry h hs;obtain⟨z,i,c,rfl,rfl,hz,he,q⟩:=h;obtain⟨t,rfl⟩:=rx;obtain⟨t',rfl⟩:=ry;obtain⟨j,h1,h2,h3,h4,h5⟩:=El he;have hl:z.cps.toList.length=z.length:=by simp[Cd]
 rw[hl]at h1 h4 h5;have hn:=W5;exact tail_any (typeIs_str s z t) slot_str_getitem.lookup (getItem_str (c:=c) (by
  have e1:decide (i< -(2^63:Int))=false:=decide_eq_false (by lia)
  have e2:decide (i ≥ 2^63)=false:=decide_eq_false (by lia)
  rw[e1,e2,Bool.or_false]) (by rw[h1];simpa using h2) ⟨.str ⟨#[c]⟩,H,I.tok _,⟨_,rfl⟩,q⟩) hs
theorem TV(its:List X0)(n j:Nat)(u:X0):Uq (·.setIfInBounds j u) {cls:=.type "list",data:=.seq its.toArray n}={cls:=.type "list",data:=.seq (its.set j u).toArray n}:=by
 simp[Uq]
theorem Inv.lst{pins:List (Addr×Obj)}{σ:St}{H:Hp}{s:X1}{p:Addr}{xs:List V}(I:Inv X pins σ H s)(h:H p=some (.lst xs)):
  ∃(its:List X0) (n:Nat),Vals xs its/\s.heap.get? p=some {cls:=.type "list",data:=.seq its.toArray n}/\xs.length≤sizeLine:=by
 obtain⟨z,its,n,r,e⟩:=I.hok p _ h;exact⟨its,n,r,e,z⟩
theorem Inv.lstUpd{pins:List (Addr×Obj)}{σ:St}{H:Hp}{s:X1}{p:Addr}{xs ys:List V}{its its':List X0}{n n':Nat}{f:Obj->Obj}(I:Inv X pins σ H s)(h:H p=some (.lst xs))
  (ho:s.heap.get? p=some {cls:=.type "list",data:=.seq its.toArray n}) (hf:f {cls:=.type "list",data:=.seq its.toArray n}={cls:=.type "list",data:=.seq its'.toArray n'}) (r:Vals ys its') (hz:ys.length≤sizeLine) (t:Nat):
  Inv X pins σ (upd H p (.lst ys)) {s with heap:=s.heap.update p f,toks:=t}:=by
 have e:(s.heap.update p f).get? p=some {cls:=.type "list",data:=.seq its'.toArray n'}:=by
  rw[V2 f ho (by rw[hf]<;>rfl),hf]
 refine I.write (x:=p) (e:=p) (by rw[h];trivial) (.inl rfl) (λb u hb q=>(VN _ _ (XU hb)).trans q) ⟨_,e⟩ ?_
 exact⟨hz,its',n',r,e⟩
def TW:V->V->V->Hp->(Hp->Prop)->Prop:=λo i v H Q=>∃p xs k j,o=.ref p/\i=.int k/\H p=some (.lst xs)/\ixN xs.length k=some j/\Q (upd H p (.lst (xs.set j v)))
theorem TX:PSet X TW:=by
 intro pins s σ H o i v ov iv u Q I ro ri rv h;obtain⟨p,xs,k,j,rfl,rfl,hp,hj,q⟩:=h;cases ro;obtain⟨t,rfl⟩:=ri;obtain⟨its,n,r,ho,hz⟩:=I.lst hp;obtain⟨h1,h2,h3,h4⟩:=IG hj;have hl:=r.length;have hn:=W5;have I':Inv X pins σ (upd H p (.lst (xs.set j v))) {s with heap:=s.heap.update p (Uq (·.setIfInBounds j u))}:=
  I.lstUpd hp ho (TV its n j u) (r.set rv j) (by rw[UD];exact hz) s.toks
 by_cases h0:0≤k
 ·have hk:k.toNat=j:=by
   rw[seqIndex_of h0 h4]at h1;exact YD h1
  exact PySem.W.ki_setAt ho h0 (by lia) (by rw[XW,<- hl];exact h4) (by rw[hk];exact⟨_,I',q⟩)
 ·have hk:(k+(its.toArray.size:Int)).toNat=j:=by
   rw[seqIndex_neg (by lia) h3]at h1
   rw[XW,<- hl];exact YD h1
  exact PySem.W.ki_setBack ho (by lia) (by rw[XW,<- hl];exact h3) (by lia) (by rw[hk];exact⟨_,I',q⟩)
theorem Em(lo hi:Option Int)(n:Nat):(Z4 lo hi none n).1=((HT.sIx n 0 lo:Nat):Int)/\(Z4 lo hi none n).2.1=((HT.sIx n n hi:Nat):Int)/\(Z4 lo hi none n).2.2=1:=by
 refine⟨?_,?_,rfl⟩
 ·cases lo with
  |none=>simp[Z4,HT.sIx]
  |some i=>
   simp only[Z4,HT.sIx,Option.getD_none,show(1:Int)>0 by decide,if_true]
   by_cases h:i<0
   ·simp only[h,if_true]<;>lia
   ·simp only[h,if_false]<;>lia
 ·cases hi with
  |none=>simp[Z4,HT.sIx]
  |some i=>
   simp only[Z4,HT.sIx,Option.getD_none,show(1:Int)>0 by decide,if_true]
   by_cases h:i<0
   ·simp only[h,if_true]<;>lia
   ·simp only[h,if_false]<;>lia
theorem TY(its:List X0)(lo hi:Option Int):slicePick its.toArray lo hi none=((its.drop (HT.sIx its.length 0 lo)).take (HT.sIx its.length its.length hi - HT.sIx its.length 0 lo)).toArray:=by
 obtain⟨h1,h2,h3⟩:=Em lo hi its.toArray.size;unfold slicePick;rw[h1,h2,h3];simp only[sliceRange_one,pick_run,XW]<;>rfl
def rSlL(K:X5):V->Option Int->Option Int->Hp->VK->Prop:=λx lo hi H Q=>∃a xs,x=.ref a/\SqL K H a xs/\∀p,H p=none->Q (.ref p) (upd H p (.lst (cutV xs lo hi)))
theorem IJ:SlR X (rSlL X.K):=by
 intro pins s σ H x v vl vu lo hi sl Q I rx hs pl pu h;obtain⟨a,xs,rfl,hx,q⟩:=h;cases rx;obtain⟨its,r,ht,hz⟩:=I.list hx;have hlen:=r.length;refine⟨"list",_,slot_list_getitem.lookup,ht.isList.typeIs,?_⟩;refine wpAny_getItem_list_slice ht.isList hs pl pu .none (by simp) ?_ (by rw[XW]<;>lia)
 rw[TY,<- hlen];refine⟨.ref s.heap.objs.size,_,I.laid (t':=s.toks) (o:=.lst (cutV xs lo hi)) (λb ob q=>Xu _ q) (Xi _) ?_,rfl,q _ (I.hok.fresh (Xi _))⟩;exact⟨Y8 (IF xs lo hi) hz,_,0,(r.drop (HT.sIx xs.length 0 lo)).take (HT.sIx xs.length xs.length hi - HT.sIx xs.length 0 lo),XS _ rfl⟩
def U2:V->Bool
 |.non=>true
 |.bl _=>true
 |.int _=>true
 |.str _=>true
 |_=>false
def eqV:V->V->Bool
 |.non,.non=>true
 |.bl a,.bl b=>a==b
 |.bl a,.int b=>(if a then 1 else 0)==b
 |.int a,.bl b=>a==(if b then 1 else 0)
 |.int a,.int b=>a==b
 |.str a,.str b=>a==b
 |_,_=>false
theorem IK{A:Xt}{s:X1}{y x:V}{u v:X0}(ry:RelV y u)(rx:RelV x v)(fy:U2 y=true)(fx:U2 x=true):SeqAt.EqAt A s u v (eqV y x):=by
 cases y with
 |non=>
  cases ry;cases x with
  |non=>cases rx;exact SeqAt.EqAt.same _
  |bl b=>cases rx;exact SeqAt.EqAt.none_bool b
  |int b=>obtain⟨t,rfl⟩:=rx;exact SeqAt.EqAt.none_int b t
  |str b=>obtain⟨t,rfl⟩:=rx;exact SeqAt.EqAt.none_str b t
  |_=>exact absurd (show false=true from fx) XC
 |bl a=>
  cases ry;cases x with
  |non=>cases rx;exact SeqAt.EqAt.bool_none a
  |bl b=>cases rx;exact SeqAt.EqAt.bool_bool a b
  |int b=>obtain⟨t,rfl⟩:=rx;exact SeqAt.EqAt.bool_int a b t
  |str b=>obtain⟨t,rfl⟩:=rx;exact SeqAt.EqAt.bool_str a b t
  |_=>exact absurd (show false=true from fx) XC
 |int a=>
  obtain⟨t',rfl⟩:=ry;cases x with
  |non=>cases rx;exact SeqAt.EqAt.int_none a t'
  |bl b=>cases rx;exact SeqAt.EqAt.int_bool a t' b
  |int b=>obtain⟨t,rfl⟩:=rx;exact SeqAt.EqAt.int_int a t' b t
  |str b=>obtain⟨t,rfl⟩:=rx;exact HR a t' b t
  |_=>exact absurd (show false=true from fx) XC
 |str a=>
  obtain⟨t',rfl⟩:=ry;cases x with
  |non=>cases rx;exact SeqAt.EqAt.str_none a t'
  |bl b=>cases rx;exact SeqAt.EqAt.str_bool a t' b
  |int b=>obtain⟨t,rfl⟩:=rx;exact HS a t' b t
  |str b=>obtain⟨t,rfl⟩:=rx;exact SeqAt.EqAt.str_str a t' b t
  |_=>exact absurd (show false=true from fx) XC
 |_=>exact absurd (show false=true from fy) XC
def eqU(x:V)(u:X0):Bool:=match u with
 |.none=>eqV .non x
 |.bool b=>eqV (.bl b) x
 |.int i _=>eqV (.int i) x
 |.str z _=>eqV (.str z) x
 |_=>false
theorem IL{x y:V}{u:X0}(r:RelV y u)(f:U2 y=true):eqU x u=eqV y x:=by
 cases y with
 |non=>cases r;rfl
 |bl b=>cases r;rfl
 |int i=>obtain⟨t,rfl⟩:=r;rfl
 |str z=>obtain⟨t,rfl⟩:=r;rfl
 |_=>exact absurd (show false=true from f) XC
theorem WR{x:V}:∀{xs:List V} {us:List X0},Vals xs us->xs.all U2=true->us.any (eqU x)=xs.any λy=>eqV y x
 |_,_,.nil,_=>rfl
 |y::xs,u::us,.cons r t,f=>by
  rw[UZ,Y2]at f;rw[ZV,ZV,IL r f.1,WR t f.2]
theorem WT{A:Xt}{s:X1}{x:V}{v:X0}(rx:RelV x v)(fx:U2 x=true):∀{xs:List V} {us:List X0},Vals xs us->xs.all U2=true->∀u∈us,SeqAt.EqAt A s u v (eqU x u)
 |_,_,.nil,_=>λu hu=>by cases hu
 |y::xs,u::us,.cons r t,f=>λu' hu=>by
  rw[UZ,Y2]at f;rcases Xr.mp hu with rfl|hu
  ·rw[IL r f.1];exact IK r rx f.1 fx
  ·exact WT rx fx t f.2 u' hu
def inV(x:V)(xs:List V):Bool:=xs.any λy=>eqV y x
def rIn(K:X5)(neg:Bool):R2:=λx y H Q=>∃p xs,y=.ref p/\(SqL K H p xs\/SqT K H p xs)/\U2 x=true/\xs.all U2=true/\Q (.bl (if neg then !inV x xs else inV x xs)) H
theorem En:OpR X (Y6 .In) (rIn X.K false):=by
 intro pins s σ H x y v u Q I rx ry h;obtain⟨p,xs,rfl,hq,fx,fs,q⟩:=h;cases ry;rcases hq with hq|hq
 ·obtain⟨its,r,pl,hz⟩:=I.list hq;refine SeqAt.in_listAt (eqU x) pl.isList (λw hw=>WT rx fx r fs w (by simpa using hw)) ⟨.bl _,H,I,rfl,?_⟩
  rw[show its.toArray.any (eqU x)=its.any (eqU x) by simp,WR r fs]
  exact q
 ·obtain⟨its,r,pl,hz⟩:=I.tuple hq;refine SeqAt.in_tupleAt (eqU x) pl (λw hw=>WT rx fx r fs w (by simpa using hw)) ⟨.bl _,H,I,rfl,?_⟩
  rw[show its.toArray.any (eqU x)=its.any (eqU x) by simp,WR r fs]
  exact q
theorem Eo:OpR X (Y6 .NotIn) (rIn X.K true):=by
 intro pins s σ H x y v u Q I rx ry h;obtain⟨p,xs,rfl,hq,fx,fs,q⟩:=h;cases ry;rcases hq with hq|hq
 ·obtain⟨its,r,pl,hz⟩:=I.list hq;refine SeqAt.notIn_listAt (eqU x) pl.isList (λw hw=>WT rx fx r fs w (by simpa using hw)) ⟨.bl _,H,I,rfl,?_⟩
  rw[show its.toArray.any (eqU x)=its.any (eqU x) by simp,WR r fs]
  exact q
 ·obtain⟨its,r,pl,hz⟩:=I.tuple hq;refine SeqAt.notIn_tupleAt (eqU x) pl (λw hw=>WT rx fx r fs w (by simpa using hw)) ⟨.bl _,H,I,rfl,?_⟩
  rw[show its.toArray.any (eqU x)=its.any (eqU x) by simp,WR r fs]
  exact q
theorem Ep:CallR X (.builtin "len") (fun xs H Q=>∃p ys,xs=[.ref p]/\(SqL X.K H p ys\/SqT X.K H p ys)/\Q (.int ys.length) H):=by
 intro pins s σ H xs us Q I r h;obtain⟨p,ys,rfl,hq,q⟩:=h;obtain⟨u,rfl,rx⟩:=Z1 r;cases rx;have hn:=W5;rcases hq with hq|hq
 ·obtain⟨its,r',pl,hz⟩:=I.list hq;have hlen:=r'.length;exact Calls.call_len_list pl.isList (by simp only[XW]<;>lia) ⟨.int ys.length,H,I.tok _,⟨s.toks+1,by rw[XW,hlen]⟩,q⟩
 ·obtain⟨its,r',pl,hz⟩:=I.tuple hq;have hlen:=r'.length;exact len_tuple pl (by simp only[XW]<;>lia) ⟨.int ys.length,H,I.tok _,⟨s.toks+1,by rw[XW,hlen]⟩,q⟩
theorem TZ:CallR X (.builtin "len") (fun xs H Q=>∃z,xs=[.str z]/\z.length≤sizeLine/\Q (.int z.length) H):=by
 intro pins s σ H xs us Q I r h;obtain⟨z,rfl,hz,q⟩:=h;obtain⟨u,rfl,t,rfl⟩:=Z1 r;have hn:=W5;exact len_str (by lia) ⟨.int z.length,H,I.tok _,⟨_,rfl⟩,q⟩
theorem CallR.or{f:X0}{r r':List V->Hp->VK->Prop}(h:CallR X f r)(h':CallR X f r'):CallR X f (λxs H Q=>r xs H Q\/r' xs H Q):=by
 intro pins s σ H xs us Q I rs q;rcases q with q|q
 ·exact h pins s σ H xs us Q I rs q
 ·exact h' pins s σ H xs us Q I rs q
theorem Er:CallR X (.type "list") (fun xs H Q=>∃p ys,xs=[.ref p]/\(SqL X.K H p ys\/SqT X.K H p ys)/\∀l,H l=none->Q (.ref l) (upd H l (.lst ys))):=by
 intro pins s σ H xs us Q I r h;obtain⟨p,ys,rfl,hq,q⟩:=h;obtain⟨u,rfl,rx⟩:=Z1 r;cases rx;have fin:∀(its:List X0),Vals ys its->ys.length≤sizeLine->∀(h':Heap) (c':Nat),(∀b o',s.heap.get? b=some o'->h'.get? b=some o')->
   h'.get? s.heap.objs.size=some {cls:=.type "list",dict:=none,data:=.seq its.toArray c',slots:=#[]}->EP X pins σ Q (.ref s.heap.objs.size) {s with heap:=h'}:=fun its r' hz h' c' kp e=>
  ⟨.ref s.heap.objs.size,_,I.laid (t':=s.toks) kp (Xi _) (show ObjOk X.prog X.w _ h' _ (.lst ys)from⟨hz,its,c',r',e⟩),rfl,q _ (I.hok.fresh (Xi _))⟩
 rcases hq with hq|hq
 ·obtain⟨its,r',pl,hz⟩:=I.list hq;have hlen:=r'.length;obtain⟨o,ho,hc,n,hd⟩:=pl.isList;exact call_list_seq p (.inl rfl) ho hc hd (λh' c' kp e=>fin its r' hz h' c' kp e) (by simp only[XW]<;>lia)
 ·obtain⟨its,r',pl,hz⟩:=I.tuple hq;have hlen:=r'.length;obtain⟨o,ho,hc,n,hd⟩:=pl;exact call_list_seq p (.inr rfl) ho hc hd (λh' c' kp e=>fin its r' hz h' c' kp e) (by simp only[XW]<;>lia)
theorem Es:CallR X (.type "tuple") (fun xs H Q=>∃p ys,xs=[.ref p]/\((SqL X.K H p ys/\∀l,H l=none->Q (.ref l) (upd H l (.tup ys)))\/(SqT X.K H p ys/\Q (.ref p) H))):=by
 intro pins s σ H xs us Q I r h;obtain⟨p,ys,rfl,h⟩:=h;obtain⟨u,rfl,rx⟩:=Z1 r;cases rx;rcases h with⟨hq,q⟩|⟨hq,q⟩
 ·obtain⟨its,r',pl,hz⟩:=I.list hq;have hlen:=r'.length;refine call_tuple_list pl.isList (λh' kp=>?_) (by simp only[XW]<;>lia)
  have I1:Inv X pins σ H {s with heap:=h'}:=I.kept (t':=s.toks) kp;have I2:Inv X pins σ (upd H h'.objs.size (.tup ys)) {s with heap:=h'.push {cls:=.type "tuple",data:=.seq its.toArray} }:=
   I1.laid (t':=s.toks) (λb o e=>Xu _ e) (Xi _) (show ObjOk X.prog X.w _ _ _ (.tup ys)from⟨hz,its,r',IsTup.new _ _,_,XS _ rfl,rfl⟩)
  exact⟨.ref h'.objs.size,_,I2,rfl,q _ (I1.hok.fresh (Xi _))⟩
 ·obtain⟨its,r',pl,hz⟩:=I.tuple hq;exact call_tuple_same pl ⟨.ref p,H,I,rfl,q⟩
def tyV(K:X5)(T:String)(x:V)(H:Hp):Prop:=match x with
 |.str _=>T="str"
 |.int _=>T="int"
 |.ref p=>(T="list"/\∃xs,SqL K H p xs)\/(T="tuple"/\∃o,K.lookup p=some o/\o.cls=.type "tuple"/\o.dict=none)\/
   (T="dict"/\((∃kvs,H p=some (.dK kvs))\/∃kvs,H p=some (.dT kvs)))\/(T="set"/\∃S n,H p=some (.set S n))
 |_=>False
theorem IM{pins:List (Addr×Obj)}{σ:St}{H:Hp}{s:X1}{T:String}{x:V}{v:X0}(I:Inv X pins σ H s)(r:RelV x v)(ty:tyV X.K T x H):
  s.TypeIs v T/\∀a,v=.ref a->∃ob,s.heap.get? a=some ob/\ob.dict=none:=by
 cases x with
 |str z=>
  obtain⟨t,rfl⟩:=r;cases(show T="str" from ty);exact⟨typeIs_str s z t,λ_ e=>nomatch e⟩
 |int i=>
  obtain⟨t,rfl⟩:=r;cases(show T="int" from ty);exact⟨typeIs_int s i t,λ_ e=>nomatch e⟩
 |ref p=>
  cases r;rcases ty with⟨rfl,xs,hq⟩|⟨rfl,o,hk,hc,hd⟩|⟨rfl,hk⟩|⟨rfl,S,n,hk⟩
  ·obtain⟨its,_,pl,_⟩:=I.list hq;refine⟨pl.isList.typeIs,λa e=>?_⟩;cases e;obtain⟨o,n,e,c,hd,_⟩:=pl;exact⟨o,e,hd⟩
  ·refine⟨⟨o,I.kIn p o hk,hc⟩,λa e=>?_⟩;cases e;exact⟨o,I.kIn _ o hk,hd⟩
  ·have z:∃o,s.heap.get? p=some o/\o.ExactDict:=by
    rcases hk with⟨kvs,hk⟩|⟨kvs,hk⟩
    ·obtain⟨_,_,_,_,o,_,_,e,ex,_⟩:=I.hok p _ hk;exact⟨o,e,ex⟩
    ·obtain⟨_,_,_,_,o,_,_,e,ex,_⟩:=I.hok p _ hk;exact⟨o,e,ex⟩
   obtain⟨o,e,ex⟩:=z;refine⟨⟨o,e,ex.1⟩,λa e2=>?_⟩;cases e2;exact⟨o,e,ex.2.1⟩
  ·obtain⟨o,_,_,_,e,ex,_⟩:=I.hok p _ hk;refine⟨⟨o,e,ex.1⟩,λa e2=>?_⟩;cases e2;exact⟨o,e,ex.2.1⟩
 |_=>exact Yg ty
def tBM0(K:X5)(T:String)(r:V->List V->Hp->VK->Prop)(to:TE):TE:=λσ H Q=>to σ H λx H1=>tyV K T x H1/\r x [] H1 Q
def tBM(K:X5)(T:String)(r:V->List V->Hp->VK->Prop)(to:TE)(t:TA):TE:=λσ H Q=>to σ H λx H1=>tyV K T x H1/\t σ H1 λxs H2=>r x xs H2 Q
variable{o e:Expr}{es:List Expr}{to:TE}{t:TA}{name:Str}{apos cpos:Pos}{T id:String}{r:V->List V->Hp->VK->Prop}
theorem Zpj(pa:PlainAttrs T)(slot:Slot T name id)(hty:typeOf (.builtin id)=pure (.type "method_descriptor"))(hm:MtR X id r)(ho:PE X o to)
  (hbase:Ux o name X.env (eval o X.env)=eval o X.env:=by rfl) (hline:(apos.endLine==cpos.line)=true:=by rfl):PE X (.Call (.Attribute o name apos) [] [] cpos) (tBM0 X.K T r to):=by
 intro pins s σ H Q I h;refine wpAny_Call_method0_late hbase hline (thn (ho pins s σ H _ I h) λv s1 ⟨x,H1,I1,r1,ty,q1⟩=>?_);obtain⟨h1,h2⟩:=IM I1 r1 ty;exact⟨T,id,pa,slot,hty,h1,h2,HN rfl (PySem.evalArgs_none (hm pins s1 σ H1 x [] v [] Q I1 r1 .nil q1))⟩
theorem Zrq(pa:PlainAttrs T)(slot:Slot T name id)(hty:typeOf (.builtin id)=pure (.type "method_descriptor"))(hm:MtR X id r)(ho:PE X o to)(ha:PA X (e::es) t)
  (hbase:Ux o name X.env (eval o X.env)=eval o X.env:=by rfl)
  (hfew:((Y4 cpos (XB (e::es) X.env)).all (λx=>!x.1)&&(Ue cpos (Uf [] X.env)).all (λx=>x.1.isSome)
   &&decide ((e::es).length+([]:List Za).length+(if([]:List Za).isEmpty then 0 else 1)<30))=true:=by rfl)
  (hline:(apos.endLine==cpos.line)=true:=by rfl) (hs:XB (e::es) X.env=(false,eval e X.env)::XB es X.env:=by rfl) (hplain:(Y4 cpos (XB es X.env)).any (·.1)=false:=by rfl):
  PE X (.Call (.Attribute o name apos) (e::es) [] cpos) (tBM X.K T r to t):=by
 intro pins s σ H Q I h;refine wpAny_Call_method_late hbase hfew hline rfl (thn (ho pins s σ H _ I h) λv s1 ⟨x,H1,I1,r1,ty,q1⟩=>?_);obtain⟨h1,h2⟩:=IM I1 r1 ty;refine⟨T,id,pa,slot,hty,h1,h2,?_⟩;have hA:=ha cpos pins s1 σ H1 _ I1 q1;rw[hs]at hA ⊢;refine HN (by show(false||(Y4 cpos (XB es X.env)).any (·.1))=false;rw[hplain]<;>rfl) (Calls.evalArgs_plain ?_)
 exact thn hA λus s2 ⟨vs,H2,I2,r2,q2⟩=>hm pins s2 σ H2 x vs v us Q I2 r1 r2 q2
/- xs.append(e),list.index on a module's tuple .. are MtR facts of 06m -/
end
def MtM(X:Cx)(id:String)(r:V->List V->Hp->VK->Prop):Prop:=
 ∀(pins:List (Addr×Obj)) (s:X1) (σ:St) (H:Hp) (x:V) (xs:List V) (v:X0) (us:List X0) (Q:VK),Inv X pins σ H s->RelV x v->Vals xs us->r x xs H Q->
  X3 (X6 X.prog X.w) X.A (call (.builtin id) (v::us)) (EP X pins σ Q) X.xe s
theorem Vals.one:∀{x:V} {us:List X0},Vals [x] us->∃u,us=[u]/\RelV x u
 |_,_,.cons r .nil=>⟨_,rfl,r⟩
theorem Vals.rep{xs:List V}{us:List X0}(h:Vals xs us):∀k:Nat,Vals (Xj k xs).flatten (Xj k us).flatten
 |0=>.nil
 |k+1=>by
  rw[Zf,Zf,ZU,ZU];exact Vals.append h (Vals.rep h k)
theorem Et(its:List X0):∀(k:Nat) (acc:List X0),
  VL (λx1 x2=>x1++x2) acc.toArray (Xj k its.toArray)=(acc++(Xj k its).flatten).toArray
 |0,acc=>by simp
 |k+1,acc=>by
  have e:acc.toArray++its.toArray=(acc++its).toArray:=by simp
  have e2:(acc++its)++(Xj k its).flatten=acc++(Xj (k+1) its).flatten:=by
   rw[Zf,ZU,VE]
  rw[<- e2,<- Et its k (acc++its),<- e,Zf,VI]
section
variable{X:Cx}{pins:List (Addr×Obj)}{σ:St}{H:Hp}{s:X1}{l b:Addr}{xs ys zs:List V}
theorem Inv.lset{its its':List X0}{n:Nat}{f:Array X0->Array X0}{t':Nat}(I:Inv X pins σ H s)(hH:H l=some (.lst xs))
  (e:s.heap.get? l=some {cls:=.type "list",data:=.seq its.toArray n}) (hf:f its.toArray=its'.toArray) (hv:Vals ys its') (hz:ys.length≤sizeLine):
  Inv X pins σ (upd H l (.lst ys)) {s with heap:=s.heap.update l (Uq f),toks:=t'}:=by
 have q:=PySem.IsL.update e f;rw[hf]at q;refine I.write (x:=l) (e:=l) (by rw[hH];exact trivial) (.inl rfl) (λb' u hb hu=>(VN s.heap (Uq f) (XU hb)).trans hu) ⟨_,q⟩ ?_
 exact⟨hz,its',_,hv,q⟩
theorem Inv.lnew{its:List X0}{t':Nat}(I:Inv X pins σ H s)(hv:Vals ys its)(hz:ys.length≤sizeLine):
  Inv X pins σ (upd H s.heap.objs.size (.lst ys)) {s with heap:=s.heap.push {cls:=.type "list",data:=.seq its.toArray},toks:=t'}:=
 I.laid (λ_ _ q=>Xu _ q) (Xi _) ⟨hz,its,0,hv,XS _ rfl⟩
theorem Inv.fresh(I:Inv X pins σ H s):H s.heap.objs.size=none:=I.hok.fresh (Xi _)
theorem Inv.lstM(I:Inv X pins σ H s)(hH:H l=some (.lst xs)):xs.length≤sizeLine/\∃(its:List X0) (n:Nat),Vals xs its/\xs.length=its.length/\s.heap.get? l=some {cls:=.type "list",data:=.seq its.toArray n}:=by
 obtain⟨z,its,n,r,e⟩:=I.hok l _ hH;exact⟨z,its,n,r,r.length,e⟩
theorem IN{n:Nat}(h:n≤sizeLine):Co n=false:=by
 unfold Co;exact decide_eq_false (by lia)
end
section
variable{X:Cx}
def Zmv:V->List V->Hp->VK->Prop:=λx vs H Q=>∃l xs y,x=.ref l/\vs=[y]/\H l=some (.lst xs)/\xs.length<sizeLine/\Q .non (upd H l (.lst (xs++[y])))
theorem IP:MtM X "list.append" Zmv:=by
 intro pins s σ H x vs v us Q I rx rv h;obtain⟨l,xs,y,rfl,rfl,hH,hz,q⟩:=h;cases rx;obtain⟨u,rfl,ru⟩:=rv.one;obtain⟨z,its,n,r,hl,e⟩:=I.lstM hH;refine UX F.slot_list_append ⟨_,e,rfl⟩ F.entry_list_append (F.args_list_append_2 _ _) (PySem.list_append l its.toArray n u (by rw[XW];lia)) ⟨e,?_⟩
 refine⟨.non,_,I.lset (its':=its++[u]) hH e (by simp) (r.append (.cons ru .nil)) ?_,rfl,q⟩
 rw[Yz,List.length_singleton];lia
def Zmu:V->List V->Hp->VK->Prop:=λx vs H Q=>∃l b xs zs,x=.ref l/\vs=[.ref b]/\H l=some (.lst xs)/\H b=some (.lst zs)/\xs.length+zs.length≤sizeLine/\Q .non (upd H l (.lst (xs++zs)))
theorem Ziy:MtM X "list.extend" Zmu:=by
 intro pins s σ H x vs v us Q I rx rv h;obtain⟨l,b,xs,zs,rfl,rfl,hH,hB,hz,q⟩:=h;cases rx;obtain⟨u,rfl,ru⟩:=rv.one;cases ru;obtain⟨z,its,n,r,hl,e⟩:=I.lstM hH;obtain⟨z2,its2,n2,r2,hl2,e2⟩:=I.lstM hB;have hsz:its.toArray.size+its2.toArray.size≤sizeLine:=by rw[XW,XW];lia
 have hlong:¬(!its.toArray.isEmpty&&Co (its.toArray.size+its2.toArray.size))=true:=by
  rw[IN hsz,C2];exact XC
 refine UX F.slot_list_extend ⟨_,e,rfl⟩ F.entry_list_extend (F.args_list_extend_2 _ _)
  (AutoSeq1.list_extend_list_list_0 l its.toArray n b its2.toArray n2 hlong (by rw[XW];lia) (by lia)) ⟨e,e2,?_⟩
 refine⟨.non,_,I.lset (its':=its++its2) hH e (by simp) (r.append r2) ?_,rfl,q⟩
 rw[Yz];lia
def rRep:R2:=λx y H Q=>∃l k xs,x=.ref l/\y=.int k/\H l=some (.lst xs)/\ -(2^63)≤k/\k<2^63/\xs.length*k.toNat≤sizeLine/\
 ∀p,H p=none->Q (.ref p) (upd H p (.lst (Xj k.toNat xs).flatten))
theorem IQ{α:Type}(xs:List α)(k:Nat):(Xj k xs).flatten.length=k*xs.length:=by
 induction k with
 |zero=>simp
 |succ k ih=>rw[Zf,ZU,Yz,ih,Nat.succ_mul,Nat.add_comm]
theorem Zpo:OpR X (Yy .Mult) rRep:=by
 intro pins s σ H x y v u Q I rx ry h;obtain⟨l,k,xs,rfl,rfl,hH,h1,h2,hz,q⟩:=h;cases rx;obtain⟨t,rfl⟩:=ry;obtain⟨z,its,n,r,hl,e⟩:=I.lstM hH;have hlen:its.toArray.size*k.toNat≤sizeLine:=by rw[XW,<- hl];exact hz
 have hcap:¬its.toArray.size*k.toNat>(2^63 - 1)/8:=by
  have:(sizeLine:Nat)≤(2^63 - 1)/8:=by decide
  lia
 have hfit:¬(!Builtin.List.listFitsIndex k)=true:=by
  rw[fitsIndex_both h1 h2];exact XC
 have hlong:¬Co (its.toArray.size*k.toNat)=true:=by
  rw[IN hlen];exact XC
 have hnew:VL (λx1 x2=>x1++x2) #[] (Xj (if its.toArray.isEmpty=true then 0 else k.toNat) its.toArray)=(Xj k.toNat its).flatten.toArray:=by
  have f0:∀m:Nat,VL (λx1 x2=>x1++x2) #[] (Xj m its.toArray)=(Xj m its).flatten.toArray:=λm=>by
   have:=Et its m [];rw[Yd]at this;exact this
  rw[f0];cases its with
  |nil=>simp
  |cons a r'=>rw[if_neg (by simp)]
 refine wpAny_binaryOp_repeat_ref (T:="list") (U:="int") (by decide) ⟨_,e,rfl⟩ (fun s'=>typeIs_int s' k t) noFill_list_mul F.fills_int_mul F.slot_int_rmul repeat_list F.slot_int_index.lookup
  (UX F.slot_int_rmul (typeIs_int s k t) F.entry_int_rmul (F.args_int_rmul_2 _ _) (int___rmul___int_list k t l its.toArray n)
   ⟨e,rfl,⟨_,e,rfl⟩,UX F.slot_list_mul ⟨_,e,rfl⟩ F.entry_list_mul (F.args_list_mul_2 _ _) (AutoListH.list___mul___list_int_3 l its.toArray n k t hfit hcap hlong) ⟨e,?_⟩⟩)
 rw[hnew];exact⟨.ref _,_,I.lnew (t':=s.toks) (r.rep k.toNat) (by rw[IQ,Nat.mul_comm];exact hz),rfl,q _ I.fresh⟩
end
section
variable{prog:Xk}{w:Xh}{A:Xt}{E:X0->X1->Prop}{s:X1}
set_option maxRecDepth 100000 in
end
section
variable{X:Cx}
end
section
variable{κ:Type} [DecidableEq κ]
def valV(kvs:List (κ×V))(k:κ):Option V:=(kvs.find? λkv=>decide (kv.1=k)).map (·.2)
def putK(kvs:List (κ×V))(k:κ)(v:V):List (κ×V):=
 if(kvs.any λkv=>decide (kv.1=k))=true then kvs.map (λkv=>if kv.1=k then(kv.1,v)else kv)else kvs++[(k,v)]
theorem Cz{p:κ×V}{r:List (κ×V)}{k:κ}(e:p.1=k):valV (p::r) k=some p.2:=by simp[valV,VJ,e]
theorem CA{p:κ×V}{r:List (κ×V)}{k:κ}(e:¬p.1=k):valV (p::r) k=valV r k:=by simp[valV,VJ,e]
theorem IR(k:κ):∀kvs:List (κ×V),(kvs.any λkv=>decide (kv.1=k))=(valV kvs k).isSome
 |[]=>rfl
 |p::r=>by
  rw[ZV];by_cases e:p.1=k
  ·simp only[Cz e,decide_eq_true e,C5,Ed]
  ·rw[CA e,decide_eq_false e,DZ];exact IR k r
theorem IT(kvs:List (κ×V))(k:κ)(v:V):(putK kvs k v).length≤kvs.length+1:=by
 unfold putK;split
 ·rw[Xa];lia
 ·rw[Yz,Yu,List.length_nil];lia
theorem RelO.isSome_eq{o:Option V}{u:Option X0}(r:RelO o u):o.isSome=u.isSome:=by
 cases o with
 |none=>cases u with
  |none=>rfl
  |some _=>exact(show False from r).elim
 |some _=>cases u with
  |none=>exact(show False from r).elim
  |some _=>rfl
theorem RelO.getD{o:Option V}{u:Option X0}{d:V}{d':X0}(r:RelO o u)(rd:RelV d d'):RelV (o.getD d) (u.getD d'):=by
 cases o with
 |none=>cases u with
  |none=>exact rd
  |some _=>exact(show False from r).elim
 |some _=>cases u with
  |none=>exact(show False from r).elim
  |some _=>exact r
theorem KV.val{kvs:List (κ×V)}{vs:List (κ×X0)}(r:KV kvs vs)(k:κ):RelO (valV kvs k) (Z5 vs k):=by
 unfold KV at r
 induction r with
 |nil=>exact YH
 | @cons p q ps qs h t ih=>
  obtain⟨h1,h2⟩:=h;by_cases e:p.1=k
  ·have e':q.1=k:=h1.symm.trans e;have b:Z5 (q::qs) k=some q.2:=by simp[Z5,VJ,e']
   rw[Cz e,b];exact h2
  ·have e':¬q.1=k:=λz=>e (h1.trans z);have b:Z5 (q::qs) k=Z5 qs k:=by simp[Z5,VJ,e']
   rw[CA e,b];exact ih
theorem KV.any{kvs:List (κ×V)}{vs:List (κ×X0)}(r:KV kvs vs)(k:κ):(kvs.any λkv=>decide (kv.1=k))=vs.any λkv=>decide (kv.1=k):=by
 unfold KV at r
 induction r with
 |nil=>rfl
 |cons h t ih=>rw[ZV,ZV,ih,h.1]
theorem KV.repl{kvs:List (κ×V)}{vs:List (κ×X0)}(r:KV kvs vs)(k:κ){y:V}{u:X0}(ry:RelV y u):
  KV (kvs.map λkv=>if kv.1=k then(kv.1,y)else kv) (vs.map λkv=>if kv.1=k then(kv.1,u)else kv):=by
 unfold KV at r ⊢
 induction r with
 |nil=>exact .nil
 | @cons p q ps qs h t ih=>
  rw[XD,XD];refine .cons ?_ ih;obtain⟨h1,h2⟩:=h;by_cases e:p.1=k
  ·rw[if_pos e,if_pos (h1.symm.trans e)];exact⟨h1,ry⟩
  ·rw[if_neg e,if_neg (λz=>e (h1.trans z))];exact⟨h1,h2⟩
theorem KV.put{kvs:List (κ×V)}{vs:List (κ×X0)}(r:KV kvs vs)(k:κ){y:V}{u:X0}(ry:RelV y u):KV (putK kvs k y) (stored vs k u):=by
 unfold putK stored;rw[r.any k];by_cases e:(vs.any λkv=>decide (kv.1=k))=true
 ·rw[if_pos e,if_pos e];exact r.repl k ry
 ·rw[if_neg e,if_neg e];exact Paired.snoc r ⟨rfl,ry⟩
theorem KV.length{kvs:List (κ×V)}{vs:List (κ×X0)}(r:KV kvs vs):kvs.length=vs.length:=Paired.length r
end
theorem Vf{P:Xk}{w:Xh}{k:Key}{u:X0}(r:RelV (kV k) u):(Yw P w).is k u=true:=by
 cases k with
 |inl i=>obtain⟨t,e⟩:=(show∃t,u=VS i t from r);subst e;exact RX P w i t
 |inr x=>obtain⟨t,e⟩:=(show∃t,u=XJ x t from r);subst e;exact RY P w x t
theorem IU{P:Xk}{w:Xh}:∀{ks:List Key} {us:List X0},Vals (ks.map kV) us->ItemsAre (Yw P w) ks us
 |[],_,r=>by rw[Yf]at r;cases r;exact .nil
 |k::ks,_,r=>by
  rw[XD]at r;cases r with
  |cons h t=>exact .cons (Vf h) (IU t)
abbrev KT(H:Hp):List (List Key×V)->List (List Key×Addr×X0)->Prop:=Paired λp q=>p.1=q.1/\H q.2.1=some (.tup (p.1.map kV))/\RelV p.2 q.2.2
theorem KT.val{H:Hp}{kvs:List (List Key×V)}{xs:List (List Key×Addr×X0)}(r:KT H kvs xs)(k:List Key):RelO (valV kvs k) ((atKey xs k).map (·.2)):=by
 induction r with
 |nil=>exact YH
 | @cons p q ps qs h t ih=>
  obtain⟨h1,_,h2⟩:=h;by_cases e:p.1=k
  ·have e':q.1=k:=h1.symm.trans e;have b:atKey (q::qs) k=some q.2:=by simp[atKey,VJ,e']
   rw[Cz e,b];exact h2
  ·have e':¬q.1=k:=λz=>e (h1.trans z);have b:atKey (q::qs) k=atKey qs k:=by simp[atKey,VJ,e']
   rw[CA e,b];exact ih
theorem KT.repl{H:Hp}{kvs:List (List Key×V)}{xs:List (List Key×Addr×X0)}(r:KT H kvs xs)(k:List Key){y:V}{u:X0}(ry:RelV y u):
  KT H (kvs.map λkv=>if kv.1=k then(kv.1,y)else kv) (xs.map (putAt k u)):=by
 induction r with
 |nil=>exact .nil
 | @cons p q ps qs h t ih=>
  rw[XD,XD];refine .cons ?_ ih;obtain⟨h1,h2,h3⟩:=h;unfold putAt;by_cases e:p.1=k
  ·rw[if_pos e,if_pos (h1.symm.trans e)];exact⟨h1,h2,ry⟩
  ·rw[if_neg e,if_neg (λz=>e (h1.trans z))];exact⟨h1,h2,h3⟩
theorem KT.put{H:Hp}{kvs:List (List Key×V)}{xs:List (List Key×Addr×X0)}(r:KT H kvs xs)(k:List Key){b:Addr}{y:V}{u:X0}(hb:H b=some (.tup (k.map kV)))(ry:RelV y u):
  KT H (putK kvs k y) (storedH xs k b u):=by
 have e:(kvs.any λkv=>decide (kv.1=k))=(atKey xs k).isSome:=by
  rw[IR,(r.val k).isSome_eq,Ef]
 unfold putK storedH;rw[e];by_cases q:(atKey xs k).isSome=true
 ·rw[if_pos q,if_pos q];exact r.repl k ry
 ·rw[if_neg q,if_neg q];exact Paired.snoc r ⟨rfl,hb,ry⟩
theorem KT.keeps{H H':Hp}{kvs:List (List Key×V)}{xs:List (List Key×Addr×X0)}(r:KT H kvs xs)(ht:∀b ys,H b=some (.tup ys)->H' b=some (.tup ys)):KT H' kvs xs:=
 Paired.mapP r λ_ _ z=>⟨z.1,ht _ _ z.2.1,z.2.2⟩
section
variable{P:Xk}{w:Xh}{H:Hp}{h:Heap}{a:Addr}
theorem IV{u:HO}(ok:HOk P w H h)(e:Rd H a u):ObjOk P w H h a u:=e.ok ok
theorem Vg{kvs:List (Key×V)}(ok:HOk P w H h)(e:Rd H a (.dK kvs)):kvs.length≤sizeLine/\(a==YX)=false/\∃vs,KV kvs vs/\h.DictOf (Yw P w) a vs:=
 show ObjOk P w H h a (.dK kvs)from IV ok e
theorem Eu{kvs:List (Key×V)}(ok:HOk P w H h)(e:H a=some (.dK kvs)):kvs.length≤sizeLine/\(a==YX)=false/\∃vs,KV kvs vs/\h.DictOf (Yw P w) a vs:=Vg ok (.inl e)
theorem WU{ks:List Key}(ok:HOk P w H h)(e:H a=some (.tup (ks.map kV))):(tupleKind (Yw P w)).is h ks a:=by
 obtain⟨_,its,r,⟨o,h1,h2,n,h3⟩,_⟩:=(show ObjOk P w H h a (.tup (ks.map kV))from ok a _ e);exact⟨o,its.toArray,n,h1,h2,h3,by simpa using IU r⟩
theorem WV{kvs:List (List Key×V)}(ok:HOk P w H h)(e:Rd H a (.dT kvs)):kvs.length≤sizeLine/\(a==YX)=false/\
  ∃xs,KT H kvs xs/\h.DictOfH (tupleKind (Yw P w)) a xs:=by
 obtain⟨z,y,xs,r,o,es,ep,h1,h2,h3,h4,h5⟩:=(show ObjOk P w H h a (.dT kvs)from IV ok e);refine⟨z,y,xs,r,o,es,ep,h1,h2,h3,h4,λx hx=>?_,h5⟩;have all:∀{l:List (List Key×V)} {m:List (List Key×Addr×X0)},KT H l m->∀x∈m,(tupleKind (Yw P w)).is h x.1 x.2.1:=by
  intro l m q
  induction q with
  |nil=>intro x hx;exact nomatch hx
  | @cons p q ps qs hq t ih=>
   intro x hx;rcases Xr.mp hx with e|hx
   ·subst e;exact WU ok (by rw[<- hq.1];exact hq.2.1)
   ·exact ih x hx
 exact all r x hx
theorem ZrS{kvs:List (List Key×V)}(ok:HOk P w H h)(e:H a=some (.dT kvs)):kvs.length≤sizeLine/\(a==YX)=false/\
  ∃xs,KT H kvs xs/\h.DictOfH (tupleKind (Yw P w)) a xs:=WV ok (.inl e)
end
def DGet(H:Hp)(a:Addr)(y:V)(r:Option V):Prop:=
 (∃kvs k,Rd H a (.dK kvs)/\y=kV k/\r=valV kvs k)\/∃kvs k b,Rd H a (.dT kvs)/\y=.ref b/\H b=some (.tup (k.map kV))/\r=valV kvs k
def DPut(H:Hp)(a:Addr)(y v:V)(H':Hp):Prop:=
 (∃kvs k,H a=some (.dK kvs)/\y=kV k/\kvs.length<sizeLine/\H'=upd H a (.dK (putK kvs k v)))\/
 ∃kvs k b,H a=some (.dT kvs)/\y=.ref b/\H b=some (.tup (k.map kV))/\kvs.length<sizeLine/\H'=upd H a (.dT (putK kvs k v))
theorem DGet.k{H:Hp}{a:Addr}{kvs:List (Key×V)}{k:Key}(e:H a=some (.dK kvs)):DGet H a (kV k) (valV kvs k):=.inl ⟨kvs,k,.inl e,rfl,rfl⟩
theorem DGet.t{H:Hp}{a b:Addr}{kvs:List (List Key×V)}{k:List Key}(e:H a=some (.dT kvs))(eb:H b=some (.tup (k.map kV))):DGet H a (.ref b) (valV kvs k):=.inr ⟨kvs,k,b,.inl e,rfl,eb,rfl⟩
theorem DPut.k{H:Hp}{a:Addr}{kvs:List (Key×V)}{k:Key}{v:V}(e:H a=some (.dK kvs))(hl:kvs.length<sizeLine):DPut H a (kV k) v (upd H a (.dK (putK kvs k v))):=.inl ⟨kvs,k,e,rfl,hl,rfl⟩
theorem DPut.t{H:Hp}{a b:Addr}{kvs:List (List Key×V)}{k:List Key}{v:V}(e:H a=some (.dT kvs))(eb:H b=some (.tup (k.map kV)))(hl:kvs.length<sizeLine):
  DPut H a (.ref b) v (upd H a (.dT (putK kvs k v))):=.inr ⟨kvs,k,b,e,rfl,eb,hl,rfl⟩
section
variable{X:Cx}{pins:List (Addr×Obj)}{σ:St}{H:Hp}{s:X1}{a:Addr}{y v:V}{u r:X0}{o:Option V}{A:Xt}{E:X0->X1->Prop}
theorem Inv.big(I:Inv X pins σ H s):YX<s.heap.objs.size:=by
 have h:Xv<s.heap.objs.size:=(I.mod.glob.keeps I.bk).lt;exact V6 (by decide) h
theorem Zjn{Q:X0->X1->Prop}(hu:A.units+1<cLine)(I:Inv X pins σ H s)(g:DGet H a y (some v))(ry:RelV y u)(h:∀w' s',Inv X pins σ H s'->RelV v w'->Q w' s'):
  X3 (X6 X.prog X.w) A (getItem (.ref a) u) Q E s:=by
 rcases g with⟨kvs,k,e,ey,l⟩|⟨kvs,k,b,e,ey,eb,l⟩
 ·subst ey;obtain⟨z,hd,vs,rel,dd⟩:=Vg I.hok e;obtain⟨w',hw,rw'⟩:=RelO.some_of (v:=v) (o:=Z5 vs k) (by rw[l];exact rel.val k)
  exact wpAny_getItem_of (Vf ry) dd.mapOf hw (h w' _ (I.tok _) rw')
 ·subst ey;cases(show u=Xs b from ry);obtain⟨z,hd,xs,rel,dd⟩:=WV I.hok e;obtain⟨w',hw,rw'⟩:=RelO.some_of (v:=v) (o:=(atKey xs k).map (·.2)) (by rw[l];exact rel.val k)
  obtain⟨p,hp,hp2⟩:=Ec.mp hw;refine wpAny_getItem_heap (BH hu) (WU I.hok eb) dd hp ?_;rw[hp2];exact h w' _ (I.tok _) rw'
theorem d_in{Q:X0->X1->Prop}(hu:A.units+1<cLine)(I:Inv X pins σ H s)(g:DGet H a y o)(ry:RelV y u)(h:∀s',Inv X pins σ H s'->Q (.bool o.isSome) s'):
  X3 (X6 X.prog X.w) A (Y6 .In u (.ref a)) Q E s:=by
 rcases g with⟨kvs,k,e,ey,l⟩|⟨kvs,k,b,e,ey,eb,l⟩
 ·subst ey;obtain⟨z,hd,vs,rel,dd⟩:=Vg I.hok e;refine wpAny_in_of (Vf ry) hd dd.mapOf ?_;rw[<- (rel.val k).isSome_eq,<- l];exact h _ (I.tok _)
 ·subst ey;cases(show u=Xs b from ry);obtain⟨z,hd,xs,rel,dd⟩:=WV I.hok e;refine wpAny_in_heap (BH hu) (WU I.hok eb) hd dd ?_;have q:=(rel.val k).isSome_eq;rw[Ef]at q;rw[<- q,<- l];exact h _ (I.tok _)
theorem ZnR{Q:X0->X1->Prop}(hu:A.units+1<cLine)(I:Inv X pins σ H s)(g:DGet H a y o)(ry:RelV y u)(h:∀s',Inv X pins σ H s'->Q (.bool (!o.isSome)) s'):
  X3 (X6 X.prog X.w) A (Y6 .NotIn u (.ref a)) Q E s:=by
 rcases g with⟨kvs,k,e,ey,l⟩|⟨kvs,k,b,e,ey,eb,l⟩
 ·subst ey;obtain⟨z,hd,vs,rel,dd⟩:=Vg I.hok e;refine wpAny_notIn_of (Vf ry) hd dd.mapOf ?_;rw[<- (rel.val k).isSome_eq,<- l];exact h _ (I.tok _)
 ·subst ey;cases(show u=Xs b from ry);obtain⟨z,hd,xs,rel,dd⟩:=WV I.hok e;refine wpAny_notIn_heap (BH hu) (WU I.hok eb) hd dd ?_;have q:=(rel.val k).isSome_eq;rw[Ef]at q;rw[<- q,<- l];exact h _ (I.tok _)
theorem IW{h':Heap}{t':Nat}{ob:HO}(I:Inv X pins σ H s)(mu:Mut (H a))(hs:Ul a s.heap h')(he:∃q,h'.get? a=some q)(new:ObjOk X.prog X.w (upd H a ob) h' a ob):
  Inv X pins σ (upd H a ob) {s with heap:=h',toks:=t'}:=
 I.write (x:=a) (e:=a) mu (.inl rfl) (λb q hb z=>(hs.2 b hb).trans z) he new
theorem CB{P:Xk}{w:Xh}{H':Hp}{h':Heap}{kvs:List (Key×V)}{vs:List (Key×X0)}(z:kvs.length≤sizeLine)(hd:(a==YX)=false)(rel:KV kvs vs)(dd:h'.DictOf (Yw P w) a vs):
  ObjOk P w H' h' a (.dK kvs):=⟨z,hd,vs,rel,dd⟩
theorem Zjm{H':Hp}{Q:Unit->X1->Prop}(hu:A.units+1<cLine)(I:Inv X pins σ H s)(g:DPut H a y v H')(ry:RelV y u)(rv:RelV v r)(h:∀s',Inv X pins σ H' s'->Q () s'):
  X3 (X6 X.prog X.w) A (setItem (.ref a) u r) Q E s:=by
 rcases g with⟨kvs,k,e,ey,l,eH⟩|⟨kvs,k,b,e,ey,eb,l,eH⟩
 ·subst ey eH;obtain⟨z,hd,vs,rel,dd⟩:=Eu I.hok e;have hz:vs.length≤sizeLine:=by rw[<- rel.length];exact z
  have hl:(putK kvs k v).length≤sizeLine:=by have:=IT kvs k v;lia
  refine wpAny_setItem_pairs (hsz:=hz) (Vf ry) dd λh' dd' hs=>h _ ?_;have he:∃q,h'.get? a=some q:=let⟨q,_,_,hq,_⟩:=dd';⟨q,hq⟩
  exact IW I (by rw[e];exact YH) hs he (CB hl hd (rel.put k rv) dd')
 ·subst ey eH;cases(show u=Xs b from ry);obtain⟨z,hd,xs,rel,dd⟩:=ZrS I.hok e;have hz:xs.length≤sizeLine:=by rw[<- Paired.length rel];exact z
  have hl:(putK kvs k v).length≤sizeLine:=by have:=IT kvs k v;lia
  refine wpAny_setItem_heap (hsz:=hz) (BH hu) (WU I.hok eb) dd λh' dd' hs=>h _ ?_;obtain⟨q,es,ep,hq,h2,h3,h4,_,h5⟩:=dd';refine IW I (by rw[e];exact YH) hs ⟨q,hq⟩ ⟨hl,hd,_,(rel.put k eb rv).keeps λc ys ec=>?_,q,es,ep,hq,h2,h3,h4,h5⟩
  rw[XL (HX ec e (λz=>nomatch z))];exact ec
end
section
variable{X:Cx}{pins:List (Addr×Obj)}{σ:St}{H:Hp}{s:X1}{a:Addr}{kvs:List (Key×V)}{k:Key}{u:X0}{A:Xt}{E:X0->X1->Prop}
theorem ZrT{Q:X0->X1->Prop}(I:Inv X pins σ H s)(e:Rd H a (.dK kvs))(h:∀t s',Inv X pins σ H s'->Q (.int kvs.length t) s'):X3 (X6 X.prog X.w) A (call (.builtin "len") [.ref a]) Q E s:=by
 obtain⟨z,hd,vs,rel,dd⟩:=Vg I.hok e;refine call_len_dict hd dd (by rw[<- rel.length];rw[sizeLine_eq]at z;lia) ?_
 rw[<- rel.length];exact h _ _ (I.tok _)
end
theorem Zg0{X:Cx}{pins:List (Addr×Obj)}{σ:St}{H:Hp}{s:X1}{a:Addr}{y:V}{o:Option V}(I:Inv X pins σ H s)(g:DGet H a y o):s.TypeIs (.ref a) "dict":=by
 rcases g with⟨kvs,k,e,_,_⟩|⟨kvs,k,b,e,_,_,_⟩
 ·obtain⟨_,_,vs,_,dd⟩:=Vg I.hok e;exact dd.typeIs
 ·obtain⟨_,_,xs,_,dd⟩:=WV I.hok e;exact dd.typeIs
section
variable{X:Cx}{o i e value:Expr}{pos pos' tpos:Pos}{td ty tv:TE}
end
section
variable{X:Cx}{pos:Pos}
end
def IX:List (TE×TE)->St->Hp->(List (V×V)->Hp->Prop)->Prop
 |[],_,H,Q=>Q [] H
 |(tk,tv)::r,σ,H,Q=>tk σ H λx H1=>tv σ H1 λy H2=>IX r σ H2 λps H3=>Q ((x,y)::ps) H3
abbrev VV:List (V×V)->List (X0×X0)->Prop:=Paired λp q=>RelV p.1 q.1/\RelV p.2 q.2
def PPs(X:Cx)(pos:Pos)(keys:List (Option Expr))(values:List Expr)(trs:List (TE×TE)):Prop:=
 ∀(pins:List (Addr×Obj)) (s:X1) (σ:St) (H:Hp) (Q:List (V×V)->Hp->Prop),Inv X pins σ H s->IX trs σ H Q->
  X3 (X6 X.prog X.w) X.A (evalPairs (pairTrees keys values X.env pos)) (λvs s'=>∃ps H',Inv X pins σ H' s'/\VV ps vs/\Q ps H') X.xe s
theorem ZmH{X:Cx}{pos:Pos}:PPs X pos [] [] []:=λpins s σ H Q I h=>pairTrees_nil_walk ⟨[],H,I,.nil,h⟩
theorem Zkl{X:Cx}{pos:Pos}{k v:Expr}{ks:List (Option Expr)}{vs:List Expr}{tk tv:TE}{trs:List (TE×TE)}(hk:PE X k tk)(hv:PE X v tv)(hr:PPs X pos ks vs trs):
  PPs X pos (some k::ks) (v::vs) ((tk,tv)::trs):=λpins s σ H Q I h=>
 pairTrees_cons_walk (thn (hk pins s σ H _ I h) λu s1 ⟨x,H1,I1,rx,q1⟩=>thn (hv pins s1 σ H1 _ I1 q1) λw2 s2 ⟨y,H2,I2,ry,q2⟩=>
  thn (hr pins s2 σ H2 _ I2 q2) λws s3 ⟨ps,H3,I3,rel,q3⟩=>⟨(x,y)::ps,H3,I3,.cons ⟨rx,ry⟩ rel,q3⟩)
structure M1 (X:Cx) (o:Expr) (m:Str) (apos:Pos) (e:Expr) (cpos:Pos):Prop where
 base:Ux o m X.env (eval o X.env)=eval o X.env
 few:((Y4 cpos (XB [e] X.env)).all (λx=>!x.1)&&(Ue cpos (Uf [] X.env)).all (λx=>x.1.isSome)
  &&decide (([e]:List Expr).length+([]:List Za).length+(if([]:List Za).isEmpty then 0 else 1)<30))=true
 line:(apos.endLine==cpos.line)=true
 trees:Y4 cpos (XB [e] X.env)=[(false,eval e X.env)]
structure M2 (X:Cx) (o:Expr) (m:Str) (apos:Pos) (e f:Expr) (cpos:Pos):Prop where
 base:Ux o m X.env (eval o X.env)=eval o X.env
 few:((Y4 cpos (XB [e,f] X.env)).all (λx=>!x.1)&&(Ue cpos (Uf [] X.env)).all (λx=>x.1.isSome)
  &&decide (([e,f]:List Expr).length+([]:List Za).length+(if([]:List Za).isEmpty then 0 else 1)<30))=true
 line:(apos.endLine==cpos.line)=true
 trees:Y4 cpos (XB [e,f] X.env)=[(false,eval e X.env),(false,eval f X.env)]
section
variable{X:Cx}{pins:List (Addr×Obj)}{σ:St}{H:Hp}{s:X1}{a:Addr}{y d:V}{u r:X0}{o:Option V}{A:Xt}{E:X0->X1->Prop}
end
section
variable{X:Cx}{o e f:Expr}{apos cpos:Pos}{td ty tx:TE}
end
section
variable{X:Cx}{pins:List (Addr×Obj)}{σ:St}{H:Hp}{s:X1}{a:Addr}{kvs:List (Key×V)}{A:Xt}{E:X0->X1->Prop}
theorem Zl2{Q:X0->X1->Prop}(I:Inv X pins σ H s)(e:Rd H a (.dK kvs))(h:∀p s',H p=none->Inv X pins σ (upd H p (.dK kvs)) s'->Q (.ref p) s'):X3 (X6 X.prog X.w) A (call (.type "dict") [.ref a]) Q E s:=by
 obtain⟨z,hd,vs,rel,dd⟩:=Vg I.hok e;refine kt_call_dict hd dd (by rw[<- rel.length];exact z) λh' dd' hs=>?_
 refine h _ _ (I.hok.fresh (Xi _)) (I.laid (a:=s.heap.objs.size) (o:=.dK kvs) (t':=s.toks) (λb q hq=>?_) (Xi _) (CB z (beq_eq_false_iff_ne.mpr (XU (XG I.big))) rel dd'));exact(hs.2 b (XG (XA hq))).trans (Xu _ hq)
end
section
variable{X:Cx}{pins:List (Addr×Obj)}{σ:St}{H:Hp}{s:X1}{a:Addr}{y:V}{u:X0}{A:Xt}{E:X0->X1->Prop}
end
end L2
namespace Att
open PySem PySem.W PySem.Calls PyProof.Rows
theorem Zbj{P:Params}{h:Heap}:∀(ns:List Int) (vs:List X0),WellAll P h vs (ns.map WData.int)->IntsAre vs ns:=by
 intro ns
 induction ns with
 |nil=>
  intro vs w;rw[Yf]at w;cases w;exact .nil
 |cons n ns ih=>
  intro vs w;rw[XD]at w;cases w with
  |cons a b=>
   cases a;exact .cons _ _ (ih _ b)
theorem Zi7{l:OpenLaw}{n:Nat}(hn:l.most=some n){P:Params}{h:Heap}{args:List WData}{vals:List X0}
  (hpre:l.row.toRowW.claim.pre args=true) (hwl:WellAll P h vals args):
  ∃a vs ns,vals=[Xs a]/\args=[WData.list (ns.map WData.int)]/\h.get? a=some {cls:=.type "list",data:=.seq vs.toArray}/\IntsAre vs ns/\ns.length≤n:=by
 have hsh:WShape.hasAll [] args [.list .int]=true:=(pre_splitW hpre).1;have hc:l.pre.holds [] {args:=args}=true:=(pre_splitW hpre).2;obtain⟨d,r,rfl,h1,h2⟩:=hasAllW_cons hsh;obtain rfl:=hasAllW_nil h2;obtain⟨xs,rfl,h3⟩:=hasW_list h1;obtain⟨ns,rfl⟩:=items_int h3;have hlen:ns.length≤n:=by
  unfold OpenLaw.pre at hc;have h4:(WTm.not (.lt (.lit (.int (n:Int))) (.len (.arg 0)))).holds [] {args:=[.list (ns.map .int)]}=true:=by
   have h4:=(holds_andW hc).1;rw[hn]at h4;exact h4
  have h5:=condW_of h4 (w_not (w_lt w_lit (w_len_list (w_arg rfl))));rw[Xa]at h5;refine Nat.le_of_not_lt λq=>?_;have q':(n:Int)<((ns.length:Nat):Int):=by lia
  first
   |(rw[decide_eq_true q']at h5;exact absurd h5 (by decide))
   |(simp at h5;lia)
 cases hwl with
 |cons w1 w2=>
  cases w2;cases w1 with
  |list ho hall=>exact⟨_,_,ns,rfl,rfl,ho,Zbj ns _ hall,hlen⟩
theorem Zil(l:OpenLaw)(args:List WData):l.row.toRowW.claim.post args (.bool true) args=true:=
 postW_of (r:=l.row.toRowW) (X:=(true==true))
  (show WShape.has [] (.bool true) .bool=true by first|rfl|decide|simp[WShape.has,WShape.arms,WShape.armsAll])
  (show(WTm.eq .res (.lit (.bool true))).value [] {args:=args,res:=some (.bool true),after:=args}=some (.bool (true==true))from w_eq_bool (w_res rfl) w_lit) rfl
theorem attach_call{l:OpenLaw}{n:Nat}{q:Xk}{loose:List Str}{XP:(Str->Option X0)->Heap->Prop}{YP:Xh->Heap->Prop}{d:DefRec}
  (hn:l.most=some n) (hdf:d.params.defaults=[])
  (call:∀(w:Xh) (s₀ s₁:X1) (mg mb:Str->Option X0) (fa:Addr) (o:Obj) (pm cd doc:X0) (a:Addr) (vs:List X0) (ns:List Int),
   Ground q loose [] XP w s₀ mg mb s₁.heap->YP w s₁.heap->
   s₁.heap.get? fa=some o->o.data=.func (docDef d.name d.params d.body d.scope pm cd doc)->s₁.heap.CodeRec cd d.name->mg d.name=some (.ref fa)->
   s₁.heap.get? a=some {cls:=.type "list",data:=.seq vs.toArray}->IntsAre vs ns->ns.length≤n->s₁.gens=#[]->
   YY (X6 l.prog w) callerA (.call (.ref fa) ⟨[.ref a],[]⟩) (λr s'=>r=.ok (.ret (.bool true))/\OldK s₁.heap s'.heap/\s'.os=s₁.os/\AllBare s'.gens) s₁):
  WalkO q loose XP YP l.row.toRowW d [] (λf vs=>PySem.call f vs):=by
 intro w s₀ s₁ mg mb G Y fa o pm cd doc dV kV ho hd hcd hD hmg hg args vals as hpre hlay hrd hwl hlo;obtain rfl:dV=.none:=Dflts.none hD hdf;obtain rfl:kV=.none:=Dflts.noKw hD;obtain⟨a,vs,ns,rfl,rfl,hobj,hints,hlen⟩:=Zi7 hn hpre hwl;refine enter_call (Vw (call w s₀ s₁ mg mb fa o pm cd doc a vs ns G Y ho (fd_plain hd) hcd hmg hobj hints hlen hg) λr s' hq=>?_);obtain⟨rfl,h2,h3,h4⟩:=hq;exact⟨.inl ⟨.bool true,.bool true,[],rfl,λ_=>rfl,.bool true,Zil l _,λ_=>⟨List.Pairwise.nil,λ_ hm=>(nomatch hm)⟩⟩,h2,h3,h4⟩
section
variable{prog:Xk}{w:Xh}{A:Xt}{E:X0->X1->Prop}{s:X1}{K:Frag}
def ledger(h:Heap)(L d:Addr):List (Addr×Obj):=(Xx h.objs.size).filterMap λa=>if a=L\/a=d then none else(h.get? a).map λo=>(a,o)
end
end Att
namespace L2
open PySem PySem.Spec PyProof.Rows
theorem IY:∀{vs:List X0} {ns:List Int},IntsAre vs ns->Vals (ns.map V.int) vs
 |_,_,.nil=>.nil
 |_,_,.cons n t h=>.cons ⟨t,rfl⟩ (IY h)
def Only(H:Hp):Prop:=∀b,H b=none\/∃o xs,H b=some (.frz o (.lst xs))
theorem ZkI{P:Xk}{w:Xh}{K:X5}{mg mb:Str->Option X0}{CX:CXT}{k:Nat}{fa a:Addr}{fd:Xf}{x:Str}{sp:Sp}{s₁:X1}{vs:List X0}{ns:List Int}
  (KX:K.In s₁.heap) (hns:s₁.heap.Ns Xv mg) (hb:s₁.heap.Ns builtinsNs mb) (hbb:∀x:Str,x≠"__name__"->mb x=YE x) (hlim:s₁.heap.NoLimit) (hg:s₁.gens=#[])
  (ha:s₁.heap.get? a=some {cls:=.type "list",data:=.seq vs.toArray}) (hi:IntsAre vs ns) (hl:ns.length≤sizeLine) (hr:Room k callerA)
  (F:∀base:Heap,K.In base->base.Ns Xv mg->FnOk P w K mg base CX k fa fd [x] sp) (hbind:∀(s:X1) (u:X0),BindsTo s fd ⟨[u],[]⟩ [(x,u)])
  (hsp:∀H:Hp,Only H->SqL K H a (ns.map V.int)->sp [.ref a] H (λv _=>v=.bl true) λ_ _ _=>False)
  (hCX:∀H e s',CX [] H s₁ (λ_ _ _=>False) e s'->False):
  YY (X6 P w) callerA (.call (.ref fa) ⟨[.ref a],[]⟩) (λr s'=>r=.ok (.ret (.bool true))/\OldK s₁.heap s'.heap/\s'.os=s₁.os/\AllBare s'.gens) s₁:=by
 have rv:=IY hi;have lenV:=hi.length;have core:∀H:Hp,Only H->SqL K H a (ns.map V.int)->HOk P w H s₁.heap->(∀b,H b≠none->b=a)->(H a≠none->K.lookup a=none)->
   YY (X6 P w) callerA (.call (.ref fa) ⟨[.ref a],[]⟩) (λr s'=>r=.ok (.ret (.bool true))/\OldK s₁.heap s'.heap/\s'.os=s₁.os/\AllBare s'.gens) s₁:=by
  intro H hO hS hok hA hK;have base_of:∀{b:Addr} {o:Obj},s₁.heap.get? b=some o->H b=none->(hidT s₁.heap H).get? b=some o:=λe n=>S0 e n;have noA:∀{b:Addr} {o:Obj} {es:Array DictEntry} {ep:Nat},s₁.heap.get? b=some o->o.data=.dict es ep->H b=none:=fun{b o es ep} e d=>by
   cases q:H b with
   |none=>rfl
   |some u=>
    have e':b=a:=hA b (by rw[q];simp)
    subst e';rw[ha]at e;cases e;have d':Z0 vs.toArray _=Data.dict es ep:=d;cases d'
  have nsK:∀{b:Addr} {m:Str->Option X0},s₁.heap.Ns b m->(hidT s₁.heap H).Ns b m:=fun{b m} ⟨o,es,ep,e,d,r⟩=>⟨o,es,ep,base_of e (noA e d),d,r⟩;have hKb:K.In (hidT s₁.heap H):=λb o e=>base_of (KX b o e) (by
   cases q:H b with
   |none=>rfl
   |some u=>
    have e':b=a:=hA b (by rw[q];simp)
    subst e';rw[hK (by rw[q];simp)]at e;cases e)
  have hM:Mod K mg (hidT s₁.heap H):=⟨hKb,nsK hns,⟨mb,nsK hb,hbb⟩,let⟨mc,h1,h2⟩:=hlim;⟨mc,nsK h1,h2⟩⟩
  have e0:Env0 P w K mg (hidT s₁.heap H) callerA [] s₁ H:=⟨rfl,hM,λb o e=>S1 e,VQ (RZ _ _),trivial,λb hb=>absurd (show b∈([]:List Addr)from hb) (by simp),hok,.of_eq hg⟩
  refine Vw ((F _ hKb (nsK hns)).run callerA [] s₁ H ⟨[.ref a],[]⟩ [.ref a] [.ref a] _ _ hr e0 (hbind s₁ (.ref a)) (.cons rfl .nil) (hsp H hO hS)) λr s' h=>?_;cases r with
  |error e=>exact(hCX H e s' h).elim
  |ok fl=>
   cases fl with
   |next=>exact Yg h
   |brk=>exact Yg h
   |cont=>exact Yg h
   |ret u=>
    obtain⟨v,H',os,bare,un,hok',r',q⟩:=h;have q':v=.bl true:=q;subst q';obtain rfl:u=Ye true:=r';refine⟨rfl,OldK.of_keep λb o e=>?_,os,bare⟩;cases q:H b with
    |none=>exact un.keep b o e q (by intro z;exact absurd (show b∈([]:List Addr)from z) (by simp)) (by simp)
    |some u=>
     rcases hO b with z|⟨ob,xs,z⟩
     ·rw[q]at z;cases z
     ·have z2:=un.frzs b ob _ z;obtain⟨e1,_⟩:=hok b _ z;obtain⟨e2,_⟩:=hok' b _ z2;rw[e]at e1;cases e1;exact e2
 cases hk:K.lookup a with
 |some o=>
  have e:=KX a o hk;rw[ha]at e;cases e;refine core (λ_=>none) (λ_=>.inl rfl) (.inr ⟨_,vs.toArray,_,hk,rfl,rfl,rfl,by rw[XW,lenV];exact hl,by simpa using rv⟩) (λb u z=>by have z':(none:Option HO)=some u:=z;cases z') (λb z=>absurd rfl z) λz=>absurd rfl z
 |none=>
  refine core (fun b=>if b=a then some (.frz {cls:=.type "list",data:=.seq vs.toArray} (.lst (ns.map V.int)))else none) (fun b=>?_) (.inl (.inr ⟨{cls:=.type "list",data:=.seq vs.toArray},if_pos rfl⟩)) (fun b u z=>?_) (fun b z=>?_) fun _=>hk
  ·by_cases hb:b=a
   ·exact .inr ⟨_,_,if_pos hb⟩
   ·exact .inl (if_neg hb)
  ·by_cases hb:b=a
   ·have z':=(if_pos hb).symm.trans z;cases z';subst hb;exact⟨ha,by rw[Xa];exact hl,vs,_,rv,ha⟩
   ·have z':=(if_neg hb).symm.trans z;cases z'
  ·by_cases hb:b=a
   ·exact hb
   ·exact absurd (if_neg hb) z
abbrev KOf{K:X5}{h:Heap}(_:K.In h):X5:=K
theorem walk_of{l:DY}{n k:Nat}{q:Xk}{loose:List Str}{XP:(Str->Option X0)->Heap->Prop}{YP:Xh->Heap->Prop}{d:DefRec}{K:Params->X5}{CX:Xh->CXT}{sp:Xh->Sp}{x:Str}
  (hn:l.most=some n) (hn2:n≤sizeLine) (hdf:d.params.defaults=[]) (hr:Room k callerA)
  (hY:∀(w:Xh) (h:Heap),YP w h->(K w.params).In h)
  (F:∀(w:Xh) (mg:Str->Option X0) (fa:Addr) (h:Heap),(K w.params).In h->h.Ns Xv mg->mg d.name=some (.ref fa)->
   ∃fd:Xf,(∀(s:X1) (u:X0),BindsTo s fd ⟨[u],[]⟩ [(x,u)])/\
    ∀base:Heap,(K w.params).In base->base.Ns Xv mg->FnOk l.prog w (K w.params) mg base (CX w) k fa fd [x] (sp w))
  (hsp:∀(w:Xh) (H:Hp) (a:Addr) (ns:List Int),ns.length≤n->Only H->SqL (K w.params) H a (ns.map V.int)->sp w [.ref a] H (λv _=>v=.bl true) λ_ _ _=>False)
  (hCX:∀(w:Xh) (H:Hp) (s:X1) (e:X0) (s':X1),CX w [] H s (λ_ _ _=>False) e s'->False):
  PySem.W.WalkO q loose XP YP l.row.toRowW d [] (λf vs=>PySem.call f vs):=by
 refine Att.attach_call hn hdf λw s₀ s₁ mg mb fa o pm cd doc a vs ns G Y ho hd hcd hmg hobj hints hlen hg=>?_;have KX:=hY w _ Y;obtain⟨fd,hb,hF⟩:=F w mg fa _ KX G.T.g hmg;exact ZkI KX G.T.g G.T.b G.T.builtins G.T.nolimit hg hobj hints (Y8 hlen hn2) hr hF hb (λH hO hS=>hsp w H a ns hlen hO hS) λH e s'=>hCX w H s₁ e s'
end L2
/- THE LAST THEOREM (shape;LID,My.*are yours):
  My.Adr:a structure of the addresses that your layer names (classes,functions);My.Txt K t:a structure(Prop) of the equations over K;
  My.txt_mk:{K} {implicit addresses ..} (e1:nsIn K Xv "law"=some (some (.ref f))) (e2:K.lookup f=some ⟨oc,od,.func (fnOf "law" "law" params body scope dV kV doc pm an cdv ct),sl⟩) (e3:codeIn K cdv "law"=true) ..:∃t,My.Txt K t
set_option maxRecDepth 100000 in
set_option maxHeartbeats 0 in
theorem PySem.Challenge.cw_LID_holds : PySem.Challenge.rw_LID.Holds := by
 w_on;o_law;k_head;(case hw=>w_witness2)
 k_fill
 refine L2.walk_of (l:=PySem.Challenge.rw_LID) (n:=63) (k:=40) (x:="script") (CX:=fun w=>..) (sp:=fun _=>My.sp_law) rfl (by decide) rfl ⟨rfl,by decide,by decide⟩ (fun w h Y=>PySem.W.kIn_of Y) ?F ?S ?C
 case F=>
  intro w mg fa h KX G hmg;have T:∃t,My.Txt (L2.KOf KX) t:=by
   dsimp only[L2.KOf] -- K must stand as «<heap const> w.params» for k_is
   refine' My.txt_mk ?e1 ?e2 ?e3 ..
   (case e1=>PySem.W.k_is) -- in the order:a name->its address->its object->its parts
   (case e2=>PySem.W.k_is)
   ..
  obtain⟨t,T⟩:=T;have e0:=hmg.symm.trans (YB KX G T.law);cases e0 -- fa is the law's own address
  exact⟨_,λs u=>.of_eq rfl,λbase kb nb=>My.law_fn T kb nb⟩ -- if «.of_eq rfl» comes too early:refine' ⟨_,?b,λbase kb nb=>My.law_fn T kb nb⟩;exact λs u=>.of_eq rfl
 case S=>exact λw H a ns hl hO hS=>..
 case C=>exact ..
(the tactic k_is has no namespace:write k_is) -/
namespace L2
open PySem PySem.Spec PyProof.Rows
def Z2(s:Stmt)(j:Nat):Stmt:=match s with
 |.ClassDef _ _ _ body _ _ _ _ _ _ _=>body.getD j (.Pass ⟨0,0,0,0⟩)
 |_=>.Pass ⟨0,0,0,0⟩
def XT(s:Stmt):Arguments:=match s with
 |.FunctionDef _ a _ _ _ _ _ _ _ _=>a
 |_=>{posonlyargs:=[],args:=[],vararg:=none,kwonlyargs:=[],kw_defaults:=[],kwarg:=none,defaults:=[]}
def Xb(s:Stmt):List Stmt:=match s with
 |.FunctionDef _ _ b _ _ _ _ _ _ _=>b
 |_=>[]
def X4(s:Stmt):Scope:=match s with
 |.FunctionDef _ _ _ _ _ _ sc _ _ _=>sc
 |_=>{kind:=.function,names:=[],isGenerator:=false,isCoroutine:=false}
abbrev CX0:CXT:=λ_ _ _ _ _ _=>False
abbrev E0:XK:=λ_ _ _=>False
theorem CC{X:Cx}:Ve CX0 X E0:=λ_ _ _ _ _ _ _ h=>h.elim
structure Fun (K:X5) (x qual:Str) (st:Stmt) (f:Addr) (fd:Xf):Prop where
 ex:∃(oc:X0) (od:Option Addr) (kV doc pm:X0) (an:Option Addr) (cdv ct:X0) (osl:Array (Option X0)),
  fd=XO x qual (XT st) (Xb st) (X4 st) .none kV doc pm an cdv ct/\K.lookup f=some ⟨oc,od,.func fd,osl⟩/\YA K cdv qual=true
 kp:Y5 K (.ref f)=true
section
variable{P:Xk}{w:Xh}{K:X5}{mg:Str->Option X0}{base:Heap}
theorem Fun.ok{x qual:Str}{st:Stmt}{f:Addr}{fd:Xf}{N ps:List Str}{k:Nat}{sp:Sp}(F:Fun K x qual st f fd)(S:FnScope N ps (X4 st))(len:∀vs H Q E,sp vs H Q E->vs.length=ps.length)
  (hbody:∀(cdv:X0) (A:Xt) (outer:List Env) (s:X1) (H:Hp) (vs:List V) (Q:VK) (E:XK),Room k (A.deeper (envOfC qual (X4 st) s.heap.objs.size f cdv))->sp vs H Q E->
   ∃t,PSs (cxOf CX0 P w K mg base N qual (X4 st) f cdv A outer s H E).nox (Xb st) t/\t {nx:=λ_ H'=>Q .non H',rt:=Q} (U1 N vs) H):FnOk P w K mg base CX0 (k+1) f fd ps sp:=by
 obtain⟨oc,od,kV,doc,pm,an,cdv,ct,osl,rfl,lk,hcd⟩:=F.ex;refine Tv lk hcd S len λA outer s H vs Q E hr hsp=>?_;obtain⟨t,h,q⟩:=hbody cdv A outer s H vs Q E hr hsp;exact⟨t,h.nox,q⟩
theorem Fun.binds{x qual:Str}{st:Stmt}{f:Addr}{fd:Xf}{ps:List Str}(F:Fun K x qual st f fd)
  (h:∀(kV doc pm:X0) (an:Option Addr) (cdv ct:X0) (us:List X0),us.length=ps.length->bindArgs (XO x qual (XT st) (Xb st) (X4 st) .none kV doc pm an cdv ct) ⟨us,[]⟩=pure (ps.zip us)):Binds K fd ps []:=by
 obtain⟨oc,od,kV,doc,pm,an,cdv,ct,osl,rfl,lk,hcd⟩:=F.ex;exact .all (h kV doc pm an cdv ct)
theorem fun_mk{x qual:Str}{st:Stmt}{f:Addr}{oc:X0}{od an:Option Addr}{osl:Array (Option X0)}{kV doc pm cdv ct:X0}(l:K.lookup f=some ⟨oc,od,.func (XO x qual (XT st) (Xb st) (X4 st) .none kV doc pm an cdv ct),osl⟩)
  (c:YA K cdv qual=true) (k:Y5 K (.ref f)=true):Fun K x qual st f (XO x qual (XT st) (Xb st) (X4 st) .none kV doc pm an cdv ct):=⟨⟨oc,od,kV,doc,pm,an,cdv,ct,osl,rfl,l,c⟩,k⟩
end
section
variable{X:Cx}
theorem pv(i:Nat){x:Str}{pos:Pos}(hN:X.N[i]?=some x:=by rfl) (hv:Vis X.env.scope x:=by first|exact Or.inl rfl|exact Or.inr (Or.inl rfl)|exact Or.inr (Or.inr rfl)) (hd:(x==("__debug__":Str))=false:=by decide)
  (hcd:(x==("__classdict__":Str))=false:=by decide):PE X (.Name x pos) (tVar i):=Ia hN hv hd hcd
end
section
variable{X:Cx}
theorem ZjA:CallR X (.builtin "len") (fun xs H Q=>∃a kvs,xs=[V.ref a]/\H a=some (.dK kvs)/\Q (.int kvs.length) H):=by
 intro pins s σ H xs us Q I r h;obtain⟨a,kvs,rfl,ha,q⟩:=h;obtain⟨u,rfl,ru⟩:=Z1 r;cases ru;exact ZrT I (.inl ha) λt s' I'=>⟨.int kvs.length,H,I',⟨t,rfl⟩,q⟩
end
section
variable{κ:Type} [DecidableEq κ]
theorem IZ:∀{l:List κ} {k:κ},l.Nodup->¬k∈l->(l++[k]).Nodup
 |[],k,_,_=>by simp
 |a::r,k,h,hk=>by
  obtain⟨h1,h2⟩:=YF.mp h;show(a::(r++[k])).Nodup;refine YF.mpr ⟨λm=>?_,IZ h2 λm=>hk (Xr.mpr (Or.inr m))⟩;rcases YN.mp m with q|q
  ·exact h1 q
  ·exact hk (Xr.mpr (Or.inl (Ya.mp q).symm))
end
section
variable{X:Cx}
def WW(i j:Int):Prop:=0<j/\j<2^256
theorem Zhg{j:Int}(h:WW i j):j.natAbs.log2<9000:=by
 have h1:(0:Int)<j:=h.1;have h2:j<2^256:=h.2;have h0:j.natAbs≠0:=by lia
 have:j.natAbs<2^256:=by lia
 have:=(Nat.log2_lt h0).mpr this;lia
theorem Zkz:OpR X (Yy .FloorDiv) (rI WW λi j=>.int (i/j)):=opI λi j _ _ _ _ _ hc q=>by
 have h1:(0:Int)<j:=hc.1;exact floordiv_int (by lia) (by rw[Int.fdiv_eq_ediv_of_nonneg i (by lia)];exact q) (.inl (PyProof.noPylong_of_log2 (Zhg hc)))
theorem Zg5:CallR X (.builtin "isinstance") (fun xs H Q=>∃x c t b,xs=[x,.ty c]/\TyOf X.K H x t/\V1 X.K t (.type c)=some b/\Q (.bl b) H):=by
 intro pins s σ H xs us Q I r h;obtain⟨x,c,t,b,rfl,ty,e,q⟩:=h;obtain⟨u,w',rfl,ru,rw'⟩:=W6 r;cases rw';exact Th I ru ty e λtk=>⟨.bl b,H,I.tok tk,rfl,q⟩
end
mutual
inductive Dp (K:X5) (H:Hp):V->Yp->Prop
 |non:Dp K H .non .none
 |bl (b:Bool):Dp K H (.bl b) (.bool b)
 |int (i:Int):Dp K H (.int i) (.int i)
 |str (x:Str):Dp K H (.str x) (.str x)
 |lst {a:Addr} {xs:List V} {ds:List Yp}:SqL K H a xs->DpAll K H xs ds->Dp K H (.ref a) (.list ds)
 |tup {a:Addr} {xs:List V} {ds:List Yp}:SqT K H a xs->DpAll K H xs ds->Dp K H (.ref a) (.tuple ds)
inductive DpAll (K:X5) (H:Hp):List V->List Yp->Prop
 |nil:DpAll K H [] []
 |cons {x:V} {xs:List V} {d:Yp} {ds:List Yp}:Dp K H x d->DpAll K H xs ds->DpAll K H (x::xs) (d::ds)
end
section
variable{X:Cx}{pins:List (Addr×Obj)}{σ:St}{H:Hp}{s:X1}
mutual
theorem Dp.reads(I:Inv X pins σ H s):∀{x:V} {d:Yp} {u:X0},Dp X.K H x d->RelV x u->∃as,Reads s.heap u d as
 |_,_,_,.non,r=>by cases r;exact⟨_,.none⟩
 |_,_,_,.bl b,r=>by cases r;exact⟨_,.bool b⟩
 |_,_,_,.int i,r=>by obtain⟨t,rfl⟩:=r;exact⟨_,.int i t⟩
 |_,_,_,.str x,r=>by obtain⟨t,rfl⟩:=r;exact⟨_,.str x t⟩
 |_,_,_,.lst hq ha,r=>by
  cases r;obtain⟨its,rv,pl,hz⟩:=I.list hq;obtain⟨as,rs⟩:=DpAll.reads I ha rv;obtain⟨o,ho,hc,n,hd⟩:=pl.isList;exact⟨_,.list ho hc hd (by simpa using rs)⟩
 |_,_,_,.tup hq ha,r=>by
  cases r;obtain⟨its,rv,pl,hz⟩:=I.tuple hq;obtain⟨as,rs⟩:=DpAll.reads I ha rv;obtain⟨o,ho,hc,n,hd⟩:=pl;exact⟨_,.tuple ho hc hd (by simpa using rs)⟩
theorem DpAll.reads(I:Inv X pins σ H s):∀{xs:List V} {ds:List Yp} {us:List X0},DpAll X.K H xs ds->Vals xs us->∃as,ReadsAll s.heap us ds as
 |_,_,_,.nil,r=>by cases r;exact⟨_,.nil⟩
 |_,_,_,.cons h t,r=>by
  cases r with
  |cons r1 r2=>
   obtain⟨as,a⟩:=Dp.reads I h r1;obtain⟨bs,b⟩:=DpAll.reads I t r2;exact⟨_,.cons a b⟩
end
end
section
variable{X:Cx}
end
end L2
namespace L2
end L2
namespace L2
open PySem PySem.Spec PyProof.Rows
def clOf(cells:List (Str×Addr)):List (Str×Zb)->List (Str×Addr)->List (Str×Addr)
 |[],acc=>acc
 |(n,k)::r,acc=>if k=.free then(match cells.lookup n with|some a=>clOf cells r ((n,a)::acc)|none=>clOf cells r acc)else clOf cells r acc
theorem WX(cells:List (Str×Addr)):∀(names:List (Str×Zb)) (acc:List (Str×Addr)) (x:Str) (c:Addr),(clOf cells names acc).lookup x=some c->acc.lookup x=some c\/cells.lookup x=some c
 |[],acc,x,c,h=>.inl h
 |(n,k)::r,acc,x,c,h=>by
  unfold clOf at h;by_cases hk:k=.free
  ·rw[if_pos hk]at h;cases hc:cells.lookup n with
   |none=>rw[hc]at h;exact WX cells r acc x c h
   |some a=>
    rw[hc]at h;rcases WX cells r _ x c h with q|q
    ·by_cases hx:x=n
     ·subst hx;simp at q;subst q;exact .inr hc
     ·have hb:(x==n)=false:=beq_eq_false_iff_ne.mpr hx;simp only[ZE,hb]at q;exact .inl q
    ·exact .inr q
  ·rw[if_neg hk]at h;exact WX cells r acc x c h
theorem CD(cells:List (Str×Addr)):∀(names:List (Str×Zb)) (acc:List (Str×Addr)) (x:Str) (c:Addr),cells.lookup x=some c->acc.lookup x=some c->(clOf cells names acc).lookup x=some c
 |[],acc,x,c,_,h=>h
 |(n,k)::r,acc,x,c,h,ha=>by
  unfold clOf;by_cases hk:k=.free
  ·rw[if_pos hk];cases hc:cells.lookup n with
   |none=>exact CD cells r acc x c h ha
   |some a=>
    refine CD cells r _ x c h ?_;by_cases hx:x=n
    ·subst hx;rw[h]at hc;cases hc;simp
    ·have hb:(x==n)=false:=beq_eq_false_iff_ne.mpr hx;simp only[ZE,hb];exact ha
  ·rw[if_neg hk];exact CD cells r acc x c h ha
theorem WY(cells:List (Str×Addr)):∀(names:List (Str×Zb)) (acc:List (Str×Addr)) (x:Str) (c:Addr),(x,Ym)∈names->cells.lookup x=some c->(clOf cells names acc).lookup x=some c
 |[],acc,x,c,h,_=>by cases h
 |(n,k)::r,acc,x,c,h,ha=>by
  unfold clOf;rcases Xr.mp h with e|h
  ·cases e;rw[if_pos rfl,ha];exact CD cells r _ _ c ha (by simp)
  ·by_cases hk:k=.free
   ·rw[if_pos hk];cases hc:cells.lookup n with
    |none=>exact WY cells r acc x c h ha
    |some a=>exact WY cells r _ x c h ha
   ·rw[if_neg hk];exact WY cells r acc x c h ha
theorem Ev{env:Env}(f:Str×Zb->List (Str×Addr)->Sem (ForInStep (List (Str×Addr))))
  (hf:∀n k r,f (n,k) r=if(k==Ym)=true then(cellOf env n >>= λa=>pure (Cs ((n,a)::r)))else pure (Cs r)):
  ∀(names:List (Str×Zb)) (acc:List (Str×Addr)),(∀y∈names,y.2=.free->∃c,env.cells.lookup y.1=some c)->(forIn names acc f:Sem (List (Str×Addr)))=pure (clOf env.cells names acc)
 |[],acc,_=>by rw[List.forIn_nil];rfl
 |(n,k)::r,acc,h=>by
  rw[List.forIn_cons,hf];have hr:∀y∈r,y.2=.free->∃c,env.cells.lookup y.1=some c:=λy hy=>h y (XX _ hy);by_cases hk:k=.free
  ·subst hk;obtain⟨c,hc⟩:=h (n,.free) Yi rfl;have hc':env.cells.lookup n=some c:=hc;have e:cellOf env n=pure c:=by unfold cellOf;rw[hc']
   rw[if_pos (by decide),e,pure_bind,pure_bind]
   show forIn r ((n,c)::acc) f=_;rw[Ev f hf r _ hr];simp only[clOf,if_pos,hc']
  ·have hb:(k==Ym)=false:=by simpa using hk
   rw[hb,if_neg XC,pure_bind];show forIn r acc f=_;rw[Ev f hf r _ hr];simp only[clOf,if_neg hk]
theorem J0{scope:Scope}{env:Env}(h:∀y∈scope.names,y.2=.free->∃c,env.cells.lookup y.1=some c):closureFor scope env=pure (clOf env.cells scope.names []):=by
 unfold closureFor;simp only[bind_pure];exact Ev _ (λn k r=>by
  by_cases hk:(k==Ym)=true
  ·simp only[hk,if_true]
  ·simp only[hk,if_false]) scope.names [] h
def W8(osc scope:Scope)(N own:List Str)(fr:List Nat):Bool:=
 decide (scope.kind=.function)&&scope.names.all (λy=>decide (y.2≠.cell))&&scope.names.all (λy=>decide (y.2=.local->scope.names.lookup y.1=some .local))&&
 scope.names.all (λy=>decide (y.2=.free->osc.names.lookup y.1=some .cell\/osc.names.lookup y.1=some .free))&&
 fr.all (λi=>match N[i]? with|some x=>decide ((x,Ym)∈scope.names/\scope.names.lookup x=some .free/\(osc.names.lookup x=some .cell\/osc.names.lookup x=some .free))|none=>false)
structure CompOk (osc scope:Scope) (N:List Str) (fr:List Nat):Prop where
 kind:scope.kind=.function
 nocell:∀y∈scope.names,y.2≠.cell
 names:∀y∈scope.names,y.2=.local->scope.names.lookup y.1=some .local
 has:∀y∈scope.names,y.2=.free->osc.names.lookup y.1=some .cell\/osc.names.lookup y.1=some .free
 frees:∀i∈fr,∃x,N[i]?=some x/\(x,Ym)∈scope.names/\scope.names.lookup x=some .free/\(osc.names.lookup x=some .cell\/osc.names.lookup x=some .free)
theorem W9{osc scope:Scope}{N own:List Str}{fr:List Nat}(h:W8 osc scope N own fr=true):CompOk osc scope N fr:=by
 unfold W8 at h;simp only[Y2,BS,decide_eq_true_eq]at h;obtain⟨⟨⟨⟨h1,h2⟩,h3⟩,h4⟩,h5⟩:=h;refine⟨h1,h2,h3,h4,λi hi=>?_⟩;have q:=h5 i hi;cases e:N[i]? with
 |none=>rw[e]at q;simp at q
 |some x=>rw[e]at q;simp only[decide_eq_true_eq]at q;exact⟨x,rfl,q⟩
def sC(own:List Str)(fr:List Nat)(σ:St):St:=own.map (λ_=>none)++fr.map (λi=>σ.getD i none)
def nC(own:List Str)(fr:List Nat)(N:List Str):List Str:=own++fr.map (λi=>N.getD i Uo)
def cxC(X:Cx)(scope:Scope)(own:List Str)(fr:List Nat)(C:Addr)(fp:List Addr)(s₃:X1)(H₃:Hp):Cx:=
 {X with N:=nC own fr X.N,s₀:=s₃,H₀:=H₃,env:=compEnvC scope (clOf X.env.cells scope.names []) C X.env,outer:=X.stack,ex:=fp,fn:=λ_=>false,xe:=λ_ _=>False}
def Keep(σ σ':St):Prop:=σ.length=σ'.length/\∀(i:Nat) (v:V),σ[i]?=some (some v)->σ'[i]?=some (some v)
def tAll:TT:=λ_ H Q=>Q true H
def PTs(X:Cx)(ifs:List Expr)(t:TT):Prop:=(ifs=[]/\t=tAll)\/∃c,ifs=[c]/\PT X c t
section
variable{prog:Xk}{w:Xh}{A:Xt}{R:Result->X1->Prop}{s:X1}
theorem ZeQ{elt target iter:Expr}{ifs:List Expr}{scope:Scope}{pos:Pos}{it acc:X0}{env:Env}(I:Nat->X1->Prop)
  (turn:∀n s,I n s->X3 (X6 prog w) A (pyNext it) (λr s₁=>match r with
   |none=>R (.ok .next) s₁
   |some v=>X3 (X6 prog w) A (BE target it v) (λ_ s₁'=>X3 (X6 prog w) A (assign target env v) (λ_ s₂=>
     X3 (X6 prog w) A (forIn ifs true λc r=>if r=true then do let ok<- isTrue c env (eval c env);pure (Cs ok)else pure (Cs r)) (λok s₃=>
      if ok=true then X3 (X6 prog w) A (eval elt env) (λx s₄=>
       X3 (X6 prog w) A (call (.builtin "list.append") [acc,x]) (fun _ s₅=>∃m,m<n/\I m s₅) (fun _ _=>False) s₄) (fun _ _=>False) s₃
      else∃m,m<n/\I m s₃) (λ_ _=>False) s₂) (λ_ _=>False) s₁') (λ_ _=>False) s₁) (λ_ _=>False) s)
  (n:Nat) (h:I n s):
  YY (X6 prog w) A (.compLoop (.ListComp elt [⟨target,iter,ifs,0⟩] scope pos) 0 it acc env) R s:=by
 refine codeAny_loop rfl I (λn s hI=>?_) n h;show X3 _ A ((compTurn (.ListComp elt [⟨target,iter,ifs,0⟩] scope pos) 0 it acc env).onRaise (λx=>do noteFrame x env;theTreesLotGoes x)) _ _ s
 refine wpAny_noted ?_;rw[compTurn_list];refine X2 (wpAny_standAt (X2 (ZN (turn n s hI) (λr s₁ h₁=>?_) λ_ _ h'=>h'.elim)));cases r with
 |none=>exact X8 h₁
 |some v=>
  refine X2 (ZN h₁ (λ_ s₁' h₁'=>?_) λ_ _ h'=>h'.elim);refine X2 (ZN h₁' (λ_ s₂ h₂=>X2 (ZN h₂ (λok s₃ h₃=>?_) λ_ _ h'=>h'.elim)) λ_ _ h'=>h'.elim);cases ok with
  |false=>exact X8 ⟨rfl,h₃⟩
  |true=>
   exact X2 (X2 (ZN h₃ (λx s₄ h₄=>X2 (ZN h₄ (λ_ s₅ h₅=>X8 (X8 ⟨rfl,h₅⟩)) λ_ _ h'=>h'.elim)) λ_ _ h'=>h'.elim))
end
theorem Zqf{σ:St}{H:Hp}{Q:Bool->Hp->Prop}(h:Q true H):tAll σ H Q:=h
section
variable{X:Cx}{pins:List (Addr×Obj)}{σ:St}{H1:Hp}{s2:X1}{tg elt iter:Expr}{ifs:List Expr}{scope:Scope}{pos:Pos}{own:List Str}{fr:List Nat}{g:TG}{tt:TT}{te:TE}
theorem J1{scope:Scope}{env:Env}{x:Str}:∀{names:List (Str×Zb)},names.lookup x=some .free->
  (names.map fun(n,k)=>if(k==Ym&&env.scope.kind==.function&&env.kindOf n==some .cell)then(n,VU)else(n,k)).lookup x=some .cell\/
  (names.map fun(n,k)=>if(k==Ym&&env.scope.kind==.function&&env.kindOf n==some .cell)then(n,VU)else(n,k)).lookup x=some .free
 |[],h=>by simp at h
 |(n,k)::r,h=>by
  have ih:=@J1 scope env x r;show Uj x ((if(k==Ym&&env.scope.kind==.function&&env.kindOf n==some .cell)=true then(n,VU)else(n,k))::_)=_\/Uj x ((if(k==Ym&&env.scope.kind==.function&&env.kindOf n==some .cell)=true then(n,VU)else(n,k))::_)=_;cases hx:x==n with
  |true=>
   simp only[ZE,hx]at h;cases h;by_cases hc:(Ym==Ym&&env.scope.kind==.function&&env.kindOf n==some .cell)=true
   ·rw[if_pos hc];simp only[ZE,hx];exact .inl trivial
   ·rw[if_neg hc];simp only[ZE,hx];exact .inr trivial
  |false=>
   simp only[ZE,hx]at h;by_cases hc:(k==Ym&&env.scope.kind==.function&&env.kindOf n==some .cell)=true
   ·rw[if_pos hc];simp only[ZE,hx];exact ih h
   ·rw[if_neg hc];simp only[ZE,hx];exact ih h
theorem J3{scope:Scope}{env:Env}(hn:∀y∈scope.names,y.2≠.cell){x:Str}:∀{names:List (Str×Zb)},(∀y∈names,y.2≠.cell)->
  ((names.map fun(n,k)=>if(k==Ym&&env.scope.kind==.function&&env.kindOf n==some .cell)then(n,VU)else(n,k)).lookup x=some .cell\/
  (names.map fun(n,k)=>if(k==Ym&&env.scope.kind==.function&&env.kindOf n==some .cell)then(n,VU)else(n,k)).lookup x=some .free)->(x,Ym)∈names
 |[],_,h=>by simp at h
 |(n,k)::r,hnc,h=>by
  have ih:=@J3 scope env hn x r (λy hy=>hnc y (XX _ hy));have hk:k≠.cell:=hnc (n,k) Yi;simp only[XD]at h;cases hx:x==n with
  |true=>
   have e:x=n:=eq_of_beq hx;subst e;by_cases hc:(k==Ym&&env.scope.kind==.function&&env.kindOf x==some .cell)=true
   ·have:k=.free:=by
     simp only[Y2,beq_iff_eq]at hc;exact hc.1.1
    subst this;exact Yi
   ·rw[if_neg hc]at h;simp at h;rcases h with h|h
    ·exact absurd h hk
    ·subst h;exact Yi
  |false=>
   by_cases hc:(k==Ym&&env.scope.kind==.function&&env.kindOf n==some .cell)=true
   ·rw[if_pos hc]at h;simp only[ZE,hx]at h;exact XX _ (ih h)
   ·rw[if_neg hc]at h;simp only[ZE,hx]at h;exact XX _ (ih h)
theorem Zhw{C:Addr}{fp:List Addr}{s3:X1}{H3:Hp}{h4:Heap}{tk:Nat}{m:Str->Option X0}(ok:CompOk X.env.scope scope X.N fr)(I3:Inv X pins σ H3 s3)(hC:C=s3.heap.objs.size)(hf:∀b∈fp,FpOk X pins H3 b)(hfo:∀b∈fp,∃o,s3.heap.get? b=some o)
  (ns:h4.Ns C m) (kp:∀b o,s3.heap.get? b=some o->h4.get? b=some o):
  Inv (cxC X scope own fr C fp s3 H3) pins (sC own fr σ) H3 {s3 with heap:=h4,toks:=tk}:=by
 have cellsub:∀x c,(clOf X.env.cells scope.names []).lookup x=some c->X.env.cells.lookup x=some c:=λx c h=>(WX _ _ _ _ _ h).elim (λz=>by simp at z) id
 have cellt:∀x c,X.env.cells.lookup x=some c->c<s3.heap.objs.size:=λx c e=>let⟨v,q⟩:=I3.cell x c e;q.lt
 have fplt:∀b∈fp,b<s3.heap.objs.size:=λb hb=>let⟨o,e⟩:=hfo b hb;XA e
 have kindOf_of:∀x,(X.env.scope.names.lookup x=some .cell\/X.env.scope.names.lookup x=some .free)->∃c,X.env.cells.lookup x=some c:=λx h=>I3.ok.has x h;refine⟨⟨I3.ok.mod,ok.kind,I3.ok.glob,I3.ok.blt,VQ hC.symm,λx y c h1 h2=>I3.ok.inj x y c (cellsub x c h1) (cellsub y c h2),λx hx=>?_,λx c z=>?_,I3.ok.hd,I3.ok.frames,.inl rfl,λb hb=>⟨?_,λx c e=>?_⟩,λb o e=>I3.bs b o e,Y8 I3.ok.bsz I3.sz,λb o e hb=>?_,λb hb hz=>?_,I3.stack,λb hb=>I3.stkFree b hb⟩,
  rfl,I3.bare,Un.kept kp,⟨m,ns,λi x v e1 e2 e3=>?_⟩,λx c e=>?_,?_,λx c e=>I3.freeC x c (cellsub x c e),λp hp=>?_,I3.hok.kept kp,?_⟩
 · -- has
  have hm:(x,Ym)∈scope.names:=J3 (scope:=scope) (env:=X.env) ok.nocell ok.nocell hx;obtain⟨c,hc⟩:=kindOf_of x (ok.has _ hm rfl);exact⟨c,WY _ _ _ _ _ hm hc⟩
 ·exact absurd z XC
 ·exact XG (by rw[hC];exact fplt b hb)
 ·exact(hf b hb).2.2.2.2.1 x c (cellsub x c e)
 ·rcases(hf b hb).2.2.2.1 with z|z
  ·exact I3.ok.noex b o e z
  ·exact absurd (YG (XA e) (Y8 I3.ok.bsz z)) (V4 _)
 ·rcases Xr.mp (I3.stkSub b hz)with z|z
  ·exact(hf b hb).2.1 z
  ·exact(hf b hb).2.2.1 z
 · -- a free name's value
  have e2':(own.map (λ_=>(none:Option V))++fr.map (λi=>σ.getD i none))[i]?=some (some v):=e2;have e1':(own++fr.map (λi=>X.N.getD i Uo))[i]?=some x:=e1;by_cases hi:i<own.length
  ·rw[Uh (by simpa using hi),Xw]at e2'
   cases q:own[i]? with
   |none=>rw[q]at e2';cases e2'
   |some z=>rw[q]at e2';cases e2'
  ·rw[ZS (by simpa using hi)]at e2'
   rw[ZS (by simpa using hi)]at e1'
   simp only[Xa]at e2';rw[Xw]at e1' e2';cases q:fr[i - own.length]? with
   |none=>rw[q]at e2';cases e2'
   |some j=>
    rw[q]at e1' e2';obtain⟨y,hy,hm,hl,ho⟩:=ok.frees j (XE q);have ex:x=y:=by
     have:X.N.getD j Uo=y:=by rw[Yr,hy];rfl
     simp only[Cr,this,Cc]at e1';exact e1'.symm
    subst ex;have ev:σ[j]?=some (some v):=by
     simp only[Cr,Cc]at e2';rw[Yr]at e2';cases z:σ[j]? with
     |none=>rw[z]at e2';cases e2'
     |some o=>rw[z]at e2';cases e2';rfl
    obtain⟨m0,hn0,hl0⟩:=I3.loc;obtain⟨u,ru,lk⟩:=hl0 j x v hy ev (.inr ho);refine⟨u,ru,.inr ⟨J1 (scope:=scope) hl,?_⟩⟩;rcases lk with⟨k1,_⟩|⟨_,c,hc,z⟩
    ·have k1':X.env.scope.names.lookup x=some .local:=k1;rw[k1']at ho;rcases ho with z|z<;>cases z
    ·exact⟨c,WY _ _ _ _ _ hm hc,z.keeps kp⟩
 ·obtain⟨v,z⟩:=I3.cell x c (cellsub x c e);exact⟨v,z.keeps kp⟩
 ·show H3 C=none;exact I3.hok.fresh (VQ hC.symm)
 ·obtain⟨e,n,ne,nf,d⟩:=I3.pin p hp;refine⟨kp _ _ e,n,XG (by rw[hC];exact XA e),λz=>?_,d⟩
  rcases Xr.mp (I3.stkSub p.1 z)with z|z
  ·exact ne z
  ·exact nf z
 ·show(own.map (λ_=>(none:Option V))++fr.map (λi=>σ.getD i none)).length=(own++fr.map (λi=>X.N.getD i Uo)).length;simp
end
section
variable{X:Cx}
theorem Zjv(hc:X.calm=true):CallR X (.builtin "min") (fun xs H Q=>∃(p:Addr) (ns:List Int),xs=[.ref p]/\SqL X.K H p (ns.map V.int)/\0<ns.length/\∀M,M∈ns->(∀a∈ns,M≤a)->Q (.int M) H):=by
 intro pins s σ H xs us Q I r h;obtain⟨p,ns,rfl,hq,hne,q⟩:=h;obtain⟨u,rfl,ru⟩:=Z1 r;cases ru;obtain⟨its,rv,pl,hz⟩:=I.list hq;have hi:IntsAre its ns:=ID rv;obtain⟨xs,e⟩:=hi.allInts.items;have hns:ns=xs.toList.map (·.1):=by rw[<- hi.numsOf,<- nums_intItems,<- e]
 have hsz:0<xs.size:=by
  have h3:=hne;rw[hns,Xa,Y3]at h3;exact h3
 have hl:=pl.isList;rw[e]at hl;refine min_intList (I.ok.hd hc) hl hsz λv h' tk hv hk=>?_;obtain⟨t,rfl⟩:=intItems_at hv;obtain⟨h1,h2⟩:=argBest_lt (numAt xs) (xs.size - 1);refine⟨.int _,H,I.kept hk,⟨t,rfl⟩,q _ ?_ λa ha=>?_⟩
 ·rw[hns,numAt_eq];exact getD_mem (by rw[Xa,Y3];lia)
 ·rw[hns]at ha;obtain⟨j,hj,rfl⟩:=mem_getD ha;rw[Xa,Y3]at hj;rw[<- numAt_eq];exact h2 j (by lia)
theorem Zjx(hc:X.calm=true):CallR X (.builtin "max") (fun xs H Q=>∃(p:Addr) (ns:List Int),xs=[.ref p]/\SqL X.K H p (ns.map V.int)/\0<ns.length/\∀M,M∈ns->(∀a∈ns,a≤M)->Q (.int M) H):=by
 intro pins s σ H xs us Q I r h;obtain⟨p,ns,rfl,hq,hne,q⟩:=h;obtain⟨u,rfl,ru⟩:=Z1 r;cases ru;obtain⟨its,rv,pl,hz⟩:=I.list hq;have hi:IntsAre its ns:=ID rv;obtain⟨xs,e⟩:=hi.allInts.items;have hns:ns=xs.toList.map (·.1):=by rw[<- hi.numsOf,<- nums_intItems,<- e]
 have hsz:0<xs.size:=by
  have h3:=hne;rw[hns,Xa,Y3]at h3;exact h3
 have hl:=pl.isList;rw[e]at hl;refine max_intList (I.ok.hd hc) hl hsz λv h' tk hv hk=>?_;obtain⟨t,rfl⟩:=intItems_at hv;obtain⟨h1,h2⟩:=argBest_gt (numAt xs) (xs.size - 1);refine⟨.int _,H,I.kept hk,⟨t,rfl⟩,q _ ?_ λa ha=>?_⟩
 ·rw[hns,numAt_eq];exact getD_mem (by rw[Xa,Y3];lia)
 ·rw[hns]at ha;obtain⟨j,hj,rfl⟩:=mem_getD ha;rw[Xa,Y3]at hj;rw[<- numAt_eq];exact h2 j (by lia)
end
theorem CF(ns:List Int):(Xx ns.length).map (λi=>ns.getD i 0)=ns:=by
 apply BT
 ·simp
 ·intro i h1 h2;simp[h2]
section
variable{X:Cx}
end
section
variable{X:Cx}
end
section
variable{X:Cx}
theorem Zfx{z:Str}{i:Int}(hz:z.length≤16)(h0:-1000≤i)(h1:i≤1000):MulOk z i:=by
 refine⟨?_,λh2 _=>?_,λh2 _=>?_⟩
 ·rw[decide_eq_false (by lia),decide_eq_false (by lia)];rfl
 ·have hi:1≤i:=by lia
  have:(16:Int)≤(2^63 - 1)/i:=by
   rw[Int.le_ediv_iff_mul_le (by lia)]
   lia
  lia
 ·have:z.length*i.toNat≤16*1000:=Nat.mul_le_mul hz (by lia)
  have h3:z.length*i.toNat<2^20:=by lia
  generalize z.length*i.toNat=n at h3;revert n;intro n hn;have hs:sizeLine=16777216:=by decide
  show decide (n>sizeLine)=false;rw[hs];exact decide_eq_false (by lia)
theorem ZmY:OpR X (Yy .Mult) (λx y H Q=>∃z i,x=.str z/\y=.int i/\z.length≤16/\ -1000≤i/\i≤1000/\Q (.str (Txt.mul z i)) H):=by
 intro pins s σ H x y v u Q I rx ry h;obtain⟨z,i,rfl,rfl,hz,h0,h1,q⟩:=h;obtain⟨t,rfl⟩:=rx;obtain⟨t',rfl⟩:=ry;exact SB.mul (Zfx hz h0 h1) (λt' k=>⟨.str (Txt.mul z i),H,I.tok _,⟨_,rfl⟩,q⟩)
theorem J4(x:Array Nat):∀(k:Nat) (acc:Array Nat),((Xj k x).foldl (·++·) acc).size=acc.size+k*x.size
 |0,acc=>by simp
 |k+1,acc=>by
  rw[Zf,VI,J4 x k,Array.size_append,Nat.succ_mul];lia
theorem Znb(z:Str)(i:Int):(Txt.mul z i).length=i.toNat*z.length:=by
 unfold Txt.mul;by_cases h:i<1
 ·rw[if_pos h];have:i.toNat=0:=by lia
  rw[this,Nat.zero_mul]
  rfl
 rw[if_neg h];by_cases h2:(i==1||z.length==0)=true
 ·rw[if_pos h2];rcases(C1 _ _).mp h2 with e|e
  ·have:i=1:=by simpa using e
   subst this;simp
  ·have:z.length=0:=by simpa using e
   rw[this,Nat.mul_zero]
 ·rw[if_neg h2];have e:=J4 z.cps i.toNat #[];show((Xj i.toNat z.cps).foldl (·++·) #[]).size=_;rw[e];show 0+_=_;rw[Nat.zero_add]
  rfl
theorem CG{z:Str}{i:Int}(m:Nat)(h:i≤m)(hz:z.length≤1):(Txt.mul z i).length≤m:=by
 rw[Znb];have:i.toNat*z.length≤i.toNat*1:=Nat.mul_le_mul_left _ hz;lia
theorem ZkA(hu:X.A.units<cLine):OpR X (Y6 .Eq) (λx y H Q=>∃a b xs,x=.ref a/\y=.ref b/\SqL X.K H a xs/\SqL X.K H b []/\Q (.bl xs.isEmpty) H):=by
 intro pins s σ H x y v u Q I rx ry h;obtain⟨a,b,xs,rfl,rfl,ha,hb,q⟩:=h;cases rx;cases ry;obtain⟨its,rv,pl,hz⟩:=I.list ha;obtain⟨jts,rw',pl',_⟩:=I.list hb;have hj:jts=[]:=BN rw'.length.symm;subst hj;cases xs with
 |nil=>
  have hi:its=[]:=BN rv.length.symm;subst hi;exact SeqAt.eq_listAt (e:=λ_=>true) pl.isList pl'.isList rfl hu (λj h1 _=>absurd h1 (Nat.not_lt_zero j)) (XM I q rfl)
 |cons x r=>
  have hl:its.length=r.length+1:=by rw[<- rv.length];rfl
  exact SeqAt.eq_list_lengthsAt pl.isList pl'.isList (by simp;intro e;rw[e]at hl;simp at hl) hu (XM I q rfl)
theorem Zky(hu:X.A.units<cLine):OpR X (Y6 .NotEq) (λx y H Q=>∃a b xs,x=.ref a/\y=.ref b/\SqL X.K H a xs/\SqL X.K H b []/\Q (.bl (!xs.isEmpty)) H):=by
 intro pins s σ H x y v u Q I rx ry h;obtain⟨a,b,xs,rfl,rfl,ha,hb,q⟩:=h;cases rx;cases ry;obtain⟨its,rv,pl,hz⟩:=I.list ha;obtain⟨jts,rw',pl',_⟩:=I.list hb;have hj:jts=[]:=BN rw'.length.symm;subst hj;cases xs with
 |nil=>
  have hi:its=[]:=BN rv.length.symm;subst hi;exact SeqAt.RcNeAt.lists (e:=λ_=>true) pl.isList pl'.isList rfl hu (λj h1 _=>absurd h1 (Nat.not_lt_zero j)) X.prog X.w _ _ (XM I q rfl)
 |cons x r=>
  have hl:its.length=r.length+1:=by rw[<- rv.length];rfl
  exact SeqAt.RcNeAt.lists_lengths pl.isList pl'.isList (by simp;intro e;rw[e]at hl;simp at hl) hu X.prog X.w _ _ (XM I q rfl)
end
open AutoSeq1 (wpAny_loadPart')
open MeetsSeq MeetsSeq2 MeetsSeq3 SeqRoads2
def AliP(P:Xk)(w:Xh)(A:Xt)(s:X1)(y x:X0):Prop:=∀(E:X0->X1->Prop) (Q:Bool->X1->Prop),Q true s->X3 (X6 P w) A (eqBool y x) Q E s
def RcP(P:Xk)(w:Xh)(A:Xt)(s:X1)(y x:X0):Prop:=∀(E Q:X0->X1->Prop),Q (.bool true) s->X3 (X6 P w) A (richCompare .Eq y x) Q E s
def RnP(P:Xk)(w:Xh)(A:Xt)(s:X1)(y x:X0):Prop:=∀(E Q:X0->X1->Prop),Q (.bool false) s->X3 (X6 P w) A (richCompare .NotEq y x) Q E s
section
variable{P:Xk}{w:Xh}{A:Xt}{s:X1}{a b:Addr}{xs ys:Array X0}
theorem AliP.of_at{y x:X0}(h:SeqAt.EqAt A s y x true):AliP P w A s y x:=λE Q q=>h P w E Q q
theorem AliP.refs(h:RcP P w A s (.ref a) (.ref b)):AliP P w A s (.ref a) (.ref b):=by
 intro E Q q;by_cases e:a=b
 ·subst e;exact SeqAt.EqAt.same _ P w E Q q
 ·unfold eqBool;refine YL (wpAny_ite_split (λz=>absurd (by injection (eq_of_beq z)) e) λ_=>?_)
  exact X2 (h E _ (ZO q))
theorem ZoE(ha:s.heap.IsTuple a xs)(hb:s.heap.IsTuple b ys)(hz:xs.size=ys.size)(hu:A.units<cLine)(he:∀p∈xs.toList.zip ys.toList,AliP P w A.in1 s p.1 p.2):RcP P w A s (.ref a) (.ref b):=by
 intro E Q q;obtain⟨⟨c1,d1,t1,l1⟩,o1,k1,n1,e1⟩:=id ha;obtain⟨⟨c2,d2,t2,l2⟩,o2,k2,n2,e2⟩:=id hb;dsimp only at k1 e1 k2 e2;subst k1 e1 k2 e2;refine Vy (op:=.Eq) ⟨_,o1,rfl⟩ ⟨_,o2,rfl⟩ F.slot_tuple_eq (Zc F.slot_tuple_eq ⟨_,o1,rfl⟩ F.entry_tuple_eq ?_ (F.args_tuple_eq_2 _ _)) hu;obtain⟨h0,g0,dd,tk,os⟩:=s;have f2:=Ho
 wp_walk using Yh o1,Yh o2,wpAny_forIn_list _ (λrest r s'=>r.1=none/\s'=⟨h0,g0,dd,tk,os⟩/\∀p∈rest,AliP P w A.in1 ⟨h0,g0,dd,tk,os⟩ p.1 p.2) _
 case turn=>
  rintro⟨y,x⟩ rest r s' ⟨z1,rfl,m⟩;refine X2 (m (y,x) Yi _ _ ?_)
  wp_walk
  exact⟨rfl,rfl,λp hp=>m p (XX _ hp)⟩
 case fin=>
  rintro⟨r1,r2⟩ s' ⟨z1,rfl,-⟩;dsimp only at z1;subst z1
  wp_walk
  have tc:Ce .Eq xs.size ys.size=.bool true:=by simp[Ce,hz]
  rw[tc];exact⟨_,rfl,(λz=>nomatch z),q⟩
 case h=>exact⟨rfl,rfl,he⟩
theorem Zl0{n1 n2:Nat}{d1 d2:Option Addr}{l1 l2:Array (Option X0)}(hz:xs.size=ys.size){R:Result->X1->Prop}
  (o1:s.heap.get? a=some {cls:=.type "list",dict:=d1,data:=.seq xs n1,slots:=l1}) (o2:s.heap.get? b=some {cls:=.type "list",dict:=d2,data:=.seq ys n2,slots:=l2})
  (he:∀j (h1:j<xs.size) (h2:j<ys.size),AliP P w A.in1 s xs[j] ys[j]) (q:R (.ok (.ret (.bool true))) s):∀k i:Nat,xs.size - i=k->
  X3 (X6 P w) A.in1 (Builtin.«list.__eq__.loop» ⟨[.ref a,.ref b,Y9 i,Y9 2],[]⟩) (λfin s'=>match fin with|.done f=>R (.ok f) s'|.again c'=>c'.quiet=true/\YY (X6 P w) A c' R s') (λe s'=>R (.error e) s') s:=by
 obtain⟨h0,g0,dd,tk,os⟩:=s;intro k
 induction k with
 |zero=>
  intro i hk
  wp_walk using Yh o1,Yh o2
  rw[show xs[((i:Nat):Int).toNat]?=none by simp;lia,show ys[((i:Nat):Int).toNat]?=none by simp;lia]
  wp_walk using Yh o1,Yh o2
  show R (.ok (.ret (.bool (xs.size==ys.size)))) _
  simpa [hz]using q
 |succ k ih=>
  intro i hk;have h1:i<xs.size:=by lia
  have h2:i<ys.size:=by lia
  wp_walk using Yh o1,Yh o2
  rw[show xs[((i:Nat):Int).toNat]?=some xs[i] by simp[h1],show ys[((i:Nat):Int).toNat]?=some ys[i] by simp[h2]]
  refine X2 (he i h1 h2 _ _ ?_)
  wp_walk
  rw[show((i:Int)+1)=((i+1:Nat):Int) by push_cast;rfl]
  refine⟨ZC plain_eq_loop _,Zd entry_eq_loop ?_⟩;rw[ZJ plain_eq_loop _];exact ih (i+1) (by lia)
theorem ZoF(ha:s.heap.IsList a xs)(hb:s.heap.IsList b ys)(hz:xs.size=ys.size)(hu:A.units<cLine)(he:∀j (h1:j<xs.size) (h2:j<ys.size),AliP P w A.in1 s xs[j] ys[j]):RcP P w A s (.ref a) (.ref b):=by
 intro E Q q;obtain⟨⟨c1,d1,t1,l1⟩,o1,k1,n1,e1⟩:=id ha;obtain⟨⟨c2,d2,t2,l2⟩,o2,k2,n2,e2⟩:=id hb;dsimp only at k1 e1 k2 e2;subst k1 e1 k2 e2;have t1:s.TypeIs (.ref a) "list":=⟨_,o1,rfl⟩;refine Vy (op:=.Eq) t1 ⟨_,o2,rfl⟩ E7 (wpAny_call (Wv E7.plain F.entry_list_eq (E7.check _ _ _ _ _ _ _ _ t1 (F.args_list_eq_2 _ _) ?_))) hu;obtain⟨h0,g0,dd,tk,os⟩:=s;have f3:=Hq;have nz:¬(xs.size != ys.size)=true:=by simp[hz]
 wp_walk using Yh o1,Yh o2
 refine⟨ZC plain_eq_loop _,Zd entry_eq_loop ?_⟩;rw[ZJ plain_eq_loop _];exact Zl0 (R:=wants (λv s'=>v≠.notImplemented/\Q v s') E) hz o1 o2 he (show Ye true≠.notImplemented/\Q (.bool true) _ from⟨(λz=>nomatch z),q⟩) _ 0 rfl
theorem Zn7(ha:s.heap.IsTuple a xs)(hb:s.heap.IsTuple b ys)(hz:xs.size=ys.size)(hu:A.units<cLine)(he:∀p∈xs.toList.zip ys.toList,AliP P w A.in1 s p.1 p.2):RnP P w A s (.ref a) (.ref b):=by
 intro E Q q;obtain⟨⟨c1,d1,t1,l1⟩,o1,k1,n1,e1⟩:=id ha;obtain⟨⟨c2,d2,t2,l2⟩,o2,k2,n2,e2⟩:=id hb;dsimp only at k1 e1 k2 e2;subst k1 e1 k2 e2;refine Vy (op:=.NotEq) ⟨_,o1,rfl⟩ ⟨_,o2,rfl⟩ F.slot_tuple_ne (Zc F.slot_tuple_ne ⟨_,o1,rfl⟩ F.entry_tuple_ne ?_ (F.args_tuple_ne_2 _ _)) hu;obtain⟨h0,g0,dd,tk,os⟩:=s;have f2:=Ho
 wp_walk using Yh o1,Yh o2,wpAny_forIn_list _ (λrest r s'=>r.1=none/\s'=⟨h0,g0,dd,tk,os⟩/\∀p∈rest,AliP P w A.in1 ⟨h0,g0,dd,tk,os⟩ p.1 p.2) _
 case turn=>
  rintro⟨y,x⟩ rest r s' ⟨z1,rfl,m⟩;refine X2 (m (y,x) Yi _ _ ?_)
  wp_walk
  exact⟨rfl,rfl,λp hp=>m p (XX _ hp)⟩
 case fin=>
  rintro⟨r1,r2⟩ s' ⟨z1,rfl,-⟩;dsimp only at z1;subst z1
  wp_walk
  have tc:Ce .NotEq xs.size ys.size=.bool false:=by simp[Ce,hz]
  rw[tc];exact⟨_,rfl,(λz=>nomatch z),q⟩
 case h=>exact⟨rfl,rfl,he⟩
theorem ZkE{n1 n2:Nat}{d1 d2:Option Addr}{l1 l2:Array (Option X0)}(hz:xs.size=ys.size){R:Result->X1->Prop}
  (o1:s.heap.get? a=some {cls:=.type "list",dict:=d1,data:=.seq xs n1,slots:=l1}) (o2:s.heap.get? b=some {cls:=.type "list",dict:=d2,data:=.seq ys n2,slots:=l2})
  (he:∀j (h1:j<xs.size) (h2:j<ys.size),AliP P w A.in1 s xs[j] ys[j]) (q:R (.ok (.ret (.bool false))) s):∀k i:Nat,xs.size - i=k->
  X3 (X6 P w) A.in1 (Builtin.«list.__eq__.loop» ⟨[.ref a,.ref b,Y9 i,Y9 3],[]⟩) (λfin s'=>match fin with|.done f=>R (.ok f) s'|.again c'=>c'.quiet=true/\YY (X6 P w) A c' R s') (λe s'=>R (.error e) s') s:=by
 obtain⟨h0,g0,dd,tk,os⟩:=s;intro k
 induction k with
 |zero=>
  intro i hk
  wp_walk using Yh o1,Yh o2
  rw[show xs[((i:Nat):Int).toNat]?=none by simp;lia,show ys[((i:Nat):Int).toNat]?=none by simp;lia]
  wp_walk using Yh o1,Yh o2
  show R (.ok (.ret (.bool (xs.size != ys.size)))) _
  simpa [hz]using q
 |succ k ih=>
  intro i hk;have h1:i<xs.size:=by lia
  have h2:i<ys.size:=by lia
  wp_walk using Yh o1,Yh o2
  rw[show xs[((i:Nat):Int).toNat]?=some xs[i] by simp[h1],show ys[((i:Nat):Int).toNat]?=some ys[i] by simp[h2]]
  refine X2 (he i h1 h2 _ _ ?_)
  wp_walk
  rw[show((i:Int)+1)=((i+1:Nat):Int) by push_cast;rfl]
  refine⟨ZC plain_eq_loop _,Zd entry_eq_loop ?_⟩;rw[ZJ plain_eq_loop _];exact ih (i+1) (by lia)
theorem Zn8(ha:s.heap.IsList a xs)(hb:s.heap.IsList b ys)(hz:xs.size=ys.size)(hu:A.units<cLine)(he:∀j (h1:j<xs.size) (h2:j<ys.size),AliP P w A.in1 s xs[j] ys[j]):RnP P w A s (.ref a) (.ref b):=by
 intro E Q q;obtain⟨⟨c1,d1,t1,l1⟩,o1,k1,n1,e1⟩:=id ha;obtain⟨⟨c2,d2,t2,l2⟩,o2,k2,n2,e2⟩:=id hb;dsimp only at k1 e1 k2 e2;subst k1 e1 k2 e2;have t1:s.TypeIs (.ref a) "list":=⟨_,o1,rfl⟩;refine Vy (op:=.NotEq) t1 ⟨_,o2,rfl⟩ E8 (wpAny_call (Wv E8.plain F.entry_list_ne (E8.check _ _ _ _ _ _ _ _ t1 (F.args_list_ne_2 _ _) ?_))) hu;obtain⟨h0,g0,dd,tk,os⟩:=s;have f3:=Hq;have nz:¬(xs.size != ys.size)=true:=by simp[hz]
 wp_walk using Yh o1,Yh o2
 refine⟨ZC plain_eq_loop _,Zd entry_eq_loop ?_⟩;rw[ZJ plain_eq_loop _];exact ZkE (R:=wants (λv s'=>v≠.notImplemented/\Q v s') E) hz o1 o2 he (show Ye false≠.notImplemented/\Q (.bool false) _ from⟨(λz=>nomatch z),q⟩) _ 0 rfl
theorem J5{K:Type} [DecidableEq K] {knd:KeyKind P w K}{nm:String}{ka kb:List (K×X0)}{E:X0->X1->Prop}{Q:Bool->X1->Prop}(na:(a==YX)=false)(nb:(b==YX)=false)
  (da:s.heap.DictOf knd a ka) (db:s.heap.DictOf knd b kb) (hz:ka.length=kb.length) (he:∀p∈ka,∃y,Z5 kb p.1=some y/\AliP P w A s p.2 y) (q:Q true s):
  X3 (X6 P w) A (Hu nm a b) Q E s:=by
 obtain⟨oa,ea,pa,o1,_,t1,k1,v1,_⟩:=da;obtain⟨ob,eb,pb,o2,_,t2,k2,v2,_⟩:=db;have za:ka.length=ea.size:=v1.length.symm.trans Y3;have zb:kb.length=eb.size:=v2.length.symm.trans Y3;have fd:∀k,findBy knd.is eb k=Z5 kb k:=by
  intro k;rw[<- v2.find k];clear zb v2 k2 t2 o2;obtain⟨l⟩:=eb;simp[findBy]
 have zz:ea.size=eb.size:=by lia
 unfold Hu Builtin.Dict.showsAll;rw[na,nb];refine X2 (X8 (X2 (X8 (X2 (BJ o1 t1 ?_)))));dsimp only;refine X2 (BJ o2 t2 ?_);rw[if_neg (by simp[zz])]
 refine X2 (wpAny_dictEpoch o1 t1 (X2 ?_));rw[Std.Legacy.Range.forIn_eq_forIn_range'];simp only[Std.Legacy.Range.size,Nat.sub_zero,Nat.add_sub_cancel,Nat.div_one];refine wpAny_forIn_list _ (λrest r s'=>s'=s/\r=(none,())/\∀i∈rest,i<ea.size) _ ?_ ?_ _ _ ⟨rfl,rfl,λi hi=>by simpa using hi⟩
 ·rintro i rest r s' ⟨rfl,rfl,m⟩;have lt:i<ea.size:=m i Yi;have lt':i<ka.length:=by lia
  refine X2 (BJ o1 t1 ?_);rw[V7 lt];obtain⟨key,val⟩:=v1.get? (i:=i) (e:=ea[i]) (k:=ka[i].1) (v:=ka[i].2) (by rw[Hh];exact V7 lt) (Xd lt')
  obtain⟨k',i',hh⟩:=k1 ea[i] (Array.getElem_mem lt);obtain rfl:k'=ka[i].1:=knd.inj _ _ _ i' key;obtain⟨y,fy,al⟩:=he ka[i] (Y1 lt');show X3 _ _ (Z9 [ea[i].key,ea[i].val] _ >>= _) _ _ _;rw[hh];refine X2 (YL (X2 (wpAny_dictFind_of key o2 t2 k2 ?_)));have fy':=fy;rw[<- fd,findBy_of_findIdx?]at fy';cases hj:eb.findIdx? λe=>knd.is ka[i].1 e.key with
  |none=>rw[hj]at fy';cases fy'
  |some j=>
   rw[hj]at fy';obtain⟨jl,_,_⟩:=Array.findIdx?_eq_some_iff_getElem.mp hj;refine X2 (BJ o2 t2 ?_);rw[V7 jl];have ey:eb[j].val=y:=by simpa [V7 jl]using fy'
   rw[<- ey,<- val]at al;refine YL (al _ _ ?_);show X3 _ _ (if(!true)=true then _ else _) _ _ _;rw[if_neg (show¬(!true)=true from XC)];refine X2 (wpAny_dictEpoch o1 t1 ?_);rw[if_neg (by simp)]
   exact X8 ⟨rfl,rfl,λz hz=>m z (XX _ hz)⟩
 ·rintro r s' ⟨rfl,rfl,-⟩;exact X8 q
theorem ZoG{K:Type} [DecidableEq K] {knd:KeyKind P w K}{ka kb:List (K×X0)}(na:(a==YX)=false)(nb:(b==YX)=false)
  (da:s.heap.DictOf knd a ka) (db:s.heap.DictOf knd b kb) (hu:A.units<cLine) (hz:ka.length=kb.length) (he:∀p∈ka,∃y,Z5 kb p.1=some y/\AliP P w A.in1 s p.2 y):RcP P w A s (.ref a) (.ref b):=by
 intro E Q q;refine Vy (op:=.Eq) da.typeIs db.typeIs HI (Zc HI da.typeIs PySem.F.entry_dict_eq ?_ (PySem.F.args_dict_eq_2 _ _)) hu;show X3 _ _ (Cj "__eq__" ⟨[.ref a,.ref b],[]⟩>>= _) _ _ s;refine X2 ?_;unfold Cj;refine X2 (BK da.typeIs (X8 (X2 (Uz (T:="dict") db.typeIs HC ?_))));rw[if_neg (by decide)]
 refine X2 (X8 (X2 (X8 (X2 (J5 na nb da db hz he ?_)))));exact X8 ⟨_,rfl,(λz=>nomatch z),q⟩
theorem Zn9{K:Type} [DecidableEq K] {knd:KeyKind P w K}{ka kb:List (K×X0)}(na:(a==YX)=false)(nb:(b==YX)=false)
  (da:s.heap.DictOf knd a ka) (db:s.heap.DictOf knd b kb) (hu:A.units<cLine) (hz:ka.length=kb.length) (he:∀p∈ka,∃y,Z5 kb p.1=some y/\AliP P w A.in1 s p.2 y):RnP P w A s (.ref a) (.ref b):=by
 intro E Q q;refine Vy (op:=.NotEq) da.typeIs db.typeIs HJ (Zc HJ da.typeIs PySem.F.entry_dict_ne ?_ (PySem.F.args_dict_ne_2 _ _)) hu;show X3 _ _ (Cj "__ne__" ⟨[.ref a,.ref b],[]⟩>>= _) _ _ s;refine X2 ?_;unfold Cj;refine X2 (BK da.typeIs (X8 (X2 (Uz (T:="dict") db.typeIs HC ?_))));rw[if_neg (by decide)]
 refine X2 (X8 (X2 (X8 (X2 (J5 na nb da db hz he ?_)))));exact X8 ⟨_,rfl,(λz=>nomatch z),q⟩
end
section
variable{X:Cx}
end
end L2
namespace L2
open PySem PySem.Spec PyProof.Rows
theorem Zao:fillsNumberSlot (.type "tuple") "mul"=pure false:=
 PySem.fillsNumberSlot_seq (id:="tuple.__mul__") (r:=some (.builtin "tuple.__rmul__")) Cn.lookup (by decide+kernel) Hz.lookup (by decide+kernel)
theorem Zeh:seqRepeat? (.type "tuple")=pure (some (.builtin "tuple.__mul__")):=by
 unfold seqRepeat?;rw[PySem.seqSlot_of (T:="tuple") (name:="__mul__") (id:="tuple.__mul__") Cn.lookup (by decide+kernel),PySem.seqSlot_of (T:="tuple") (name:="__rmul__") (id:="tuple.__rmul__") Hz.lookup (by decide+kernel)]
 rfl
theorem ZeJ(a:Int)(t:Tok)(l:Addr)(items:Array X0)(n:Nat)(dd:Option Addr)(sl:Array (Option X0)):
  Meets (Builtin.«int.__rmul__» ⟨[.int a t,.ref l],[]⟩) (fun _ R s=>s.heap.get? l=some {cls:=.type "tuple",dict:=dd,data:=.seq items n,slots:=sl}/\R (.ok (.ret Value.notImplemented)) s):=
 .of_wp λprog w A R s h=>by obtain⟨hp,g,d,tk,os⟩:=s;obtain⟨hl,h⟩:=h;wp_walk;exact⟨_,rfl,h⟩
theorem ZjZ(l:Addr)(items:Array X0)(n:Nat)(dd:Option Addr)(sl:Array (Option X0))(u:Tok):
  Meets (Builtin.«tuple.__mul__» ⟨[.ref l,.int 1 u],[]⟩) (fun _ R s=>s.heap.get? l=some {cls:=.type "tuple",dict:=dd,data:=.seq items n,slots:=sl}/\R (.ok (.ret (Xs l))) s):=
 .of_wp λprog w A R s h=>by
  obtain⟨hp,g,d,tk,os⟩:=s;obtain⟨hl,h⟩:=h;have f1:=Hr;have c:(items.isEmpty||(1:Int)==1)=true:=by simp
  wp_walk using Cg hl;exact⟨_,rfl,h⟩
theorem ZjY(l:Addr)(items:Array X0)(n:Nat)(dd:Option Addr)(sl:Array (Option X0))(k:Int)(u:Tok)(h2:2≤k)(h0:items.size≠0)(hz:items.size*k.toNat≤1000000):
  Meets (Builtin.«tuple.__mul__» ⟨[.ref l,.int k u],[]⟩) (fun _ R s=>s.heap.get? l=some {cls:=.type "tuple",dict:=dd,data:=.seq items n,slots:=sl}/\
   R (.ok (.ret (Xs s.heap.objs.size))) {s with heap:=s.heap.push {cls:=XH "tuple",data:=Z0 (VL (fun x1 x2=>x1++x2) #[] (Xj k.toNat items))},toks:=s.toks}):=
 .of_wp λprog w A R s h=>by
  obtain⟨hp,g,d,tk,os⟩:=s;obtain⟨hl,h⟩:=h;have f1:=Hr;have hk:k≤1000000:=by
   have:1*k.toNat≤items.size*k.toNat:=Nat.mul_le_mul_right _ (by lia)
   lia
  have zz:(items.size:Int)*k≤1000000:=by
   have e:(items.size:Int)*k=((items.size*k.toNat:Nat):Int):=by rw[Int.natCast_mul,UG (by lia)]
   rw[e];lia
  have c0:¬(decide (k< -(2^63))||decide (k ≥ 2^63))=true:=by simp;lia
  have c1:¬(items.isEmpty||k==1)=true:=by
   simp;exact⟨λz=>h0 (by rw[z];rfl),by lia⟩
  have c2:¬(decide (k≤0)||items.isEmpty)=true:=by
   simp;exact⟨by lia,λz=>h0 (by rw[z];rfl)⟩
  have c3:¬((items.size:Int)*k>(2^63 - 1)/8):=by lia
  have c4:¬(Hm ((items.size:Int)*k)=true):=by
   unfold Hm;have hs:sizeLine=16777216:=by decide
   rw[hs];simp;lia
  have hsz:(VL (λx1 x2=>x1++x2) #[] (Xj k.toNat items)).size≤sizeLine:=by
   have hs:sizeLine=16777216:=by decide
   rw[PySem.AutoListH.size_joined,hs,Nat.mul_comm];simp;lia
  wp_walk using Cg hl
  refine wpAny_ite_false (decide_eq_false c0) ?_
  wp_walk using Cg hl
  refine wpAny_ite_false (decide_eq_false c3) ?_
  wp_walk using Cg hl
  exact⟨_,rfl,h⟩
section
variable{X:Cx}
theorem ZmX:OpR X (Yy .Mult) (λx y H Q=>∃a k xs,x=.ref a/\y=.int k/\SqT X.K H a xs/\xs≠ []/\1≤k/\xs.length*k.toNat≤1000000/\(k=1->Q (.ref a) H)/\
  (k≠1->∀p,H p=none->Q (.ref p) (upd H p (.tup (Xj k.toNat xs).flatten)))):=by
 intro pins s σ H x y v u Q I rx ry h;obtain⟨a,k,xs,rfl,rfl,ha,h0,h1,hz,q1,q2⟩:=h;obtain rfl:v=Xs a:=rx;obtain⟨tk,rfl⟩:=ry;obtain⟨its,r,p1,_⟩:=I.tuple ha;obtain⟨⟨cls,dd,data,sl⟩,ho,hc,n,hd⟩:=id p1;simp only at hc hd;subst hc hd;have hl:its.toArray.size=xs.length:=by rw[XW,<- r.length]
 refine wpAny_binaryOp_repeat_ref (T:="tuple") (U:="int") (by decide) ⟨_,ho,rfl⟩ (fun s'=>typeIs_int s' k tk) Zao PySem.F.fills_int_mul HD Zeh PySem.F.slot_int_index.lookup
  (UX HD (typeIs_int s k tk) PySem.F.entry_int_rmul (PySem.F.args_int_rmul_2 _ _) (ZeJ k tk a its.toArray n dd sl) ⟨ho,rfl,⟨_,ho,rfl⟩,?_⟩)
 by_cases e1:k=1
 ·subst e1;exact UX Cn ⟨_,ho,rfl⟩ HA (Hx _ _) (ZjZ a its.toArray n dd sl tk) ⟨ho,.ref a,H,I,rfl,q1 rfl⟩
 ·refine UX Cn ⟨_,ho,rfl⟩ HA (Hx _ _) (ZjY a its.toArray n dd sl k tk (by lia) (by rw[hl];exact λz=>h0 (BO.mp z)) (by rw[hl];exact hz)) ⟨ho,?_⟩
  have f0:VL (λx1 x2=>x1++x2) #[] (Xj k.toNat its.toArray)=(Xj k.toNat its).flatten.toArray:=by
   have:=Et its k.toNat [];rw[Yd]at this;exact this
  rw[f0];refine⟨.ref s.heap.objs.size,_,I.laid (t':=s.toks) (o:=.tup (Xj k.toNat xs).flatten) (λb ob q=>Xu _ q) (Xi _) ?_,rfl,q2 e1 _ (I.hok.fresh (Xi _))⟩;refine⟨?_,_,r.rep k.toNat,IsTup.new _ _,_,XS _ rfl,rfl⟩;have hs:sizeLine=16777216:=by decide
  rw[IQ,hs,Nat.mul_comm];lia
end
section
variable{X:Cx}{pins:List (Addr×Obj)}{σ:St}{H:Hp}{s:X1}
theorem WZ{H:Hp}{a b:Addr}{u v:HO}(e:H a=some u)(mu:Mut (some u))(q:H b=some v)(nv:¬Mut (some v)):b≠a:=by
 intro z;subst z;rw[e]at q;cases q;exact nv mu
theorem Inv.freeze(I:Inv X pins σ H s){a:Addr}{u:HO}{o:Obj}(e:H a=some u)(mu:Mut (some u))(ho:s.heap.get? a=some o):Inv X pins σ (upd H a (.frz o u)) s:=by
 have nn:∀b,H b=none->b≠a:=λb n z=>by subst z;rw[e]at n;cases n
 refine I.step (h':=s.heap) (g':=s.gens) (t':=s.toks) (d':=s.drawn) (ch:=[]) (λ_ z=>nomatch z) (λb o _ _ _ q _=>q) (λb o _ _ _ q _=>⟨o.slots,q⟩) (λb o _ _ n=>by rw[XL (nn b n)];exact n) (λb o _ q=>⟨o,q⟩)
  (λb xs q=>by rw[XL (WZ e mu q λz=>z)];exact q) (λb o u q=>by rw[XL (WZ e mu q λz=>z)];exact q) (λb ps q=>⟨#[],by rw[XL (WZ e mu q λz=>z),q];simp⟩) (λm h=>h) (λb v q=>?_) I.bare
 have st:∀{c:Addr} {y:HO},ObjOk X.prog X.w H s.heap c y->ObjOk X.prog X.w (upd H a (.frz o u)) s.heap c y:=λx=>
  x.stay (λc v _ q=>q) (λc q=>by rw[XL (WZ e mu q λz=>z)];exact q) λc xs q=>by rw[XL (WZ e mu q λz=>z)];exact q
 by_cases hb:b=a
 ·subst hb;rw[Zh]at q;cases q;exact⟨ho,st (I.hok b u e)⟩
 ·rw[XL hb]at q;exact st (I.hok b v q)
def Thw(X:Cx)(H H':Hp):Prop:=H'=H\/∃a o u,H a=some (.frz o u)/\Mut (some u)/\(∀o' u',X.H₀ a≠some (.frz o' u'))/\H'=upd H a u
theorem Inv.thaw(I:Inv X pins σ H s){H':Hp}(t:Thw X H H'):Inv X pins σ H' s:=by
 rcases t with rfl|⟨a,o,u,e,mu,nf,rfl⟩
 ·exact I
 have ne:∀{b:Addr} {y:HO},H b=some y->y≠.frz o u->b≠a:=fun{b y} q n z=>by subst z;rw[e]at q;cases q;exact n rfl
 have nn:∀b,H b=none->b≠a:=λb n z=>by subst z;rw[e]at n;cases n
 have st:∀{c:Addr} {y:HO},ObjOk X.prog X.w H s.heap c y->ObjOk X.prog X.w (upd H a u) s.heap c y:=λx=>
  x.stay (λc v _ q=>q) (λc q=>by rw[XL (ne q (λz=>by cases z))];exact q) λc xs q=>by rw[XL (ne q (λz=>by cases z))];exact q
 refine⟨I.ok,I.os,I.bare,⟨I.base.keep,I.base.slot,λb ob q n hx=>?_,I.base.there,λb xs q=>?_,λb o' u' q=>?_,λb ps q=>?_⟩,I.loc,I.cell,?_,λx c q=>?_,λp hp=>?_,λb v q=>?_,I.len⟩
 ·have:=I.base.free b ob q n hx;rw[XL (nn b this)];exact this
 ·have:=I.base.tups b xs q;rw[XL (ne this (λz=>by cases z))];exact this
 ·rw[XL (λz=>by subst z;exact nf o' u' q)]
  exact I.base.frzs b o' u' q
 ·obtain⟨m,h⟩:=I.base.tbls b ps q;exact⟨m,by rw[XL (ne h (λz=>by cases z))];exact h⟩
 ·rw[XL (nn _ I.free)];exact I.free
 ·rw[XL (nn _ (I.freeC x c q))];exact I.freeC x c q
 ·obtain⟨h1,h2,h3⟩:=I.pin p hp;exact⟨h1,by rw[XL (nn _ h2)];exact h2,h3⟩
 ·by_cases hb:b=a
  ·subst hb;rw[Zh]at q;cases q;exact st (I.hok b _ e).2
  ·rw[XL hb]at q;exact st (I.hok b v q)
theorem Inv.nofrz(I:Inv X pins σ H s){a:Addr}{u:HO}(e:H a=some u)(mu:Mut (some u)):∀o' u',X.H₀ a≠some (.frz o' u'):=λo' u' z=>by
 have:=I.base.frzs a o' u' z;rw[e]at this;cases this;exact mu
def thwD(X:Cx)(D:Ends):Ends where
 nx:=λσ H=>∃H',Thw X H H'/\D.nx σ H'
 rt:=λv H=>∃H',Thw X H H'/\D.rt v H'
 bk:=λσ H=>∃H',Thw X H H'/\D.bk σ H'
 ct:=λσ H=>∃H',Thw X H H'/\D.ct σ H'
theorem PS.thaw{st:Stmt}{t:TS}(h:PS X st t):PS X st (λD σ H=>t (thwD X D) σ H):=by
 intro pins s σ H D I q;refine thn (h pins s σ H _ I q) λf s' hf=>?_;cases f with
 |next=>obtain⟨σ',H',I',H2,t2,d⟩:=hf;exact⟨σ',H2,I'.thaw t2,d⟩
 |brk=>obtain⟨σ',H',I',H2,t2,d⟩:=hf;exact⟨σ',H2,I'.thaw t2,d⟩
 |cont=>obtain⟨σ',H',I',H2,t2,d⟩:=hf;exact⟨σ',H2,I'.thaw t2,d⟩
 |ret u=>obtain⟨v,σ',H',I',r,H2,t2,d⟩:=hf;exact⟨v,σ',H2,I'.thaw t2,r,d⟩
theorem PE.thaw{e:Expr}{t:TE}(h:PE X e t):PE X e (λσ H Q=>t σ H λv H'=>∃H2,Thw X H' H2/\Q v H2):=by
 intro pins s σ H Q I q;refine thn (h pins s σ H _ I q) λu s' ⟨v,H',I',r,H2,t2,d⟩=>⟨v,H2,I'.thaw t2,r,d⟩
def Itd(a:Addr)(o:Obj):It where
 go:=λi H=>∃kvs,H a=some (.frz o (.dK kvs))/\i<kvs.length
 yld:=λi H x H'=>H'=H/\∀kvs,H a=some (.frz o (.dK kvs))->∃k v,kvs[i]?=some (k,v)/\x=kV k
 stop:=λi H=>∃kvs,H a=some (.frz o (.dK kvs))/\kvs.length≤i
theorem J7{P:Xk}{w:Xh}{h:Heap}{a:Addr}{o:Obj}{kvs:List (Key×V)}{es:Array DictEntry}{ep:Nat}(ok:HOk P w H h)(e:H a=some (.frz o (.dK kvs)))(hd:o.data=.dict es ep):
  ∃vs,KV kvs vs/\h.DictAt (Yw P w) a vs ep/\vs.length=es.size:=by
 obtain⟨ho,z,_,vs,rel,o',es',ep',ho',r1,r2,r3⟩:=ok a _ e;rw[ho]at ho';cases ho';rw[hd]at r2;injection r2 with e1 e2;subst e1 e2;exact⟨vs,rel,⟨o,es,ho,r1,hd,r3⟩,by rw[<- r3.2.1.length];simp⟩
theorem ZpJ{kvs:List (Key×V)}{vs:List (Key×X0)}(r:KV kvs vs):kvs.length=vs.length:=by
 induction r with
 |nil=>rfl
 |cons _ _ ih=>rw[Yu,Yu,ih]
theorem ZpK{kvs:List (Key×V)}{vs:List (Key×X0)}(r:KV kvs vs):∀{i:Nat} {k:Key} {v:V},kvs[i]?=some (k,v)->∃u,vs[i]?=some (k,u)/\RelV v u:=by
 induction r with
 |nil=>intro i k v h;cases h
 | @cons p p' _ _ q _ ih=>
  intro i k v h;cases i with
  |zero=>
   cases h;obtain⟨k2,x2⟩:=p';have e1:k=k2:=q.1;subst e1;exact⟨x2,rfl,q.2⟩
  |succ i=>exact ih (i:=i) h
theorem Znm{P:Xk}{w:Xh}{k:Key}{u:X0}(h:(Yw P w).is k u=true):RelV (kV k) u:=by
 rcases ZY h with⟨i,t,rfl,rfl⟩|⟨x,t,rfl,rfl⟩
 ·exact⟨t,rfl⟩
 ·exact⟨t,rfl⟩
theorem Z6K{P:Xk}{w:Xh}{A:Xt}{E:X0->X1->Prop}{s:X1}{it d:Addr}{i n ep:Nat}{Q:X0->X1->Prop}(hit:s.heap.IsKeyIter it d i n ep)(h:Q (.ref it) s):
  X3 (X6 P w) A (pyIter (.ref it)) Q E s:=by
 refine wpAny_pyIter_slot hit.typeIs Hv (Zc Hv hit.typeIs PySem.F.entry_dict_keyiterator_iter ?_ (PySem.F.args_dict_keyiterator_iter_1 _));show X3 _ _ (ret (.ref it)) _ _ s;exact X8 ⟨_,rfl,"dict_keyiterator",_,hit.typeIs,PySem.F.slot_dict_keyiterator_next.lookup,h⟩
theorem ZhM{P:Xk}{w:Xh}{K:X5}{tg:Expr}(a it:Addr)(o:Obj)(es:Array DictEntry)(ep:Nat)(hd:o.data=.dict es ep):Turn P w K tg (Itd a o) [it] it (λi h=>h.IsKeyIter it a i es.size ep)where
 mem:=by simp
 obj:=λi h st b hb=>by
  have e:b=it:=by simpa using hb
  subst e;obtain⟨o,e,c,d⟩:=st;exact⟨o,e,λv z=>by rw[d]at z;cases z⟩
 keep:=λi h h' st k=>by
  obtain⟨o,e,c,d⟩:=st;exact⟨o,k it (by simp) o e,c,d⟩
 item:=by
  intro X hP hw hK hc i pins s σ H E I hf st hg;subst hP hw hK;obtain⟨kvs,hq,hx⟩:=hg;obtain⟨vs,rel,da,hl⟩:=J7 I.hok hq hd;obtain⟨⟨k,v⟩,hk⟩:∃p,kvs[i]?=some p:=⟨_,Xd hx⟩;obtain⟨u,hu,ru⟩:=ZpK rel hk;obtain⟨f0,f1,f2,f3,f4,f5⟩:=hf it (by simp)
  rw[<- hl]at st;refine wpAny_pyNext_dict_item st da hu λkey h' hkey st' sb=>?_;have I1:Inv X pins σ H {s with heap:=h'}:=I.turned (t':=s.toks) (λb o hb e=>(sb.2 b hb).trans e) f0 f1 f3 f4 f5;rw[hl]at st';obtain⟨o',e,c,d⟩:=id st';exact⟨key,rfl,Vd (s:={s with heap:=h'}) e c d (by decide) ⟨kV k,H,I1,Znm hkey,⟨rfl,λkvs' e'=>by rw[hq]at e';cases e';exact⟨k,v,hk,rfl⟩⟩,st',λb hb=>(hf b hb).1⟩⟩
 done:=by
  intro X hP hw hK hc i pins s σ H E I hf st hg;subst hP hw hK;obtain⟨kvs,hq,hx⟩:=hg;obtain⟨vs,rel,da,hl⟩:=J7 I.hok hq hd;obtain⟨f0,f1,f2,f3,f4,f5⟩:=hf it (by simp)
  rw[ZpJ rel]at hx;rw[<- hl]at st;exact wpAny_pyNext_dict_end (I.ok.hd hc) st da (DH.mpr hx) λh' eb=>⟨rfl,I.turned (t':=s.toks) (λb o hb e=>eb b o hb e) f0 f1 f3 f4 f5⟩
 self:=λ_ _ _ _ _ st h=>Z6K st h
theorem Zko{tg:Expr}{R:It->Hp->Prop}{E:X0->X1->Prop}{a:Addr}{kvs:List (Key×V)}(I:Inv X pins σ H s)(e:H a=some (.dK kvs))(q:∀o,(∀o' u',X.H₀ a≠some (.frz o' u'))->R (Itd a o) (upd H a (.frz o (.dK kvs)))):
  X3 (X6 X.prog X.w) X.A (pyIter (.ref a)) (PIE X pins σ tg R) E s:=by
 obtain⟨z,hm,vs,rel,o,es,ep,ho,r1,r2,r3⟩:=I.hok a _ e;have I1:=I.freeze e trivial ho;have nf:=I.nofrz e trivial;refine wpAny_pyIter_dict hm (⟨o,es,ho,r1,r2,r3⟩:s.heap.DictAt (Yw X.prog X.w) a vs ep) ?_;refine⟨s.heap.objs.size,[s.heap.objs.size],_,_,upd H a (.frz o (.dK kvs)),rfl,I1.kept (t':=s.toks) λb o e=>Xu _ e,ZhM a _ o es ep r2,?_,λb hb=>?_,q o nf⟩
 ·have hl:es.size=vs.length:=by rw[<- r3.2.1.length];simp
  rw[hl];exact⟨_,XS _ rfl,rfl,rfl⟩
 ·have e:b=s.heap.objs.size:=by simpa using hb
  subst e;exact I1.fpOk (Xi _) (I1.hok.fresh (Xi _))
end
section
variable{prog:Xk}{w:Xh}{A:Xt}{E:X0->X1->Prop}{s:X1}{a₀:Array Keyed}
end
section
variable{X:Cx}
end
structure Mrk (t t':Yq):Prop where
 led:t'.led=t.led
 plain:t.plain=false->t'.plain=false
theorem Mrk.refl(t:Yq):Mrk t t:=⟨rfl,id⟩
theorem Mrk.trans{a b c:Yq}(x:Mrk a b)(y:Mrk b c):Mrk a c:=⟨y.led.trans x.led,λh=>y.plain (x.plain h)⟩
theorem Mrk.standIn(t:Yq)(n:Nat):Mrk t (t.standIn n):=⟨rfl,λ_=>rfl⟩
theorem Mrk.orStandIn(t:Yq)(n:Nat):Mrk t (t.orStandIn n):=by
 unfold SetTable.orStandIn;split
 ·exact .refl t
 ·exact .standIn t n
theorem Mrk.lay(t:Yq)(es:Array (Int×X0))(k:Int)(x:X0):Mrk t (layNew t es k x).2.1:=by
 unfold layNew;split
 ·exact Mrk.trans (b:=(t.put _).1) ⟨rfl,id⟩ (.orStandIn _ _)
 ·exact .standIn t _
theorem Mrk.relaid{t t':Yq}{hs:Array Int}{n:Nat}{od:Array Nat}(h:t.relaid hs n=some (t',od)):Mrk t t':=by
 unfold SetTable.relaid SetTable.laid at h;cases hl:SetTable.layClean (SetTable.sizeAbove n - 1) hs with
 |none=>rw[hl]at h;simp at h
 |some ow=>
  rw[hl]at h;simp only[Option.bind_eq_bind,Option.bind_some,Option.pure_def,Cc,Prod.mk.injEq]at h;obtain⟨rfl,_⟩:=h;exact⟨rfl,id⟩
theorem Mrk.relay(t:Yq)(es:Array (Int×X0))(n:Nat):Mrk t (relayAll t es n).2.1:=by
 unfold relayAll;split
 ·rename_i hr
  dsimp only;split
  ·exact .relaid hr
  ·exact .standIn t _
 ·exact .standIn t _
def txt:X0->Str
 |.str x _=>x
 |_=>⟨#[]⟩
def met1(zs:List Str)(x:Str):List Str:=if x∈zs then zs else zs++[x]
def met(f:Nat->Str):Nat->List Str
 |0=>[]
 |i+1=>met1 (met f i) (f i)
theorem Zhc{zs:List Str}(h:zs.Nodup)(x:Str):(met1 zs x).Nodup:=by
 unfold met1;split
 ·exact h
 ·rename_i n
  rw[ZD];exact⟨h,by simp,λa ha b hb=>by rw[Ya]at hb;subst hb;exact λe=>n (e▸ha)⟩
theorem J8(f:Nat->Str):∀i,(met f i).Nodup
 |0=>.nil
 |i+1=>Zhc (J8 f i) _
theorem ZkF{zs:List Str}{x y:Str}:y∈met1 zs x↔y∈zs\/y=x:=by
 unfold met1;split
 ·rename_i h
  exact⟨.inl,λz=>z.elim id λe=>e▸h⟩
 ·simp
theorem J9{f:Nat->Str}{y:Str}:∀i,y∈met f i↔∃j,j<i/\f j=y
 |0=>by simp[met]
 |i+1=>by
  unfold met;rw[ZkF,J9 i];constructor
  ·rintro(⟨j,hj,e⟩|e)
   ·exact⟨j,by lia,e⟩
   ·exact⟨i,by lia,e.symm⟩
  ·rintro⟨j,hj,e⟩;by_cases z:j=i
   ·subst z;exact .inr e.symm
   ·exact .inl ⟨j,by lia,e⟩
theorem Ja(f:Nat->Str):∀i,(met f i).length≤i
 |0=>Xi _
 |i+1=>by
  have:=Ja f i;unfold met met1;split
  ·lia
  ·rw[Yz];simp;lia
section
variable{prog:Xk}{w:Xh}{A:Xt}{E:X0->X1->Prop}{s:X1}
def WSet(prog:Xk)(w:Xh)(o:Obj)(zs:List Str):Prop:=
 o.ExactSet/\∃es ep t,o.data=.set es ep t/\ElemsOf (strKind prog w) es.toList/\(es.toList.map λe=>txt e.2).Perm zs/\es.size<scanBound/\t.fits es.size=true
  /\t.led=(!w.params.followText "set-order")/\(zs≠ []->t.plain=false)
theorem WSet.fresh:WSet prog w {cls:=.type "set",dict:=none,data:=.set #[] 0 (.fresh 0 0 (!w.params.followText "set-order"))} []:=
 ⟨⟨rfl,rfl,rfl⟩,#[],0,_,rfl,λe he=>by simp at he,by simp,by decide,by rfl,rfl,λh=>absurd rfl h⟩
theorem isT{k:Str}{v:X0}:(strKind prog w).is k v=true↔∃t,v=.str k t:=by
 constructor
 ·exact λh=>Value.isStrOf_shape h
 ·rintro⟨t,rfl⟩;exact strKind_is prog w k t
theorem WSet.mem{es:Array (Int×X0)}{zs:List Str}(he:ElemsOf (strKind prog w) es.toList)(hp:(es.toList.map λe=>txt e.2).Perm zs)(k:Str):
  k∈zs↔∃e∈es.toList,(strKind prog w).is k e.2=true:=by
 rw[<- hp.mem_iff,XY];constructor
 ·rintro⟨e,hm,q⟩;refine⟨e,hm,isT.mpr ?_⟩;obtain⟨⟨k',hk,_⟩,_⟩:=he e hm;obtain⟨t,ht⟩:=isT.mp hk;rw[ht]at q ⊢;exact⟨t,by rw[<- q];rfl⟩
 ·rintro⟨e,hm,q⟩;obtain⟨t,ht⟩:=isT.mp q;exact⟨e,hm,by rw[ht];rfl⟩
theorem Jb{h:Heap}{a:Addr}{o:Obj}{es:Array (Int×X0)}{ep:Nat}{t:Yq}(ho:h.get? a=some o)(hd:o.data=.set es ep t)(es':Array (Int×X0))(t':Yq):
  (h.update a (Obj.putSet es' t')).get? a=some {o with data:=.set es' (ep+1) t'}:=by
 have z:=V2 (Obj.putSet es' t') ho (by rw[putSet_of es' t' hd];rfl)
 rwa [putSet_of es' t' hd]at z
theorem Jc{g:Bool->Sem Unit}(hg:∀(b:Bool) (s₁:X1) (Q':Unit->X1->Prop),Q' () s₁->X3 (X6 prog w) A (g b) Q' E s₁)
  {a:Addr} {o:Obj} {es:Array (Int×X0)} {ep:Nat} {t:Yq} (ho:s.heap.get? a=some o) (hex:o.ExactSet) (hd:o.data=.set es ep t)
  {es1:Array (Int×X0)} {t2:Yq} {zs:List Str} (hel:ElemsOf (strKind prog w) es1.toList) (hp:(es1.toList.map λe=>txt e.2).Perm zs) (hb:es1.size<scanBound)
  (hf:t2.fits es1.size=true) (hled:t2.led=(!w.params.followText "set-order")) (hpl:t2.plain=false) {was:Bool} {R:Option Bool->X1->Prop}
  (h:∀h' o',Ul a s.heap h'->h'.get? a=some o'->WSet prog w o' zs->R (some true) {s with heap:=h'}):
  X3 (X6 prog w) A (do
    storeSet a es1 t2
    if(!was&&t2.tooFull)=true then do
      g (relayAll t2 es1 (Vb es1.size)).2.2
      storeSet a (relayAll t2 es1 (Vb es1.size)).1 (relayAll t2 es1 (Vb es1.size)).2.1
      pure (some true)
     else pure (some true)) R E s:=by
 refine X2 (wpAny_storeSet_of ho hd ?_ (fits_of_scanBound hb));have ho1:=Jb ho hd es1 t2;split
 ·have hp2:=relayAll_perm t2 es1 (Vb es1.size);have hf2:=relayAll_fits t2 es1 (Vb es1.size);have hm:=Mrk.relay t2 es1 (Vb es1.size);generalize relayAll t2 es1 (Vb es1.size)=Rl at hp2 hf2 hm ⊢;obtain⟨es2,t3,gv⟩:=Rl;dsimp only at hp2 hf2 hm ⊢;have hz:es2.size=es1.size:=by rw[<- Y3,hp2.length_eq,Y3]
  refine X2 (hg _ _ _ ?_);refine X2 (wpAny_storeSet_of ho1 rfl ?_ (fits_of_scanBound (by lia)))
  exact X8 (h _ _ ((Up _ a _).trans (Up _ a _)) (Jb ho1 rfl es2 t3)
   ⟨hex,es2,_,t3,rfl,hel.perm hp2,(hp2.map _).trans hp,by lia,hf2,hm.led.trans hled,λ_=>hm.plain hpl⟩)
 ·exact X8 (h _ _ (Up _ a _) ho1 ⟨hex,es1,_,t2,rfl,hel,hp,hb,hf,hled,λ_=>hpl⟩)
theorem Zk1{a:Addr}{o:Obj}{zs:List Str}{x:Str}{tk:Tok}{Q:Bool->X1->Prop}(ho:s.heap.get? a=some o)(hS:WSet prog w o zs)(hroom:zs.length+1<scanBound)
  (h:∀b h' o',Ul a s.heap h'->h'.get? a=some o'->WSet prog w o' (met1 zs x)->Q b {s with heap:=h'}):
  X3 (X6 prog w) A (setAddHashed a (.str x tk) ((strKind prog w).hash x)) Q E s:=by
 obtain⟨hex,es,ep,t,hd,hel,hp,hb,hf,hled,hpl⟩:=id hS;have hkey:(strKind prog w).is x (.str x tk)=true:=strKind_is prog w x tk;have hlen:es.size=zs.length:=by rw[<- hp.length_eq,Xa,Y3]
 unfold setAddHashed setAddHashedIn;refine YL (X2 (Ww ho hd hf ?_));dsimp only;rw[byScan_of (x:=.str x tk) rfl hb hel];simp only[↓reduceIte];unfold setAddByScan;refine X2 (X2 (UA (X2 (wpAny_setScan_of hkey ho hd hf hel ?_))));have hmem:=WSet.mem hel hp x;cases hr:List.findIdx? (λe=>(strKind prog w).is x e.2) es.toList with
 |some j=>
  dsimp only;obtain⟨hj,hpj,_⟩:=List.findIdx?_eq_some_iff_getElem.mp hr;have hx:x∈zs:=hmem.mpr ⟨_,Y1 hj,hpj⟩;refine X8 (X8 ?_);have:=h false s.heap o (Heap.SameBut.refl a s.heap) ho (by unfold met1;rw[if_pos hx];exact hS)
  cases s;exact this
 |none=>
  dsimp only;have hx:x∉zs:=λz=>by
   obtain⟨e,he,q⟩:=hmem.mp z;have:=List.findIdx?_eq_none_iff.mp hr e he;rw[q]at this;exact Bool.noConfusion this
  have hz:met1 zs x=zs++[x]:=by unfold met1;rw[if_neg hx]
  have hl:=layNew_perm t es ((strKind prog w).hash x) (.str x tk);have hlf:=layNew_fits t es ((strKind prog w).hash x) (.str x tk);have hm:=Mrk.lay t es ((strKind prog w).hash x) (.str x tk);generalize layNew t es ((strKind prog w).hash x) (.str x tk)=L at hl hlf hm ⊢;obtain⟨es1,t1,was,gave⟩:=L;dsimp only at hl hlf hm ⊢;rw[Array.toList_push]at hl;have hel1:ElemsOf (strKind prog w) es1.toList:=(hel.push hkey rfl).perm hl;have hp1:(es1.toList.map λe=>txt e.2).Perm (met1 zs x):=by
   rw[hz];refine(hl.map _).trans ?_;rw[Y7];exact hp.append (.refl _)
  have hb1:es1.size<scanBound:=by rw[<- Y3,hl.length_eq,Yz,Y3];simp;lia
  have gw:∀(b:Bool) (s₁:X1) (Q':Unit->X1->Prop),Q' () s₁->X3 (X6 prog w) A (match b with|true=>rule "set.scan.the-table-gave-way"|false=>pure ()) Q' E s₁:=
   λb s₁ Q' hq=>by cases b<;>first|exact X8 hq|exact UA hq
  refine X2 (gw _ _ _ ?_);have fin:∀h' o',Ul a s.heap h'->h'.get? a=some o'->WSet prog w o' (met1 zs x)->Q true {s with heap:=h'}:=λh' o' a1 a2 a3=>h true h' o' a1 a2 a3;split
  ·rw[hashByValue_scannable 8 (x:=.str x tk) rfl];refine X2 (X8 ?_);refine Jc gw ho hex hd hel1 hp1 hb1 (t2:={t1 with plain:=false}) (SetTable.fits_plain_off hlf) (hm.led.trans hled) rfl ?_;intro h' o' a1 a2 a3;exact X8 (fin h' o' a1 a2 a3)
  ·rename_i np
   refine X2 (X8 ?_);simp only[↓reduceIte];refine Jc gw ho hex hd hel1 hp1 hb1 hlf (hm.led.trans hled) (by simpa using np) ?_
   intro h' o' a1 a2 a3;exact X8 (fin h' o' a1 a2 a3)
theorem ZhO{R:Result->X1->Prop}{I:Addr}{fp wr:List Addr}{G:Array Uc->Array Uc->Prop}{n:Nat}{P:Nat->X0->Prop}{St:Nat->X1->Prop}
  (W:WalksS prog w A.in1 I fp wr G n P St) (S:Addr) (hSf:S∉fp) (f:Nat->Str) (hval:∀i v,P i v->∃t,v=.str (f i) t) (hb:n+1<scanBound):
  ∀(k i:Nat) (s:X1) (o:Obj),n - i=k->i≤n->St i s->s.heap.get? S=some o->WSet prog w o (met f i)->
   (∀s' o',Moved (S::wr) G s s'->s'.heap.get? S=some o'->WSet prog w o' (met f n)->R (.ok (.ret .none)) s')->
   YY (X6 prog w) A (.builtin "set.update.loop" ⟨[.ref S,.ref I],[]⟩) R s:=by
 have hSw:S∉wr:=λh=>hSf (W.sub _ h);have hsub:∀b∈wr,b∈S::wr:=λb hb=>XX _ hb;intro k
 induction k with
 |zero=>
  intro i s o hk hi hst ho hS hR;have hin:i=n:=by lia
  subst hin;refine Zd F.entry_set_update_loop ?_;rw[ZJ F.plain_set_update_loop _];show X3 _ A.in1 (pyNext (.ref I)>>= _) _ _ s;refine X2 (W.done s _ _ hst λs' hm=>?_);exact X8 (hR s' o (hm.mono hsub) (hm.heap S _ hSw ho) hS)
 |succ k ih=>
  intro i s o hk hi hst ho hS hR;have hlt:i<n:=by lia
  refine Zd F.entry_set_update_loop ?_;rw[ZJ F.plain_set_update_loop _];show X3 _ A.in1 (pyNext (.ref I)>>= _) _ _ s;refine X2 (W.item i s _ _ hlt hst λv s' hP hst' hm=>?_);obtain⟨t,rfl⟩:=hval i v hP;have ho':=hm.heap S _ hSw ho;show X3 _ A.in1 (Z9 [XJ (f i) t] (setAdd S (.str (f i) t))>>= _) _ _ s';refine X2 (YL ?_);unfold setAdd;refine YL (X2 ((strKind prog w).pyHash (k:=f i) (strKind_is prog w _ _) ?_));refine Zk1 (s:={s' with toks:=s'.toks+1}) ho' hS (by have:=Ja f i;lia) λb h' o' hsb ho2 hS2=>?_
  refine X8 ⟨ZC F.plain_set_update_loop _,ih (i+1) _ o' (by lia) hlt (W.frame _ s' _ _ hst' (UF _) λb hb o e=>?_) ho2 hS2 λs'' o'' hm'' ho'' hS''=>?_⟩
  ·rw[hsb.2 b (λz:b=S=>hSf (by rw[<- z];exact hb))];exact e
  ·refine hR s'' o'' (Moved.trans W.gtrans ((hm.mono hsub).then_heap (UF _) λb o hb e=>?_) hm'') ho'' hS'';rw[hsb.2 b (λz:b=S=>hb (by rw[z];exact Yi))];exact e
def U3(w:Xh):Obj:={cls:=.type "set",dict:=none,data:=.set #[] 0 (.fresh 0 0 (!w.params.followText "set-order"))}
theorem Zk0(a:X0){Q₁:X0->X1->Prop}(h:Q₁ (.ref s.heap.objs.size) {s with heap:=s.heap.push (U3 w)}):
  YY (X6 prog w) A (.call (.builtin "set.__new__") ⟨[.type "set",a],[]⟩) (wants Q₁ E) s:=by
 refine codeAny_of_tree ?_;show X3 _ A.in1 (do checkBuiltinCall "set.__new__" ⟨[.type "set",a],[]⟩;again (.builtin "set.__new__" ⟨[.type "set",a],[]⟩)) _ _ s
 refine X2 (wpAny_of_eq (F.newCall_set_1 a) (X8 ⟨ZC F.plain_set_new _,Zd F.entry_set_new ?_⟩));rw[ZJ F.plain_set_new _];unfold Builtin.«set.__new__» Builtin.Frozenset.newClass;have hsub:=sub_set_self;obtain⟨hp,g,d,tk,os⟩:=s;dsimp only
 wp_walk
 refine Wx (X8 ?_);dsimp only;simp only[newObj];refine X2 (wpAny_alloc (X8 ?_));exact X8 h
theorem Zju{l:Addr}{items:Array X0}{f:Nat->Str}{Q:X0->X1->Prop}
  (hh:A.handled=none) (hl:s.heap.IsList l items) (hi:∀(i:Nat) (v:X0),items[i]?=some v->∃t,v=XJ (f i) t) (hb:items.size+1<scanBound)
  (h:∀(h':Heap) (tk:Nat) (o:Obj),h'.get? s.heap.objs.size=some o->WSet prog w o (met f items.size)->
   (∀b o,b<s.heap.objs.size->s.heap.get? b=some o->h'.get? b=some o)->Q (.ref s.heap.objs.size) {s with heap:=h',toks:=tk}):
  X3 (X6 prog w) A (call (.type "set") [.ref l]) Q E s:=by
 obtain⟨c,tl,hmro⟩:=UI.mro;have hmade:=UI.made;have hsub:=UI.sub;refine wpAny_call (codeAny_of_tree ?_);show X3 _ _ (callAny (.type "set") _) _ _ _;refine X8 ⟨Code.quiet_builtin _ (by decide+kernel),Zd F.entry_type_call ?_⟩
 rw[Around.under_plain (weight_type_call_type "set" [.ref l] []) rfl];have h1:=UI.notType;have h2:=UI.canCreate;have hct:=F.typeCall_set_1 (.ref l)
 repeat (any_goals (first|assumption|wp_step))
 refine Vw (Zk0 (.ref l) (E:=E) (Q₁:=λobj s₁=>obj=.ref s.heap.objs.size/\s₁={s with heap:=s.heap.push (U3 w)}) ⟨rfl,rfl⟩) λr s₁ hr=>?_;cases r with
 |error e=>exact hr
 |ok fl=>
  cases fl with
  |ret obj=>
   obtain⟨rfl,rfl⟩:=hr;have hS:(s.heap.push (U3 w)).get? s.heap.objs.size=some (U3 w):=XS _ rfl;have hT:WO {s with heap:=s.heap.push (U3 w)} (.ref s.heap.objs.size) "set":=⟨_,hS,rfl⟩;have hli:=UI.init.lookup;have hbi:=UI.init.bind (.ref s.heap.objs.size)
   repeat (any_goals (first|assumption|wp_step))
   refine Vw (Wv (R:=wants (λr s₂=>r=.none/\∃h' tk o,s₂={s with heap:=h',toks:=tk}/\
     h'.get? s.heap.objs.size=some o/\WSet prog w o (met f items.size)/\
     (∀b o,b<s.heap.objs.size->s.heap.get? b=some o->h'.get? b=some o)) E) UI.init.plain F.entry_set_init (check_set_init_1 hT ?_)) λr₂ s₂ hr₂=>?_
   ·obtain⟨ol,hol,hcl,nl,hdl⟩:=hl;obtain⟨ocls,odict,odata,oslots⟩:=ol;simp only at hcl hdl;subst hcl;subst hdl;have hol':(s.heap.push (U3 w)).get? l=some {cls:=.type "list",dict:=odict,data:=.seq items nl,slots:=oslots}:=Xu _ hol;have hsls:=F.sub_list_set;have hslf:=F.sub_list_frozenset;have hne:(XH "list"==XH "dict")=false:=by decide
    have hl1:(s.heap.push (U3 w)).IsList l items:=⟨_,hol',rfl,nl,rfl⟩;unfold Builtin.«set.__init__» noKeywords Builtin.Frozenset.updateFrom;generalize hPI:pyIter=PI
    wp_walk
    subst hPI;refine BL hl1 ?_;refine X2 (wpAny_runValue ?_);have hlS:l<s.heap.objs.size:=XA hol;have hneI:l≠(s.heap.push (U3 w)).objs.size:=by
     rw[ZH];exact XG (V3 hlS)
    have hSf:s.heap.objs.size∉ [(s.heap.push (U3 w)).objs.size,l]:=by
     rw[ZH];simp only[Xr,XR,or_false,not_or];exact⟨XG (C8 _),V5 hlS⟩
    refine ZhO ((Walks.list (A:=A.in1.in1.in1) (by simp[hh]) _ l hneI items).toS) s.heap.objs.size
     hSf f hi hb (items.size - 0) 0 _ (U3 w) (by lia) (YO _)
     ⟨⟨_,XS _ rfl,rfl,rfl⟩,(hl1.push _)⟩ (Xu _ hS) WSet.fresh ?_
    intro s' o' hm ho' hS';obtain⟨h',g',d',tk',os'⟩:=s';have eg:g'=s.gens:=hm.gens;have ed:d'=s.drawn:=hm.drawn;have eo:os'=s.os:=hm.os;subst eg;subst ed;subst eo;refine X8 (X8 ⟨rfl,h',tk',o',rfl,ho',hS',λb o hb e=>?_⟩);refine hm.heap b o ?_ (Xu _ (Xu _ e));simp only[Xr,XR,or_false,not_or];exact⟨XG hb,by rw[ZH];exact XG (V3 hb)⟩
   ·cases r₂ with
    |error e=>exact hr₂
    |ok fl₂=>
     cases fl₂ with
     |ret r=>
      obtain⟨rfl,h',tk,o',rfl,ho',hS',hk'⟩:=hr₂
      repeat (any_goals (first|assumption|wp_step))
      exact h _ _ _ ho' hS' hk'
     |_=>exact hr₂.elim
  |_=>exact hr.elim
end
theorem slot_setiter_next:Slot "set_iterator" "__next__" "set_iterator.__next__":=
 .of (owner:="set_iterator") (n:="__next__") (by rw[Vz,VA];kernel_rfl) (by decide+kernel) (by decide+kernel) (by decide+kernel)
  (by first|exact .inl (by decide+kernel)|exact .inr (by decide+kernel)) (by rw[isSubtype_type];kernel_rfl)
theorem Jd:Slot "set_iterator" "__iter__" "set_iterator.__iter__":=
 .of (owner:="set_iterator") (n:="__iter__") (by rw[Vz,VA];kernel_rfl) (by decide+kernel) (by decide+kernel) (by decide+kernel)
  (by first|exact .inl (by decide+kernel)|exact .inr (by decide+kernel)) (by rw[isSubtype_type];kernel_rfl)
theorem Je:entryFor table "set_iterator.__next__"=some Builtin.«set_iterator.__next__»:=entryFor_of_fast (by kernel_rfl)
theorem Z8J:entryFor table "set_iterator.__iter__"=some Builtin.«dict_keyiterator.__iter__»:=
 entryFor_alias (id':="dict_keyiterator.__iter__") (by kernel_rfl) rfl (by decide+kernel) (by kernel_rfl)
theorem Zcg:entryFor table "set.__iter__"=some Builtin.«frozenset.__iter__»:=
 entryFor_alias (id':="frozenset.__iter__") (by kernel_rfl) rfl (by decide+kernel) (by kernel_rfl)
theorem Jf(a:X0):argsOk "set_iterator.__next__" ⟨[a],[]⟩:=by unfold argsOk;kernel_rfl
theorem Z9i(a:X0):argsOk "set_iterator.__iter__" ⟨[a],[]⟩:=by unfold argsOk;kernel_rfl
theorem ers{α:Type}:∀(l:List α) (i:Nat) (h:i<l.length),(l[i]::l.eraseIdx i).Perm l
 |[],_,h=>absurd h (by simp)
 |x::xs,0,_=>.refl _
 |x::xs,i+1,h=>(List.Perm.swap x _ _).trans ((ers xs i (by simpa using h)).cons x)
section
variable{prog:Xk}{w:Xh}{A:Xt}{E:X0->X1->Prop}{s:X1}
theorem Zok{M:Model}{src:Source}{n:Nat}{Q:Nat->X1->Prop}(hn:n≠0)(h:∀i d,i<n->Q i {s with drawn:=d}):X3 M A (choose src n) Q E s:=λΓ p hΓ=>by
 unfold choose;rw[Sem.wp_choose];exact⟨hn,by rw[Sem.wp_pure];exact h _ _ (VR _ (Nat.pos_of_ne_zero hn))⟩
theorem Zmf{M:Model}{α:Type}:∀(n:Nat) (xs:List α) (s:X1) (Q:List α->X1->Prop),xs.length=n->(∀ys d,ys.Perm xs->Q ys {s with drawn:=d})->X3 M A (drawOrder n xs) Q E s:=by
 intro n
 induction n with
 |zero=>
  intro xs s Q hl h;unfold drawOrder;have:xs=[]:=BO.mp hl;subst this;exact X8 (h [] s.drawn (.refl _))
 |succ n ih=>
  intro xs s Q hl h;cases xs with
  |nil=>simp at hl
  |cons x xs=>
   unfold drawOrder;refine X2 (Zok (by simp) λi d hi=>?_)
   rw[Xd hi];dsimp only;refine X2 (ih _ _ _ (by rw[Ha hi];lia) λys d' hp=>X8 ?_)
   have:(((x::xs)[i])::ys).Perm (x::xs):=((List.Perm.cons _ hp).trans (ers _ _ hi));exact h _ d' this
theorem ZmL{α:Type}(next:Nat->Nat):∀(n k:Nat) (left:List α) (out:Array α),left.length=n->(pickOrder.go next n k left out).toList.Perm (out.toList++left):=by
 intro n
 induction n with
 |zero=>
  intro k left out hl;have:left=[]:=BO.mp hl;subst this;unfold pickOrder.go;simp
 |succ n ih=>
  intro k left out hl;unfold pickOrder.go;have hi:next k%left.length<left.length:=VR _ (by lia)
  rw[Xd hi];dsimp only;refine(ih _ _ _ (by rw[Ha hi];lia)).trans ?_
  rw[Array.toList_push,VE];exact(List.Perm.refl _).append (by simpa using ers _ _ hi)
theorem Zim{α:Type}(next:Nat->Nat)(xs:Array α):(pickOrder next xs).toList.Perm xs.toList:=by
 unfold pickOrder
 simpa using ZmL next xs.size 0 xs.toList #[] (by simp)
end
section
variable{prog:Xk}{w:Xh}{A:Xt}{E:X0->X1->Prop}{s:X1}
def SIt(h:Heap)(it S:Addr)(first:X0)(i n ep:Nat):Prop:=
 ∃o,h.get? it=some o/\o.cls=.type "set_iterator"/\o.data=.fields #[first,.int i 0,.ref S,.int n 0,.int ep 0]
theorem SIt.typeIs{it S:Addr}{first:X0}{i n ep:Nat}(x:SIt s.heap it S first i n ep):s.TypeIs (.ref it) "set_iterator":=let⟨o,ho,hc,_⟩:=x;⟨o,ho,hc⟩
theorem CH{h:Heap}{it:Addr}{o:Obj}{vs:Array X0}(ho:h.get? it=some o)(hd:o.data=.fields vs)(j:Nat)(v:X0):
  ∃o',(h.update it (Eb (·.setIfInBounds j v))).get? it=some o'/\o'.cls=o.cls/\o'.data=.fields (vs.setIfInBounds j v):=
 ⟨_,V2 _ ho (E9 (Cq hd _)),Ea ..,Cq hd _⟩
def Nx(w:Xh)(S:Addr)(es:Array (Int×X0))(ep:Nat)(t:Yq)(slot i:Nat):Option (X0×Nat):=
 if w.params.followText "set-order"=true then(pickOrder (w.params.setOrder S ep) es)[i]?.map fun e=>(e.2,slot)
 else match es[Cp t.place slot]?,t.place[Cp t.place slot]? with
  |some (_,x),some j=>some (x,j+1)
  |_,_=>none
theorem Zk8{S:Addr}{i ep slot:Nat}{o:Obj}{es:Array (Int×X0)}{t:Yq}{Q:Option (X0×Nat)->X1->Prop}
  (hoS:s.heap.get? S=some o) (hdS:o.data=.set es ep t) (hf:t.fits es.size=true) (hw:w.params.followText "set-order"=true\/(es.size≤1/\t.led=true))
  (h:Q (Nx w S es ep t slot i) s):X3 (X6 prog w) A (setNext S slot i ep) Q E s:=by
 unfold setNext;refine X2 (Ww hoS hdS hf ?_);refine X2 (m:=setsByText) (X2 (Wx (X8 ?_)));show X3 _ _ (if w.params.followText "set-order"=true then _ else _) _ _ _;unfold Nx at h;by_cases hb:w.params.followText "set-order"=true
 ·rw[if_pos hb];rw[if_pos hb]at h;simp only[bne_self_eq_false,Yl,if_false];refine X2 ?_;unfold setWalk;refine X2 (Ww hoS hdS hf ?_);refine X2 (m:=setsByText) (X2 (Wx (X8 ?_)));show X3 _ _ (if w.params.followText "set-order"=true then _ else _) _ _ _;rw[if_pos hb];refine X2 (Wx (X8 (X8 ?_)));exact h
 ·rw[if_neg hb];rw[if_neg hb]at h;obtain⟨h1,h2⟩:=hw.resolve_left hb;have hdr:(!t.plain&&decide (es.size>1))=false:=by
   rw[decide_eq_false (by lia),C2]
  show X3 _ _ (if(!t.plain&&decide (es.size>1))=true then _ else _) _ _ _;rw[hdr,if_neg XC];refine X2 ?_;show X3 _ _ (if(!t.led&& !es.isEmpty)=true then _ else _) _ _ _;rw[h2];simp only[VO,WJ,Yl,if_false];exact X8 (X8 h)
theorem Jg{it:Addr}{Q:Option X0->X1->Prop}{h₁:Heap}(hh:A.handled=none)(hk:BZ it s.heap h₁)
  (hQ:∀h',BZ it s.heap h'->Q none {s with heap:=h'}):
  X3 (X6 prog w) A.in1 (do let x<- newExc (.type "StopIteration") [];(raiseNew x:Sem Fin)) (fun fin s'=>∃v,fin=Fin.done (Flow.ret v)/\X3 (X6 prog w) A (pure (some v)) Q E s')
   (fun e s'=>X3 (X6 prog w) A (do let b<- isInstance e (.type "StopIteration");if b=true then pure none else throw e) Q E s') {s with heap:=h₁}:=by
 refine X2 ?_;simp only[newExc,newTuple];refine X2 (Ug ?_ (by size_fits))
 refine X2 (m:=firstArgMember _ _) (wpAny_of_eq (a:=Xz) (by first|rfl|(simp only[firstArgMember];rfl)) ?_)
 refine Ug ?_ (by size_fits)
 simp only[raiseNew];refine X2 (wpAny_handled ?_);rw[show A.in1.handled=none from hh];refine X2 (X8 (wpAny_throw ?_));refine X2 (Uz (T:="StopIteration") (b:=true) ⟨_,XS _ rfl,rfl⟩ isSubtype_stop ?_);exact X8 (hQ _ ((hk.push _).push _))
theorem Jh{it S:Addr}{i n ep slot:Nat}{o:Obj}{es:Array (Int×X0)}{t:Yq}{Q:Option X0->X1->Prop}(hh:A.handled=none)
  (hit:SIt s.heap it S (.int slot 0) i n ep) (hoS:s.heap.get? S=some o) (hdS:o.data=.set es ep t) (hf:t.fits es.size=true) (hn:es.size=n)
  (hw:w.params.followText "set-order"=true\/(es.size≤1/\t.led=true))
  (h1:∀x nx,Nx w S es ep t slot i=some (x,nx)->∀h',SIt h' it S (.int nx 0) (i+1) n ep->Ul it s.heap h'->Q (some x) {s with heap:=h'})
  (h2:Nx w S es ep t slot i=none->∀h',BZ it s.heap h'->Q none {s with heap:=h'}):
  X3 (X6 prog w) A (pyNext (.ref it)) Q E s:=by
 obtain⟨oi,hoi,hci,hdi⟩:=id hit;unfold pyNext;refine X2 (wpAny_attempt (BG (name:=Yj "__next__") hit.typeIs slot_setiter_next
  (Zc slot_setiter_next hit.typeIs Je ?_ (Jf _))))
 show X3 _ _ (fieldsOf (.ref it)>>= _) _ _ s;refine X2 (wpAny_fieldsOf hoi hdi ?_);show X3 _ _ (setEntries S >>= _) _ _ s;refine X2 (wpAny_setEntries_of hoS hdS hf ?_);simp only[hn,bne_self_eq_false,Yl,if_false];refine X2 (m:=setNext _ _ _ _) ?_;simp only[YQ];refine Zk8 hoS hdS hf hw ?_;cases hx:Nx w S es ep t slot i with
 |none=>
  dsimp only;refine X2 (VB hoi hdi (by simp) ?_)
  exact Jg hh (Up ..).extBut (h2 hx)
 |some p=>
  obtain⟨x,nx⟩:=p;dsimp only;obtain⟨o1,ho1,hc1,hd1⟩:=CH hoi hdi 0 (Y9 nx);refine X2 (VB hoi hdi (by simp) ?_)
  refine X2 (VB ho1 hd1 (by simp) ?_)
  obtain⟨o2,ho2,hc2,hd2⟩:=CH ho1 hd1 1 (Y9 ((i:Int)+1));refine X8 ⟨x,rfl,X8 (h1 x nx hx _ ⟨o2,ho2,hc2.trans (hc1.trans hci),?_⟩ ((Up ..).trans (Up ..)))⟩;rw[hd2];simp[Y9]
theorem Ji{it S P:Addr}{i n ep:Nat}{o op:Obj}{es:Array (Int×X0)}{t:Yq}{ps:Array X0}{np:Nat}{Q:Option X0->X1->Prop}(hh:A.handled=none)
  (hit:SIt s.heap it S (.ref P) i n ep) (hoS:s.heap.get? S=some o) (hdS:o.data=.set es ep t) (hf:t.fits es.size=true) (hn:es.size=n)
  (hoP:s.heap.get? P=some op) (hdP:op.data=.seq ps np)
  (h1:∀v,ps[i]?=some v->∃(p:Nat) (e:Int×X0),v=.int p 0/\es[p]?=some e/\∀h',SIt h' it S (.ref P) (i+1) n ep->Ul it s.heap h'->Q (some e.2) {s with heap:=h'})
  (h2:ps[i]?=none->∀h',BZ it s.heap h'->Q none {s with heap:=h'}):
  X3 (X6 prog w) A (pyNext (.ref it)) Q E s:=by
 obtain⟨oi,hoi,hci,hdi⟩:=id hit;unfold pyNext;refine X2 (wpAny_attempt (BG (name:=Yj "__next__") hit.typeIs slot_setiter_next
  (Zc slot_setiter_next hit.typeIs Je ?_ (Jf _))))
 show X3 _ _ (fieldsOf (.ref it)>>= _) _ _ s;refine X2 (wpAny_fieldsOf hoi hdi ?_);show X3 _ _ (setEntries S >>= _) _ _ s;refine X2 (wpAny_setEntries_of hoS hdS hf ?_);simp only[hn,bne_self_eq_false,Yl,if_false];refine X2 (m:=seqItems? _) (wpAny_seqItems hoP hdP ?_);simp only[YQ];cases hx:ps[i]? with
 |none=>
  dsimp only;obtain⟨o1,ho1,hc1,hd1⟩:=CH hoi hdi 0 (Y9 0);refine X2 (VB hoi hdi (by simp) ?_)
  refine X2 (VB ho1 hd1 (by simp) ?_)
  refine Jg (s:=s) (it:=it) hh ?_ (h2 hx);exact Heap.SameBut.extBut (Heap.SameBut.trans (Up _ _ _) (Up _ _ _))
 |some v=>
  obtain⟨p,e,rfl,he,hq⟩:=h1 v hx;dsimp only;refine X2 ?_;unfold setNextDrawn;refine X2 (Ww hoS hdS hf ?_);simp only[YQ,bne_self_eq_false,Yl,if_false,he];obtain⟨k,x⟩:=e;refine X8 ?_;obtain⟨o1,ho1,hc1,hd1⟩:=CH hoi hdi 1 (Y9 ((i:Int)+1));refine X2 (VB hoi hdi (by simp) ?_)
  refine X8 ⟨x,rfl,X8 (hq _ ⟨o1,ho1,hc1.trans hci,?_⟩ (Up ..))⟩;rw[hd1];simp[Y9]
end
section
variable{prog:Xk}{w:Xh}{A:Xt}{E:X0->X1->Prop}{s:X1}
theorem Jj{it S:Addr}{first:X0}{i n ep:Nat}{Q:X0->X1->Prop}(hit:SIt s.heap it S first i n ep)(h:Q (.ref it) s):
  X3 (X6 prog w) A (pyIter (.ref it)) Q E s:=by
 refine wpAny_pyIter_slot hit.typeIs Jd (Zc Jd hit.typeIs Z8J ?_ (Z9i _));show X3 _ _ (ret (.ref it)) _ _ s;exact X8 ⟨_,rfl,"set_iterator",_,hit.typeIs,slot_setiter_next.lookup,h⟩
theorem SIt.at{h h':Heap}{it S:Addr}{first:X0}{i n ep:Nat}(x:SIt h it S first i n ep)(e:∀o,h.get? it=some o->h'.get? it=some o):SIt h' it S first i n ep:=
 let⟨o,ho,r⟩:=x;⟨o,e _ ho,r⟩
theorem Zom(hh:A.handled=none){I S:Addr}{n ep:Nat}{o:Obj}{es:Array (Int×X0)}{t:Yq}{vs:List X0}{Good:Nat->Nat->Prop}(hne:S≠I)
  (hdS:o.data=.set es ep t) (hf:t.fits es.size=true) (hn:es.size=n) (hw:w.params.followText "set-order"=true\/(es.size≤1/\t.led=true))
  (hg:∀i sl,Good i sl->(i<n->∃x nx,Nx w S es ep t sl i=some (x,nx)/\vs[i]?=some x/\Good (i+1) nx)/\(i=n->Nx w S es ep t sl i=none)):
  Walks prog w A I [I,S] [I] n (λi v=>vs[i]?=some v) (λi h=>∃sl,Good i sl/\SIt h I S (.int (sl:Nat) 0) i n ep/\h.get? S=some o)where
 sub:=λb hb=>by simp at hb;simp[hb]
 frame:=λ_ _ _ st hk=>let⟨sl,g,st1,st2⟩:=st;⟨sl,g,st1.at λo e=>hk I (by simp) o e,hk S (by simp) _ st2⟩
 item:=λi s Q E hi st hQ=>by
  obtain⟨sl,g,st1,st2⟩:=st;obtain⟨x,nx,e1,e2,g2⟩:=(hg i sl g).1 hi;refine Jh hh st1 st2 hdS hf hn hw (λx' nx' q h' a1 a2=>?_) (λq=>by rw[e1]at q;simp at q)
  rw[e1]at q;simp only[Cc,Prod.mk.injEq]at q;obtain⟨rfl,rfl⟩:=q;exact hQ _ h' s.toks e2 ⟨_,g2,a1,(a2.2 S hne).trans st2⟩ λb o hb e=>(a2.2 b (λz=>hb (by simp[z]))).trans e
 done:=λs Q E st hQ=>by
  obtain⟨sl,g,st1,st2⟩:=st;have e1:=(hg n sl g).2 rfl;refine Jh hh st1 st2 hdS hf hn hw (λx' nx' q h' a1 a2=>by rw[e1]at q;simp at q) (λ_ h' a=>hQ h' s.toks λb o hb e=>a b o (λz=>hb (by simp[z])) e)
 self:=λ_ _ _ _ st hQ=>let⟨_,_,st1,_⟩:=st;Jj st1 hQ
theorem Zol(hh:A.handled=none){I S P:Addr}{n ep np:Nat}{o op:Obj}{es:Array (Int×X0)}{t:Yq}{js:List Nat}{vs:List X0}(hne:S≠I)(hnp:P≠I)
  (hdS:o.data=.set es ep t) (hf:t.fits es.size=true) (hn:es.size=n) (hdP:op.data=.seq (js.map λi:Nat=>Y9 i).toArray np)
  (hl:js.length=n) (hj:∀(i:Nat) (j:Nat),js[i]?=some j->∃e,es[j]?=some e/\vs[i]?=some e.2):
  Walks prog w A I [I,S,P] [I] n (λi v=>vs[i]?=some v) (λi h=>SIt h I S (.ref P) i n ep/\h.get? S=some o/\h.get? P=some op)where
 sub:=λb hb=>by simp at hb;simp[hb]
 frame:=λ_ _ _ st hk=>⟨st.1.at λo e=>hk I (by simp) o e,hk S (by simp) _ st.2.1,hk P (by simp) _ st.2.2⟩
 item:=λi s Q E hi st hQ=>by
  refine Ji hh st.1 st.2.1 hdS hf hn st.2.2 hdP (λv hv=>?_) (λq=>?_)
  ·simp only[List.getElem?_toArray,Xw,Ec]at hv;obtain⟨j,hj1,rfl⟩:=hv;obtain⟨e,he,hv⟩:=hj i j hj1;exact⟨j,e,rfl,he,λh' a1 a2=>hQ _ h' s.toks hv ⟨a1,(a2.2 S hne).trans st.2.1,(a2.2 P hnp).trans st.2.2⟩ λb o hb e=>(a2.2 b (λz=>hb (by simp[z]))).trans e⟩
  ·simp at q;lia
 done:=λs Q E st hQ=>by
  refine Ji hh st.1 st.2.1 hdS hf hn st.2.2 hdP (λv hv=>?_) (λ_ h' a=>hQ h' s.toks λb o hb e=>a b o (λz=>hb (by simp[z])) e)
  simp only[List.getElem?_toArray,Xw,Ec]at hv;obtain⟨j,hj1,rfl⟩:=hv;rw[UB (by lia)]at hj1
  simp at hj1
 self:=λ_ _ _ _ st hQ=>Jj st.1 hQ
theorem ZjC{α:Type}(es:Array α){js:List Nat}(hp:js.Perm (Xx es.size)):
  ∃ys:List α,ys.Perm es.toList/\ys.length=js.length/\∀(i:Nat) (j:Nat),js[i]?=some j->∃e,es[j]?=some e/\ys[i]?=some e:=by
 have hin:∀j∈js,j<es.size:=λj hj=>Zg.mp (hp.mem_iff.mp hj);refine⟨js.filterMap λj=>es[j]?,(hp.filterMap _).trans (by rw[filterMap_getElem?_range]),?_⟩
 clear hp
 induction js with
 |nil=>exact⟨rfl,λi j h=>by simp at h⟩
 |cons j js ih=>
  have hj:=hin j Yi;obtain⟨h1,h2⟩:=ih λk hk=>hin k (XX _ hk);rw[List.filterMap_cons_some (b:=es[j]) (by simp[hj])]
  refine⟨by simp[h1],λi k h=>?_⟩
  cases i with
  |zero=>
   simp at h;subst h;exact⟨es[j],by simp[hj],rfl⟩
  |succ i=>
   simp at h;obtain⟨e,he,hy⟩:=h2 i k h;exact⟨e,he,by simpa using hy⟩
def ZrX(prog:Xk)(w:Xh)(zs:List Str)(s₀:Heap)(S I:Addr)(h':Heap):Prop:=
 ∃(fp:List Addr) (n:Nat) (vs:List X0) (St:Nat->Heap->Prop),
  (∀A':Xt,A'.handled=none->Walks prog w A' I fp [I] n (λi v=>vs[i]?=some v) St)/\St 0 h'/\vs.length=n/\(vs.map txt).Perm zs/\(∀v∈vs,∃t,v=XJ (txt v) t)/\
  (∀b∈fp,b=S\/s₀.objs.size≤b)/\s₀.objs.size≤I
theorem Jk{p:Array Nat}(h:p.size=1)(j:Nat):Cp p j=if p[0]'(by lia)<j then 1 else 0:=by
 obtain⟨l⟩:=p
 match l,h with
 |[a],_=>
  show(if 0<1 then(if(#[a]:Array Nat).getD ((0+1)/2) j<j then HV #[a] j 0 ((0+1)/2+1) 1 else HV #[a] j 0 0 ((0+1)/2))else 0)=if a<j then 1 else 0;rw[if_pos (by lia)]
  rfl
theorem ZhP{S:Addr}{o:Obj}{zs:List Str}{Q:X0->X1->Prop}(ho:s.heap.get? S=some o)(hS:WSet prog w o zs)
  (hQ:∀(I:Addr) (h':Heap) d,ZrX prog w zs s.heap S I h'->(∀b o,s.heap.get? b=some o->h'.get? b=some o)->Q (.ref I) {s with heap:=h',drawn:=d}):
  X3 (X6 prog w) A (pyIter (.ref S)) Q E s:=by
 obtain⟨hex,es,ep,t,hd,hel,hp,hb,hf,hled,hpl⟩:=id hS;have hT:s.TypeIs (.ref S) "set":=⟨o,ho,hex.1⟩;have hSl:S<s.heap.objs.size:=XA ho;have hsz:es.size=zs.length:=by rw[<- hp.length_eq,Xa,Y3]
 have hst:∀e∈es.toList,∃t,e.2=XJ (txt e.2) t:=λe he=>by
  obtain⟨⟨k,hk,_⟩,_⟩:=hel e he;obtain⟨t,ht⟩:=isT.mp hk;exact⟨t,by rw[ht];rfl⟩
 have hsl:sizeLine=16777216:=by decide
 have hsb:scanBound=4096:=rfl;refine wpAny_pyIter_slot hT F.slot_set_iter (Zc F.slot_set_iter hT Zcg ?_ (F.args_set_iter_1 _));show X3 _ _ (HP S >>= _) _ _ s;refine X2 (m:=HP S) (X2 (wpAny_setEntries_of ho hd hf (X8 ?_)));refine X2 (m:=setDrawn S) ?_;unfold setDrawn;refine X2 (Ww ho hd hf ?_);refine X2 (m:=setsByText) (X2 (Wx (X8 (X8 ?_))));show X3 _ _ (if(!w.params.followText "set-order"&&(!t.plain&&decide (es.size>1)))=true then _ else _) _ _ _;have rest:∀(first:X0) (s₁:X1) (R:Fin->X1->Prop),s₁.heap.get? S=some o->
   R (.done (.ret (.ref s₁.heap.objs.size))) {s₁ with heap:=s₁.heap.push {cls:=.type "set_iterator",data:=.fields #[first,.int 0 0,.ref S,.int (es.size:Nat) 0,.int ep 0]} }->
   X3 (X6 prog w) A.in1 (do let e<- setEpoch S;let v<- newFields "set_iterator" [first,Y9 0,.ref S,Y9 (es.size:Nat),Y9 e];ret v) R E s₁:=by
  intro first s₁ R ho₁ h
  refine X2 (wpAny_setEpoch_of ho₁ hd hf ?_);exact X2 (Ug (X8 h))
 have small:∀(Good:Nat->Nat->Prop) (vs:List X0),Good 0 0->vs.length=es.size->(vs.map txt).Perm zs->(∀v∈vs,∃t,v=XJ (txt v) t)->
   (w.params.followText "set-order"=true\/(es.size≤1/\t.led=true))->
   (∀i sl,Good i sl->(i<es.size->∃x nx,Nx w S es ep t sl i=some (x,nx)/\vs[i]?=some x/\Good (i+1) nx)/\(i=es.size->Nx w S es ep t sl i=none))->
   ∀(s₁:X1),s₁=s->X3 (X6 prog w) A.in1 (do let e<- setEpoch S;let v<- newFields "set_iterator" [Y9 0,Y9 0,.ref S,Y9 (es.size:Nat),Y9 e];ret v)
    (fun fin s'=>∃v,fin=Fin.done (Flow.ret v)/\∃T' r,s'.TypeIs v T'/\Vx (.type T') "__next__"=pure (some r)/\Q v s') E s₁:=by
  intro Good vs g0 hlv hpv hsv hw hg s₁ e₁;subst e₁;refine rest _ _ _ ho ⟨_,rfl,"set_iterator",_,⟨_,XS _ rfl,rfl⟩,slot_setiter_next.lookup,?_⟩;refine hQ _ _ s₁.drawn ⟨[s₁.heap.objs.size,S],es.size,vs,_,λA' hh=>Zom hh (XG hSl) hd hf rfl hw hg,⟨0,g0,⟨_,XS _ rfl,rfl,rfl⟩,Xu _ ho⟩,hlv,hpv,hsv,λb hb=>?_,Xi _⟩ λb o e=>Xu _ e;simp only[Xr,XR,or_false]at hb;rcases hb with rfl|rfl
  ·exact .inr (Xi _)
  ·exact .inl rfl
 by_cases hbt:w.params.followText "set-order"=true
 ·rw[hbt];simp only[VO,WJ,Yl,if_false];refine X2 (X8 ?_);have hpk:=Zim (w.params.setOrder S ep) es;refine small (λ_ _=>True) ((pickOrder (w.params.setOrder S ep) es).toList.map (·.2)) trivial ?_ ?_ ?_ (.inl hbt) ?_ s rfl
  ·rw[Xa,hpk.length_eq,Y3]
  ·rw[Yv];exact(hpk.map _).trans hp
  ·intro v hv;obtain⟨e,he,rfl⟩:=XY.mp hv;exact hst e (hpk.mem_iff.mp he)
  ·intro i sl _;have hps:(pickOrder (w.params.setOrder S ep) es).size=es.size:=by rw[<- Y3,hpk.length_eq,Y3]
   unfold Nx;rw[if_pos hbt];refine⟨λhi=>?_,λhi=>?_⟩
   ·rw[V7 (by lia)]
    exact⟨_,_,rfl,by simp[hps,hi],trivial⟩
   ·rw[E2 (by lia)]
    rfl
 ·have hbf:w.params.followText "set-order"=false:=by simpa using hbt
  have hlt:t.led=true:=by rw[hled,hbf];rfl
  rw[hbf];simp only[C3,C4];by_cases h1:es.size>1
  ·have hz:zs≠ []:=λz=>by rw[z,List.length_nil]at hsz;lia
   rw[hpl hz,decide_eq_true h1];simp only[C3,Bool.and_self,if_true];refine X2 (Zmf _ _ _ _ (by simp) λjs d hj=>?_)
   obtain⟨ys,hy1,hy2,hy3⟩:=ZjC es hj;have hjl:js.length=es.size:=by rw[hj.length_eq,UC]
   refine X2 (wpAny_newTuple ?_ (by rw[Xa];lia))
   refine rest _ _ _ (Xu _ ho) ⟨_,rfl,"set_iterator",_,⟨_,XS _ rfl,rfl⟩,slot_setiter_next.lookup,?_⟩;have hPne:s.heap.objs.size≠(s.heap.push {cls:=.type "tuple",data:=.seq (js.map fun i:Nat=>Y9 i).toArray}).objs.size:=by rw[ZH];lia
   have hSne:S≠(s.heap.push {cls:=.type "tuple",data:=.seq (js.map fun i:Nat=>Y9 i).toArray}).objs.size:=by rw[ZH];exact XG (V3 hSl)
   have hIle:s.heap.objs.size≤(s.heap.push {cls:=.type "tuple",data:=.seq (js.map fun i:Nat=>Y9 i).toArray}).objs.size:=by rw[ZH];lia
   refine hQ _ _ d ⟨[_,S,s.heap.objs.size],es.size,ys.map (·.2),_,λA' hh=>Zol hh (S:=S) (P:=s.heap.objs.size) (o:=o) (js:=js)
    (op:={cls:=.type "tuple",data:=.seq (js.map fun i:Nat=>Y9 i).toArray}) hSne hPne hd hf rfl rfl hjl ?_,
    ⟨⟨_,XS _ rfl,rfl,rfl⟩,Xu _ (Xu _ ho),Xu _ (XS _ rfl)⟩,?_,?_,?_,λb hb=>?_,?_⟩
    λb o e=>Xu _ (Xu _ e)
   ·intro i j hij;obtain⟨e,he,hy⟩:=hy3 i j hij;exact⟨e,he,by rw[Xw,hy];rfl⟩
   ·rw[Xa,hy2,hjl]
   ·rw[Yv];exact(hy1.map _).trans hp
   ·intro v hv;obtain⟨e,he,rfl⟩:=XY.mp hv;exact hst e (hy1.mem_iff.mp he)
   ·simp only[Xr,XR,or_false]at hb;rcases hb with rfl|rfl|rfl
    ·exact .inr hIle
    ·exact .inl rfl
    ·exact .inr (Xi _)
   ·exact hIle
  ·rw[decide_eq_false h1];simp only[C2,Yl,if_false];refine X2 (X8 ?_);have hfp:t.place.size=es.size:=by
    simp only[SetTable.fits,Y2,beq_iff_eq,decide_eq_true_eq]at hf;exact hf.1
   refine small (λi sl=>(i=0->sl=0)/\(i=1->∃h:0<t.place.size,sl=t.place[0]+1)) (es.toList.map (·.2)) ⟨λ_=>rfl,λz=>absurd z (by lia)⟩ (by simp) ?_ ?_ (.inr ⟨by lia,hlt⟩) ?_ s rfl
   ·rw[Yv];exact hp
   ·intro v hv;obtain⟨e,he,rfl⟩:=XY.mp hv;exact hst e he
   ·intro i sl ⟨g0,g1⟩;unfold Nx;rw[if_neg hbt];refine⟨λhi=>?_,λhi=>?_⟩
    ·have hs1:es.size=1:=by lia
     have hi0:i=0:=by lia
     subst hi0;have hpz:t.place.size=1:=by lia
     rw[g0 rfl,Jk hpz,if_neg (by lia),V7 (by lia),V7 (by lia)]
     refine⟨_,_,rfl,?_,λz=>absurd z (by lia),λ_=>⟨by lia,rfl⟩⟩
     simp[hs1]
    ·have hnone:es[Cp t.place sl]?=none:=by
      by_cases h0:es.size=0
      ·exact E2 (by lia)
      ·have hs1:es.size=1:=by lia
       obtain⟨hq,e⟩:=g1 (by lia)
       rw[e,Jk (by lia),if_pos (by lia)]
       exact E2 (by lia)
     rw[hnone]
end
section
variable{prog:Xk}{w:Xh}{A:Xt}{E:X0->X1->Prop}{s:X1}
theorem ZeR{S:Addr}{o:Obj}{zs:List Str}{Q:List X0->X1->Prop}(hh:A.handled=none)(ho:s.heap.get? S=some o)(hS:WSet prog w o zs)
  (hQ:∀(vs:List X0) (h':Heap) (d:Drawn) (g:Array Uc) tk,(vs.map txt).Perm zs->(∀v∈vs,∃t,v=XJ (txt v) t)->(∀b o,s.heap.get? b=some o->h'.get? b=some o)->g=s.gens->s.heap.objs.size≤h'.objs.size->
   Q vs {s with heap:=h',drawn:=d,gens:=g,toks:=tk}):X3 (X6 prog w) A (collect (.ref S)) Q E s:=by
 obtain⟨hex,es,ep,t,hd,hel,hp,hb,hf,hled,hpl⟩:=id hS;have hSl:S<s.heap.objs.size:=XA ho;have hsl:sizeLine=16777216:=by decide
 have hsb:scanBound=4096:=rfl;have hsz:es.size=zs.length:=by rw[<- hp.length_eq,Xa,Y3]
 unfold collect;refine X2 (wpAny_runValue (Zd F.entry_proto_collect ?_));rw[ZJ F.plain_proto_collect _];show X3 _ A.in1 (newList [] >>= fun l=>again (.builtin "list.__iadd__" ⟨[l,.ref S],[]⟩)) _ _ s;refine X2 (Ug ?_);refine X8 ⟨ZC F.plain_list_iadd _,Zd F.entry_list_iadd ?_⟩;rw[ZJ F.plain_list_iadd _];show X3 _ A.in1 (HK (.ref s.heap.objs.size) (.ref S) (.ref s.heap.objs.size)) _ _ _;have hne:s.heap.objs.size≠S:=(XG hSl).symm;generalize hL:s.heap.objs.size=L at*;have hgL:(s.heap.push {cls:=.type "list",data:=.seq ([]:List X0).toArray}).get? L=some {cls:=.type "list",data:=.seq ([]:List X0).toArray}:=by
  rw[<- hL];exact XS _ rfl
 have hgS:(s.heap.push {cls:=.type "list",data:=.seq ([]:List X0).toArray}).get? S=some o:=Xu _ ho;have hbig:(s.heap.push {cls:=.type "list",data:=.seq ([]:List X0).toArray}).objs.size=L+1:=by rw[ZH,hL]
 have hold:∀b u,s.heap.get? b=some u->b≠L/\(s.heap.push {cls:=.type "list",data:=.seq ([]:List X0).toArray}).get? b=some u:=fun b u e=>
  ⟨by rw[<- hL];exact XG (XA e),Xu _ e⟩
 generalize s.heap.push {cls:=.type "list",data:=.seq ([]:List X0).toArray}=h₁ at*;have hT:WO {s with heap:=h₁} (.ref S) "set":=⟨o,hgS,hex.1⟩;unfold HK;refine X2 (ZR hT ?_);have e1:HL (.ref L) (.ref S)=false:=by simp[HL,hne]
 have e2:(XH "set"==XH "list")=false:=by decide
 have e3:(XH "set"==XH "tuple")=false:=by decide
 simp only[e1,e2,e3,Bool.or_false,Yl,if_false];refine X2 (ZhP (s:={s with heap:=h₁}) hgS hS λI h₂ d hW hk=>?_);obtain⟨fp,n,vs,St,hWk,hst,hvn,hvp,hvs,hfp,hI⟩:=hW;have hk':∀b u,h₁.get? b=some u->h₂.get? b=some u:=hk;have hT2:WO {s with heap:=h₂,drawn:=d} (.ref S) "set":=⟨o,hk' _ _ hgS,hex.1⟩;refine X2 (YL ?_);unfold Builtin.List.listLengthHint;refine X2 (wpAny_specialOf hT2 F.slot_set_len.lookup ?_);have hsp:splitId "set.__len__"=some ("set","__len__"):=by decide+kernel
 extract_lets j1 j2
 dsimp -zeta only;rw[hsp];dsimp -zeta only;refine X2 (Uz hT2 sub_set_self ?_);simp only[VO,Yl,if_false];show X3 _ _ (ite (_=true) _ _) _ _ _;split
 case isFalse hs=>exact absurd (by rfl) hs
 refine X2 (ZR hT2 ?_);refine X8 ?_;split
 case isFalse hs=>exact absurd (by rfl) hs
 refine X2 (UA ?_);refine X2 ?_;have hS₁:h₂.get? L=some {cls:=.type "list",data:=.seq ([]:List X0).toArray}:=hk' _ _ hgL;show X3 _ A.in1 (updateSeq L (·.push .none)>>= λ_=>updateSeq L (·.pop)) _ _ _;refine X2 (wpAny_updateSeq hS₁ rfl ?_);have hS₂:=V2 (Uq (·.push Xz)) hS₁ rfl;refine wpAny_updateSeq hS₂ rfl ?_;have hS₃:=V2 (Uq (·.pop)) hS₂ rfl;have oth:∀b o,b≠L->h₂.get? b=some o->((h₂.update L (Uq (·.push Xz))).update L (Uq (·.pop))).get? b=some o:=
  λb o hb e=>(VN _ _ (XU hb)).trans ((VN _ _ (XU hb)).trans e)
 have hLf:L∉fp:=λz=>by
  rcases hfp L z with e|e
  ·exact hne e
  ·have:L+1≤L:=hbig▸e;lia
 have hin:A.in1.handled=none:=by simp[hh]
 have W:=(hWk A.in1 hin).toS;have hn:n≤sizeLine:=by
  have:n=zs.length:=by rw[<- hvn,<- hvp.length_eq,Xa]
  lia
 refine X8 ⟨ZC F.plain_extend_loop _,codeAny_extend_loopS W hn L hLf _ n 0 _ _ _ rfl (YO _)
  (W.frame 0 ({s with heap:=h₂,drawn:=d}:X1) _ s.toks hst (Xi _) λb hb o e=>oth b o (λz=>hLf (z▸hb)) e) hS₃ (ItemsOf.nil _) λs' acc' c' hm hS' hacc=>?_⟩
 show X3 _ A (load L >>= _) _ _ s';refine X2 (Vv hS' ?_);have hav:acc'.toList=vs:=by
  refine BQ λi=>?_;by_cases hi:i<acc'.size
  ·have e:=hacc.2 i acc'[i] (by simp[hi])
   rw[e];simp[hi]
  ·rw[UB (by simp;lia),UB (by have:=hacc.1;lia)]
 obtain⟨h',g',d',tk',os'⟩:=s';have eg:g'=s.gens:=hm.gens;have ed:d'=d:=hm.drawn;have eo:os'=s.os:=hm.os;subst ed;subst eo;refine X8 ?_;show Q acc'.toList _;rw[hav];refine hQ vs h' _ g' tk' hvp hvs (λb u e=>?_) eg (C9 (XA hS'));have hbL:=hold b u e;refine hm.heap b u ?_ (oth b u hbL.1 (hk' b u hbL.2));simp only[Xr,XR,or_false,not_or];refine⟨hbL.1,λz=>?_⟩;have h1:L+1≤I:=Y8 (VQ hbig.symm) hI;have h2:b<L:=by rw[<- hL];exact XA e
 rw[z]at h2;exact absurd h1 (Nat.not_le_of_lt (V3 h2))
theorem Zfp{S:Addr}{o:Obj}{zs:List Str}{Q:X0->X1->Prop}(hh:A.handled=none)(ho:s.heap.get? S=some o)(hS:WSet prog w o zs)(h64:zs.length<64)
  (h:∀(p:Addr) (h':Heap) (d:Drawn) tk (out:List X0) (ss:List Str) (e:Nat),s.heap.objs.size≤p->(∀b o,s.heap.get? b=some o->h'.get? b=some o)->h'.get? p=some (seqObj "list" out.toArray e)->
   StrsAre out ss->ss.Perm zs->sortedS ss=true->Q (.ref p) {s with heap:=h',drawn:=d,toks:=tk}):
  X3 (X6 prog w) A (call (.builtin "sorted") [.ref S]) Q E s:=by
 refine Calls.call_function_entry kind_sorted plain_sorted entry_sorted (args_sorted1 _) ?_;unfold Builtin.«sorted»;refine X2 (m:=checkCount "sorted" 1 1 _) (X8 ?_);have hsl:sizeLine=16777216:=by decide
 refine X2 (ZeR (by simp[hh]) ho hS λvs h₁ d g tk hp hv hk hg hle=>?_)
 subst hg;have hl:vs.length=zs.length:=by rw[<- hp.length_eq,Xa]
 refine X2 (wpAny_newList ?_ (by lia))
 have hoL:(h₁.push (seqObj "list" vs.toArray 0)).get? h₁.objs.size=some (seqObj "list" vs.toArray 0):=XS _ rfl;have hS':StrsAre vs (vs.map strOf):=strsAre_map vs λv hm=>by obtain⟨t,e⟩:=hv v hm;exact⟨_,t,e⟩
 have hto:vs.map strOf=vs.map txt:=List.map_congr_left λv hm=>by obtain⟨t,e⟩:=hv v hm;rw[e];rfl
 show X3 _ _ _ _ _ {s with heap:=h₁.push (seqObj "list" vs.toArray 0),drawn:=d,toks:=tk};refine X2 (YL (Zc slot_list_sort ⟨_,hoL,rfl⟩ entry_list_sort (list_sort_treeK strKind_oneLt hoL hS'.keysOf (λv₁ v₂ rest e=>keyKind_strs (by rw[<- e];exact hS')) (by lia) λst' a1 a2=>⟨_,rfl,?_⟩) (args_list_sort _)))
 obtain⟨ss',z1,z2,z3⟩:=sorted_out_str hS' a1 a2;refine X8 ⟨_,rfl,?_⟩;obtain⟨e,he⟩:=sortedHeap_at (out:=(arrOf st').map (·.2)) hoL;refine h h₁.objs.size _ d tk ((arrOf st').map (·.2)).toList ss' e hle (λb o hb=>?_) (by rw[Array.toArray_toList];exact he) z1 (by rw[hto]at z2;exact z2.trans hp) z3
 have hb1:=hk b o hb;have hlt:b<h₁.objs.size:=XA hb1;rw[sortedHeap_old (XG hlt) (by rw[size_push'];exact V3 hlt)]
 exact Xu _ hb1
end
theorem Inv.drew{X:Cx}{pins:List (Addr×Obj)}{σ:St}{H:Hp}{s:X1}(I:Inv X pins σ H s)(d:Drawn):Inv X pins σ H {s with drawn:=d}:=
 ⟨I.ok,I.os,I.bare,I.base,I.loc,I.cell,I.free,I.freeC,I.pin,I.hok,I.len⟩
theorem few{zs:List Str}(nd:zs.Nodup):∀(N:List Str),(∀z∈zs,z∈N)->zs.length≤N.length:=by
 induction zs with
 |nil=>intro N _;exact YO _
 |cons z zs ih=>
  intro N h;rw[YF]at nd;have hz:=h z Yi;have hp:=List.perm_cons_erase hz;have:=ih nd.2 (N.erase z) λy hy=>by
   have:=hp.mem_iff.mp (h y (XX _ hy));rcases Xr.mp this with e|e
   ·exact absurd (e▸hy) nd.1
   ·exact e
  have hl:=hp.length_eq;simp only[Yu]at hl ⊢;lia
theorem Jl:∀{vs:List X0} {ss:List Str},StrsAre vs ss->Vals (ss.map V.str) vs
 |_,_,.nil=>.nil
 |_,_,.cons x t h=>.cons ⟨t,rfl⟩ (Jl h)
def A0(X:Cx)(f g:X0)(r:V->Hp->VK->Prop):Prop:=
 ∀(pins:List (Addr×Obj)) (s:X1) (σ:St) (H:Hp) (x:V) (u:X0) (Q:VK),Inv X pins σ H s->RelV x u->r x H Q->
  X3 (X6 X.prog X.w) X.A (call g [u]) (λv s1=>X3 (X6 X.prog X.w) X.A (call f [v]) (EP X pins σ Q) X.xe s1) X.xe s
section
variable{X:Cx}
theorem Ew{x y:Str}{id T:String}{r:V->Hp->VK->Prop}{e:Expr}{t:TE}{p p' pos pos':Pos}(hc:A0 X (.builtin id) (.type T) r)
  (hg:Gl X x) (hm:X.mg x=none) (hv:YE x=some (.builtin id)) (hg':Gl X y) (hm':X.mg y=none) (hv':YE y=some (.type T)) (ha:PE X e t)
  (hn:x≠"__name__") (hdb:(x==("__debug__":Str))=false) (hn':y≠"__name__") (hdb':(y==("__debug__":Str))=false)
  (he:XB [e] X.env=(false,eval e X.env)::XB [] X.env):
  PE X (.Call (.Name x p) [.Call (.Name y p') [e] [] pos'] [] pos) (λσ H Q=>t σ H λv H1=>r v H1 Q):=by
 intro pins s σ H Q I h;refine Uy (ZZ I hg hm hv ?_ hn hdb);refine Hi ?_ rfl rfl;show X3 _ _ (spliced ((false,eval (.Call (.Name y p') [e] [] pos') X.env)::Y4 pos (XB [] X.env))) _ _ s;refine WM ?_;refine Uy (ZZ I hg' hm' hv' ?_ hn' hdb');refine Va ?_ he rfl;rw[he];show X3 _ _ (spliced ((false,eval e X.env)::Y4 pos' (XB [] X.env))) _ _ s;refine WM (thn (ha pins s σ H _ I h) λu s1 ⟨v,H1,I1,r1,q1⟩=>?_);refine WN ?_;exact thn (hc pins s1 σ H1 v u Q I1 r1 q1) λu2 s2 q2=>WN q2
theorem Zjt(hcalm:X.calm=true):A0 X (.builtin "sorted") (.type "set") (fun x H Q=>∃(a:Addr) (xs N:List Str),x=.ref a/\SqL X.K H a (xs.map V.str)/\xs.length+1<scanBound/\(∀z∈xs,z∈N)/\N.length<64/\
  ∀p (ys:List Str),H p=none->ys.Nodup->(∀y,y∈ys↔y∈xs)->sortedS ys=true->Q (.ref p) (upd H p (.lst (ys.map V.str)))):=by
 intro pins s σ H x u Q I rx h;obtain⟨a,xs,N,rfl,ha,hlen,hN,hN64,q⟩:=h;cases rx;obtain⟨its,rv,p,hz⟩:=I.list ha;have hh:=I.ok.hd hcalm;have hil:its.length=xs.length:=by rw[<- rv.length,Xa]
 have hsz:its.toArray.size=xs.length:=by simp[hil]
 have hi:∀(i:Nat) (v:X0),its.toArray[i]?=some v->∃t,v=XJ (xs.getD i ⟨#[]⟩) t:=λi v hv=>by
  have hv':its[i]?=some v:=by simpa using hv
  have hlt:i<xs.length:=by rw[<- hil];exact(XV.mp hv').1
  obtain⟨u,hu,ru⟩:=rv.get (i:=i) (x:=V.str xs[i]) (by simp[hlt])
  rw[hv']at hu;cases hu;obtain⟨t,rfl⟩:=ru;exact⟨t,by simp[WG,hlt]⟩
 have hmem:∀y,y∈met (λi=>xs.getD i ⟨#[]⟩) xs.length↔y∈xs:=λy=>by
  rw[J9,List.mem_iff_getElem];constructor
  ·rintro⟨j,hj,rfl⟩;exact⟨j,hj,by simp[WG,hj]⟩
  ·rintro⟨j,hj,rfl⟩;exact⟨j,hj,by simp[WG,hj]⟩
 refine Zju (f:=λi=>xs.getD i ⟨#[]⟩) hh p.isList hi (by rw[hsz];exact hlen) λh1 tk1 o ho hS hk=>?_
 rw[hsz]at hS;have I1:Inv X pins σ H {s with heap:=h1,toks:=tk1}:=I.kept λb u e=>hk b u (XA e) e;have nd:=J8 (λi=>xs.getD i ⟨#[]⟩) xs.length;refine Zfp (s:={s with heap:=h1,toks:=tk1}) hh ho hS (Nat.lt_of_le_of_lt (few nd N λz hz=>hN z ((hmem z).mp hz)) hN64) λp2 h2 d tk2 out ss e hp hk2 hp2 ho2 hperm hsort=>?_;have hlen2:ss.length≤sizeLine:=by
  have hsl:sizeLine=16777216:=by decide
  have:=few nd N λz hz=>hN z ((hmem z).mp hz);rw[hperm.length_eq];lia
 have I2:=(I1.laid (a:=p2) (t':=tk2) (h':=h2) (o:=.lst (ss.map V.str)) (λb u e=>hk2 b u e) hp
  ⟨by rw[Xa];exact hlen2,out,e,Jl ho2,hp2⟩).drew d
 exact⟨.ref p2,_,I2,rfl,q p2 ss (I1.hok.fresh hp) (hperm.nodup_iff.mpr nd) (λy=>(hperm.mem_iff).trans (hmem y)) hsort⟩
end
theorem Zez:Vx (.type "list") "keys"=pure none:=by rw[Vz,VA];kernel_rfl
theorem ZeA:Vx (.type "list") "__getattr__"=pure none:=by rw[Vz,VA];kernel_rfl
theorem Wa:isSubtype (.type "AttributeError") (.type "AttributeError")=pure true:=by rw[isSubtype_type];kernel_rfl
section
variable{prog:Xk}{w:Xh}{A:Xt}{E:X0->X1->Prop}{h:Heap}{g:Array Uc}{d:Drawn}{t:Nat}{os:OsState}{a:Addr}{its:Array X0}{n:Nat}
theorem Zhh{tk:Tok}{Q:Fin->X1->Prop}(hx:h.get? a=some (seqObj "list" its n))(hh:A.handled=none)
  (hE:∀e h' t',(∀b o,h.get? b=some o->h'.get? b=some o)->(∃o,h'.get? e=some o/\o.cls=.type "AttributeError")->E (.ref e) ⟨h',g,d,t',os⟩):
  X3 (X6 prog w) A (Builtin.«object.__getattribute__» ⟨[.ref a,.str "keys" tk],[]⟩) Q E ⟨h,g,d,t,os⟩:=by
 have hT:(⟨h,g,d,t,os⟩:X1).TypeIs (.ref a) "list":=⟨_,hx,rfl⟩;have f4:=Zez;unfold Builtin.«object.__getattribute__»
 repeat (any_goals (first|assumption|wp_step))
 have hmsg:¬(Yj (toString "'"++toString ((VZ "list").elim "list" fun x=>x.tpName)++toString "' object has no attribute '")++Yj "keys"++Yj "'").length>sizeLine:=by decide+kernel
 generalize(Yj (toString "'"++toString ((VZ "list").elim "list" fun x=>x.tpName)++toString "' object has no attribute '")++Yj "keys"++Yj "'")=msg at hmsg ⊢;unfold raiseAttrError;refine X2 ?_;unfold mkStr;rw[if_neg hmsg]
 repeat (any_goals (first|assumption|wp_step))
 show X3 _ _ (isSubtype (.type "AttributeError") (.type "AttributeError")) _ _ _;rw[Wa];generalize(if((VZ "AttributeError").elim false fun t=>t.mro.contains "StopIteration"||t.mro.contains "SystemExit")=true then [XJ msg t].headD Xz else Xz)=fm;refine X8 ?_;simp only[VO,Yl,if_false];have hoE:((h.push {cls:=XH "tuple",data:=Z0 #[XJ msg t]}).push {cls:=XH "AttributeError",data:=ZX (#[Xs h.objs.size,Xz,Xz,Xz,Ye false,fm]++YZ (XH "AttributeError") [XJ msg t])}).get? (h.push {cls:=XH "tuple",data:=Z0 #[XJ msg t]}).objs.size=some {cls:=XH "AttributeError",data:=ZX (#[Xs h.objs.size,Xz,Xz,Xz,Ye false,fm]++YZ (XH "AttributeError") [XJ msg t])}:=XS _ rfl;have e6:(#[Xs h.objs.size,Xz,Xz,Xz,Ye false,fm]++YZ (XH "AttributeError") [XJ msg t])[6]?=some (.int 0 0):=rfl;have e7:(#[Xs h.objs.size,Xz,Xz,Xz,Ye false,fm]++YZ (XH "AttributeError") [XJ msg t])[7]?=some (.int 0 0):=rfl;have old:∀b o,h.get? b=some o->((h.push {cls:=XH "tuple",data:=Z0 #[XJ msg t]}).push {cls:=XH "AttributeError",data:=ZX (#[Xs h.objs.size,Xz,Xz,Xz,Ye false,fm]++YZ (XH "AttributeError") [XJ msg t])}).get? b=some o/\b<(h.push {cls:=XH "tuple",data:=Z0 #[XJ msg t]}).objs.size:=fun b o e=>
  ⟨Xu _ (Xu _ e),by rw[ZH];exact V3 (XA e)⟩
 generalize(h.push {cls:=XH "tuple",data:=Z0 #[XJ msg t]}).objs.size=ea at*;generalize((h.push {cls:=XH "tuple",data:=Z0 #[XJ msg t]}).push {cls:=XH "AttributeError",data:=ZX (#[Xs h.objs.size,Xz,Xz,Xz,Ye false,fm]++YZ (XH "AttributeError") [XJ msg t])})=h2 at*;generalize hvs:#[Xs h.objs.size,Xz,Xz,Xz,Ye false,fm]++YZ (XH "AttributeError") [XJ msg t]=vs at*;refine X2 (Vv hoE ?_);dsimp only;rw[e6,e7];simp only[VP,Yl,if_false];rw[if_neg (by decide)]
 refine X8 ?_;simp only[if_true];have hT2:(⟨h2,g,d,t+1+1,os⟩:X1).TypeIs (.ref ea) "AttributeError":=⟨_,hoE,rfl⟩;refine X2 (UA ?_);refine X2 (ZR hT2 ?_);dsimp only;unfold layMembers;refine X2 (Vv hoE ?_);dsimp only;refine wpAny_update hoE ?_;unfold raiseNew;refine X2 (wpAny_handled ?_);rw[hh];show X3 _ _ (throw (Xs ea)) _ _ _;have hup:=V2 (Eb fun vs=>vs.extract 0 6++#[XJ (Yj "keys") (t+1),Xs a]) hoE (E9 (Cq rfl _));refine wpAny_throw (hE ea _ _ (λb o e=>?_) ⟨_,hup,Ea ..⟩);have:=old b o e;exact(VN _ _ (V5 this.2)).trans this.1
theorem Znl{tk:Tok}{Q:X0->X1->Prop}(hx:h.get? a=some (seqObj "list" its n))(hh:A.handled=none)
  (hE:∀e h' t',(∀b o,h.get? b=some o->h'.get? b=some o)->(∃o,h'.get? e=some o/\o.cls=.type "AttributeError")->E (.ref e) ⟨h',g,d,t',os⟩):
  X3 (X6 prog w) A (getAttrBy (.ref a) (.str "keys" tk) false) Q E ⟨h,g,d,t,os⟩:=by
 have hT:(⟨h,g,d,t,os⟩:X1).TypeIs (.ref a) "list":=⟨_,hx,rfl⟩;have f2:=Cm.lookup;have f3:=Cm.bind (.ref a)
 repeat (any_goals (first|assumption|wp_step))
 refine Wv Cm.plain F.entry_list_ga (Cm.check _ _ _ _ _ _ _ _ hT (F.args_list_getattribute_2 _ _) (Zhh hx (by simp[hh]) λe h' t' k ho=>?_))
 have hTe:(⟨h',g,d,t',os⟩:X1).TypeIs (.ref e) "AttributeError":=ho;show X3 _ _ (BM _ _ _ _ _ _ _) _ _ _;unfold BM;refine X2 (Uz hTe Wa ?_);simp only[if_true];unfold hookBehind onTheHeap;simp only[Yl,if_false];rw[ZeA];refine X2 (X8 ?_);unfold hookOrError attributeErrorLeaves;simp only[C3,if_true];exact X2 (wpAny_throw (hE e h' t' k ho))
theorem ZiH{Q:Option X0->X1->Prop}{s:X1}(hx:s.heap.get? a=some (seqObj "list" its n))(hh:A.handled=none)
  (hQ:∀h' t',(∀b o,s.heap.get? b=some o->h'.get? b=some o)->Q none {s with heap:=h',toks:=t'}):X3 (X6 prog w) A (getAttr? (.ref a) "keys") Q E s:=by
 obtain⟨h,g,d,t,os⟩:=s;unfold getAttr? getAttrBy? mkText;refine X2 (X2 (wpAny_fresh (X8 ?_)));refine X2 (wpAny_attempt (Znl hx hh λe h' t' k ho=>?_));have hTe:(⟨h',g,d,t',os⟩:X1).TypeIs (.ref e) "AttributeError":=ho;refine X2 (Uz hTe Wa ?_);simp only[if_true];exact X8 (hQ h' t' k)
end
theorem Jn:entryFor table "dict.update.loop"=some Builtin.«dict.update.loop»:=entryFor_of_tree (by kernel_rfl)
theorem A3:plainId "dict.update.loop"=true:=by decide+kernel
section
variable{prog:Xk}{w:Xh}{A:Xt}{E:X0->X1->Prop}{s:X1}{K:Type} [DecidableEq K] {knd:KeyKind prog w K}
def stTo(ks:Nat->K)(vs:Nat->X0):Nat->List (K×X0)
 |0=>[]
 |i+1=>stored (stTo ks vs i) (ks i) (vs i)
theorem Zfl(kvs:List (K×X0))(k:K)(v:X0):(stored kvs k v).length≤kvs.length+1:=by
 unfold stored;split<;>simp
theorem CI(ks:Nat->K)(vs:Nat->X0):∀i,(stTo ks vs i).length≤i
 |0=>Xi _
 |i+1=>Y8 (Zfl _ _ _) (Nat.succ_le_succ (CI ks vs i))
theorem Jo{R:Result->X1->Prop}{I:Addr}{fp wr:List Addr}{G:Array Uc->Array Uc->Prop}{n:Nat}{P:Nat->X0->Prop}{St:Nat->X1->Prop}
  (W:WalksS prog w A.in1 I fp wr G n P St) (D:Addr) (hDf:D∉fp) (ks:Nat->K) (vs:Nat->X0) (hb:n≤sizeLine):
  ∀(k i:Nat) (s:X1),n - i=k->i≤n->St i s->s.heap.DictOf knd D (stTo ks vs i)->
   (∀j v,P j v->∃q uk np oq,v=.ref q/\q≠D/\q∉wr/\s.heap.get? q=some oq/\oq.cls=.type "tuple"/\oq.data=.seq #[uk,vs j] np/\knd.is (ks j) uk=true)->
   (∀s',Moved (D::wr) G s s'->s'.heap.DictOf knd D (stTo ks vs n)->R (.ok (.ret .none)) s')->
   YY (X6 prog w) A (.builtin "dict.update.loop" ⟨[.ref D,.ref I,Y9 (i:Nat),.none],[]⟩) R s:=by
 have hDw:D∉wr:=λh=>hDf (W.sub _ h);have hsub:∀b∈wr,b∈D::wr:=λb hb=>XX _ hb;intro k
 induction k with
 |zero=>
  intro i s hk hi hst hd ht hR;have hin:i=n:=by lia
  subst hin;refine Zd Jn ?_;rw[ZJ A3 _];show X3 _ A.in1 (pyNext (.ref I)>>= _) _ _ s;refine X2 (W.done s _ _ hst λs' hm=>?_);refine X2 (m:=Builtin.Dict.addKeywords D []) (X8 ?_);refine X8 (hR s' (hm.mono hsub) ?_);obtain⟨o,es,ep,ho,r⟩:=hd;exact⟨o,es,ep,hm.heap D _ hDw ho,r⟩
 |succ k ih=>
  intro i s hk hi hst hd ht hR;have hlt:i<n:=by lia
  refine Zd Jn ?_;rw[ZJ A3 _];show X3 _ A.in1 (pyNext (.ref I)>>= _) _ _ s;refine X2 (W.item i s _ _ hlt hst λv s' hP hst' hm=>?_);obtain⟨q,uk,np,oq,rfl,hqD,hqw,hq,hqc,hqd,hkey⟩:=ht i v hP;have hq':=hm.heap q _ hqw hq;have hd':s'.heap.DictOf knd D (stTo ks vs i):=by
   obtain⟨o,es,ep,ho,r⟩:=hd;exact⟨o,es,ep,hm.heap D _ hDw ho,r⟩
  have hT:s'.TypeIs (.ref q) "tuple":=⟨_,hq',hqc⟩;show X3 _ A.in1 (Z9 [Xs q] _ >>= _) _ _ s';refine X2 (YL ?_);refine X2 (wpAny_tryCatch ?_);unfold Builtin.Dict.pairItems;refine X2 (ZR hT ?_);have e2:(XH "tuple"==XH "tuple")=true:=rfl;rw[e2,C6,if_pos rfl];refine X2 (wpAny_seqItems hq' hqd (X8 ?_));show X3 _ A.in1 (Z9 [uk,vs i] (dictSet D uk (vs i))) _ _ s';refine YL ?_;have hl:=CI ks vs i;refine wpAny_dictSet_pairs (knd:=knd) hkey hd' (λh' hd2 hsb=>?_) (by lia)
  refine X8 ⟨ZC A3 _,?_⟩;have:=ih (i+1) {s' with heap:=h',toks:=s'.toks+1} (by lia) hlt (W.frame _ s' _ _ hst' (UF _) λb hb o e=>?_) hd2 (λj v hPj=>?_) λs'' hm'' hd''=>?_
  ·exact this
  ·rw[hsb.2 b (λz:b=D=>hDf (by rw[<- z];exact hb))];exact e
  ·obtain⟨q,uk,np,oq,rfl,a1,a2,a3,a4⟩:=ht j v hPj;exact⟨q,uk,np,oq,rfl,a1,a2,(hsb.2 q a1).trans (hm.heap q _ a2 a3),a4⟩
  ·refine hR s'' (Moved.trans W.gtrans ((hm.mono hsub).then_heap (UF _) λb o hb e=>?_) hm'') hd'';rw[hsb.2 b (λz:b=D=>hb (by rw[z];exact Yi))];exact e
theorem ZhF{l:Addr}{items:Array X0}{nl:Nat}{ks:Nat->K}{vs:Nat->X0}{Q:X0->X1->Prop}(hh:A.handled=none)(hl:s.heap.get? l=some (seqObj "list" items nl))(hn:items.size≤sizeLine)
  (ht:∀(j:Nat) v,items[j]?=some v->∃q uk np oq,v=.ref q/\s.heap.get? q=some oq/\oq.cls=.type "tuple"/\oq.data=.seq #[uk,vs j] np/\knd.is (ks j) uk=true)
  (h:∀h' tk,h'.DictOf knd s.heap.objs.size (stTo ks vs items.size)->(∀b o,b<s.heap.objs.size->s.heap.get? b=some o->h'.get? b=some o)->Q (.ref s.heap.objs.size) {s with heap:=h',toks:=tk}):
  X3 (X6 prog w) A (call (.type "dict") [.ref l]) Q E s:=by
 refine callType_codes (Q₁:=fun obj s₁=>obj=.ref s.heap.objs.size/\s₁={s with heap:=s.heap.push {cls:=.type "dict",data:=.dict #[]} }) F.kt_called_dict (F.kt_typeCall_dict_1 _) F.entry_dict_init (kt_code_dict_new _ ⟨rfl,rfl⟩) ?_;rintro obj s₁ ⟨rfl,rfl⟩;have hnew:(s.heap.push {cls:=.type "dict",data:=.dict #[]}).DictOf knd s.heap.objs.size []:=HW s.heap;have hl':(s.heap.push {cls:=.type "dict",data:=.dict #[]}).get? l=some (seqObj "list" items nl):=Xu _ hl;have hT:WO {s with heap:=s.heap.push {cls:=.type "dict",data:=.dict #[]} } (.ref l) "list":=⟨_,hl',rfl⟩;refine⟨hnew.typeIs,F.args_dict_init_2 _ _,?_⟩;unfold Builtin.«dict.__init__»;refine X2 ?_;unfold Ht;refine X2 (BK hnew.typeIs ?_);show X3 _ _ (pure (s.heap.objs.size,[Xs l])) _ _ _;refine X8 ?_;show X3 _ _ (Ck "dict.__init__" s.heap.objs.size (.ref l) [] .none) _ _ _;unfold Ck;refine X2 (ZR hT ?_);rw[if_pos (by decide)]
 refine X2 (ZiH (s:={s with heap:=s.heap.push {cls:=.type "dict",data:=.dict #[]} }) hl' (by simp[hh]) fun h1 t1 hk1=>?_)
 simp only[Option.isNone_none,if_true];refine X2 (UA ?_);have hl1:h1.get? l=some (seqObj "list" items nl):=hk1 _ _ hl';have hL1:h1.IsList l items:=⟨_,hl1,rfl,nl,rfl⟩;have hlS:l<s.heap.objs.size:=XA hl;have hbig:s.heap.objs.size<h1.objs.size:=by
  obtain⟨o,es,ep,ho,_⟩:=hnew;exact XA (hk1 _ _ ho)
 refine X2 (BL (s:={s with heap:=h1,toks:=t1}) hL1 ?_);have hneI:l≠h1.objs.size:=XG (V6 hlS hbig);refine X8 ⟨ZC A3 _,?_⟩;refine Jo (knd:=knd) (n:=items.size) ((Walks.list (A:=A.in1.in1) (by simp[hh]) h1.objs.size l hneI items).toS) s.heap.objs.size ?_ ks vs hn items.size 0 _ rfl (YO _)
  ⟨⟨_,XS _ rfl,rfl,rfl⟩,hL1.push _⟩ ?_ ?_ ?_
 ·simp only[Xr,XR,or_false,not_or];exact⟨XG hbig,V5 hlS⟩
 ·obtain⟨o,es,ep,ho,r⟩:=hnew;exact⟨o,es,ep,Xu _ (hk1 _ _ ho),r⟩
 ·intro j v hv;obtain⟨q,uk,np,oq,rfl,a1,a2⟩:=ht j v hv;have hqS:q<s.heap.objs.size:=XA a1;refine⟨q,uk,np,oq,rfl,XG hqS,?_,Xu _ (hk1 _ _ (Xu _ a1)),a2⟩;simp only[Ya];exact XG (V6 hqS hbig)
 ·intro s' hm hd;obtain⟨h',g',d',tk',os'⟩:=s';have eg:g'=s.gens:=hm.gens;have ed:d'=s.drawn:=hm.drawn;have eo:os'=s.os:=hm.os;subst eg;subst ed;subst eo;refine⟨rfl,h h' tk' hd λb o hb e=>?_⟩;refine hm.heap b o ?_ (Xu _ (hk1 _ _ (Xu _ e)));simp only[Xr,XR,or_false,not_or];exact⟨XG hb,XG (V6 hb hbig)⟩
end
def Ex(H:Hp):List (Key×V)->List V->Prop:=Paired fun(p:Key×V) (v:V)=>∃q,v=.ref q/\H q=some (.tup [kV p.1,p.2])
def U4(ps:List (Key×V)):List (Key×V):=ps.foldl (λc z=>putK c z.1 z.2) []
theorem Paired.at{α β:Type}{R:α->β->Prop}:∀{xs:List α} {ys:List β},Paired R xs ys->∀(i:Nat) (y:β),ys[i]?=some y->∃x,xs[i]?=some x/\R x y
 |_,_,.nil,i,y,h=>by simp at h
 |_,_,.cons r _,0,y,h=>by simp at h;subst h;exact⟨_,rfl,r⟩
 |_,_,.cons _ t,i+1,y,h=>by simp at h;obtain⟨x,hx,r⟩:=Paired.at t i y h;exact⟨x,by simpa using hx,r⟩
section
variable{X:Cx}
theorem ZhE(hcalm:X.calm=true):CallR X (.type "dict") (fun xs H Q=>∃(a:Addr) (ps:List (Key×V)) (qs:List V),xs=[.ref a]/\H a=some (.lst qs)/\Ex H ps qs/\∀p,H p=none->Q (.ref p) (upd H p (.dK (U4 ps)))):=by
 intro pins s σ H xs us Q I r h;obtain⟨a,ps,qs,rfl,ha,hp,q⟩:=h;obtain⟨u,rfl,ru⟩:=Z1 r;cases ru;obtain⟨hz,its,nl,rv,hl⟩:=(show ObjOk X.prog X.w H s.heap a (.lst qs)from I.hok a _ ha);have hh:=I.ok.hd hcalm;have hlen:its.length=ps.length:=by rw[<- rv.length,hp.length]
 have hpair:∀(j:Nat) v,its.toArray[j]?=some v->∃q uk uv np oq,v=.ref q/\s.heap.get? q=some oq/\oq.cls=.type "tuple"/\oq.data=.seq #[uk,uv] np/\∃p,ps[j]?=some p/\RelV (kV p.1) uk/\RelV p.2 uv:=fun j v hv=>by
  have hv':its[j]?=some v:=by simpa using hv
  obtain⟨y,hy,ry⟩:=Paired.at rv j v hv';obtain⟨p,hpj,q,rfl,hq⟩:=Paired.at hp j y hy;cases ry;obtain⟨_,ts,rt,ht⟩:=(show ObjOk X.prog X.w H s.heap q (.tup [kV p.1,p.2])from I.hok q _ hq);obtain⟨uk,uv,rfl,r1,r2⟩:=W6 rt;obtain⟨oq,ho,hc,n,hd⟩:=ht.1;exact⟨q,uk,uv,n,oq,rfl,ho,hc,hd,p,hpj,r1,r2⟩
 obtain⟨vs,hvs⟩:∃vs:Nat->X0,∀(j:Nat) v,its.toArray[j]?=some v->∃q uk np oq,v=.ref q/\s.heap.get? q=some oq/\oq.cls=.type "tuple"/\oq.data=.seq #[uk,vs j] np/\∃p,ps[j]?=some p/\RelV (kV p.1) uk/\RelV p.2 (vs j):=by
  refine⟨λj=>if h:j<its.length then(hpair j its[j] (by simp[h])).choose_spec.choose_spec.choose else .none,λj v hv=>?_⟩
  have hv':its[j]?=some v:=by simpa using hv
  obtain⟨hj,rfl⟩:=XV.mp hv';dsimp only;rw[dif_pos hj];have z:=(hpair j its[j] (by simp[hj]))
  exact⟨z.choose,z.choose_spec.choose,z.choose_spec.choose_spec.choose_spec⟩
 refine ZhF (knd:=Yw X.prog X.w) (ks:=λj=>(ps.getD j (.inl 0,.non)).1) (vs:=vs) hh hl (by simpa [<- rv.length]using hz) (λj v hv=>?_) λh' tk hd hk=>?_
 ·obtain⟨q,uk,np,oq,e1,e2,e3,e4,p,hpj,r1,r2⟩:=hvs j v hv;refine⟨q,uk,np,oq,e1,e2,e3,e4,Vf ?_⟩;rw[Yr,hpj];exact r1
 have kv:∀i,i≤ps.length->KV ((ps.take i).foldl (λc z=>putK c z.1 z.2) []) (stTo (λj=>(ps.getD j (.inl 0,.non)).1) vs i):=by
  intro i
  induction i with
  |zero=>intro _;exact .nil
  |succ i ih=>
   intro hi;have hlt:i<its.length:=by lia
   obtain⟨q,uk,np,oq,e1,e2,e3,e4,p,hpj,r1,r2⟩:=hvs i its[i] (by simp[hlt])
   rw[Ui,hpj,Ee,DL];show KV (putK _ p.1 p.2) (stored _ (ps.getD i (.inl 0,.non)).1 _);have ek:(ps.getD i (.inl 0,.non)).1=p.1:=by rw[Yr,hpj];rfl
   rw[ek];exact(ih (by lia)).put p.1 r2
 have kvn:=kv ps.length (Xi _);rw[DO]at kvn;have hsz:its.toArray.size=ps.length:=by simp[hlen]
 rw[hsz]at hd;have hpl:ps.length≤sizeLine:=by rw[hp.length];exact hz
 have zl:(U4 ps).length≤sizeLine:=by
  have:=kvn.length;have l2:=CI (λj=>(ps.getD j (.inl 0,.non)).1) vs ps.length;unfold U4;lia
 exact⟨.ref s.heap.objs.size,_,I.laid (a:=s.heap.objs.size) (o:=.dK (U4 ps)) (t':=tk) (λb u e=>hk b u (XA e) e) (Xi _) (CB zl (beq_eq_false_iff_ne.mpr (XU (XG I.big))) kvn hd),rfl,q _ (I.hok.fresh (Xi _))⟩
end
section
variable{X:Cx}
theorem ZjD:∀(bs:List Bool),((Xx bs.length).all λi=>bs.getD i true)=bs.all id:=by
 intro bs;have e:(Xx bs.length).map (λi=>bs.getD i true)=bs:=by
  refine BT (by simp) λi h1 h2=>?_
  simp[WG,h2]
 conv=>rhs;rw[<- e]
 rw[List.all_map]
 rfl
theorem ZjB(hcalm:X.calm=true):CallR X (.builtin "all") (fun xs H Q=>∃(a:Addr) (bs:List Bool),xs=[.ref a]/\SqL X.K H a (bs.map V.bl)/\Q (.bl (bs.all id)) H):=by
 intro pins s σ H xs us Q I r h;obtain⟨a,bs,rfl,ha,q⟩:=h;obtain⟨u,rfl,ru⟩:=Z1 r;cases ru;obtain⟨its,rv,p,hz⟩:=I.list ha;have hh:=I.ok.hd hcalm;have hil:its.length=bs.length:=by rw[<- rv.length,Xa]
 have hit:∀(i:Nat) (v:X0),its.toArray[i]?=some v->v=.bool (bs.getD i true):=λi v hv=>by
  have hv':its[i]?=some v:=by simpa using hv
  have hlt:i<bs.length:=by rw[<- hil];exact(XV.mp hv').1
  obtain⟨u,hu,ru⟩:=rv.get (i:=i) (x:=V.bl bs[i]) (by simp[hlt])
  rw[hv']at hu;cases hu;rw[show v=.bool bs[i]from ru];simp[WG,hlt]
 have hlS:a<s.heap.objs.size:=by obtain⟨o,n,e,_⟩:=p;exact XA e
 refine PySem.call_all_walk (BL p.isList ⟨_,_,_,_,_,_,λi=>bs.getD i true,rfl,Walks.list (by simp[hh]) _ a (XG hlS) its.toArray,⟨⟨_,XS _ rfl,rfl,rfl⟩,p.isList.push _⟩,?_,λh' tk hk=>?_⟩)
 ·intro i v s Q E hP hQ;rw[hit i v hP];exact ZO hQ
 ·have hsz:its.toArray.size=bs.length:=by simp[hil]
  rw[hsz,ZjD];refine⟨.bl _,H,I.kept (t':=tk) λb o e=>?_,rfl,q⟩;exact hk b o (by simp only[Ya];exact XG (XA e)) (Xu _ e)
end
def Its(x:Str):It:=⟨λi _=>i<x.cps.size,λi H v H'=>H'=H/\∃c,x.cps[i]?=some c/\v=.str ⟨#[c]⟩,λi _=>x.cps.size≤i⟩
theorem ZhK{P:Xk}{w:Xh}{K:X5}{tg:Expr}(it:Addr)(x:Str)(t:Tok):Turn P w K tg (Its x) [it] it (fun i h=>h.IsStrIter it "str_ascii_iterator" x t i)where
 mem:=by simp
 obj:=λi h st b hb=>by
  have e:b=it:=by simpa using hb
  subst e;obtain⟨o,e,c,d⟩:=st;exact⟨o,e,λv z=>by rw[d]at z;cases z⟩
 keep:=λi h h' st k=>by
  obtain⟨o,e,c,d⟩:=st;exact⟨o,k it (by simp) o e,c,d⟩
 item:=by
  intro X hP hw hK hc i pins s σ H E I hf st hg;subst hP hw hK;have hg:i<x.cps.size:=hg;obtain⟨f0,f1,f2,f3,f4,f5⟩:=hf it (by simp)
  refine wpAny_pyNext_ascii_item st (c:=x.cps[i]) (by simp[hg]) λh' st' sb=>?_
  have I1:Inv X pins σ H {s with heap:=h',toks:=s.toks+1}:=I.turned (λb o hb e=>(sb.2 b hb).trans e) f0 f1 f3 f4 f5;obtain⟨o,e,c,d⟩:=id st';exact⟨_,rfl,Vd (s:={s with heap:=h',toks:=s.toks+1}) e c d (by decide) ⟨.str ⟨#[x.cps[i]]⟩,H,I1,⟨_,rfl⟩,⟨rfl,_,by simp[hg],rfl⟩,st',λb hb=>(hf b hb).1⟩⟩
 done:=by
  intro X hP hw hK hc i pins s σ H E I hf st hg;subst hP hw hK;have hg:x.cps.size≤i:=hg;obtain⟨f0,f1,f2,f3,f4,f5⟩:=hf it (by simp)
  exact wpAny_pyNext_ascii_end (I.ok.hd hc) st (by simp[hg]) λh' eb=>⟨rfl,I.turned (t':=s.toks) (λb o hb e=>eb b o hb e) f0 f1 f3 f4 f5⟩
 self:=λ_ _ _ _ _ st h=>wpAny_pyIter_striter_ascii st h
theorem ZhJ{P:Xk}{w:Xh}{K:X5}{tg:Expr}(it:Addr)(x:Str)(t:Tok):Turn P w K tg (Its x) [it] it (fun i h=>h.IsStrIter it "str_iterator" x t i)where
 mem:=by simp
 obj:=λi h st b hb=>by
  have e:b=it:=by simpa using hb
  subst e;obtain⟨o,e,c,d⟩:=st;exact⟨o,e,λv z=>by rw[d]at z;cases z⟩
 keep:=λi h h' st k=>by
  obtain⟨o,e,c,d⟩:=st;exact⟨o,k it (by simp) o e,c,d⟩
 item:=by
  intro X hP hw hK hc i pins s σ H E I hf st hg;subst hP hw hK;have hg:i<x.cps.size:=hg;obtain⟨f0,f1,f2,f3,f4,f5⟩:=hf it (by simp)
  refine wpAny_pyNext_wide_item st (c:=x.cps[i]) (by simp[hg]) λh' st' sb=>?_
  have I1:Inv X pins σ H {s with heap:=h',toks:=s.toks+1}:=I.turned (λb o hb e=>(sb.2 b hb).trans e) f0 f1 f3 f4 f5;obtain⟨o,e,c,d⟩:=id st';exact⟨_,rfl,Vd (s:={s with heap:=h',toks:=s.toks+1}) e c d (by decide) ⟨.str ⟨#[x.cps[i]]⟩,H,I1,⟨_,rfl⟩,⟨rfl,_,by simp[hg],rfl⟩,st',λb hb=>(hf b hb).1⟩⟩
 done:=by
  intro X hP hw hK hc i pins s σ H E I hf st hg;subst hP hw hK;have hg:x.cps.size≤i:=hg;obtain⟨f0,f1,f2,f3,f4,f5⟩:=hf it (by simp)
  exact wpAny_pyNext_wide_end (I.ok.hd hc) st (by simp[hg]) λh' eb=>⟨rfl,I.turned (t':=s.toks) (λb o hb e=>eb b o hb e) f0 f1 f3 f4 f5⟩
 self:=λ_ _ _ _ _ st h=>wpAny_pyIter_striter_wide st h
section
variable{X:Cx}{pins:List (Addr×Obj)}{σ:St}{H:Hp}{s:X1}
theorem ZmM{tg:Expr}{R:It->Hp->Prop}{E:X0->X1->Prop}{x:Str}{t:Tok}(I:Inv X pins σ H s)(q:R (Its x) H):X3 (X6 X.prog X.w) X.A (pyIter (.str x t)) (PIE X pins σ tg R) E s:=by
 have fp:∀b∈ [s.heap.objs.size],FpOk X pins H b:=λb hb=>by
  have e:b=s.heap.objs.size:=by simpa using hb
  subst e;exact I.fpOk (Xi _) (I.hok.fresh (Xi _))
 cases ha:x.cps.all (·<128)
 ·exact wpAny_pyIter_wide ha ⟨s.heap.objs.size,[s.heap.objs.size],_,_,H,rfl,I.kept (t':=s.toks) λb o e=>Xu _ e,ZhJ _ x t,⟨_,XS _ rfl,rfl,rfl⟩,fp,q⟩
 ·exact wpAny_pyIter_ascii ha ⟨s.heap.objs.size,[s.heap.objs.size],_,_,H,rfl,I.kept (t':=s.toks) λb o e=>Xu _ e,ZhK _ x t,⟨_,XS _ rfl,rfl,rfl⟩,fp,q⟩
def Zry(X:Cx)(tl:TE):TI:=λσ H R=>tl σ H λx H1=>(∃a,x=.ref a/\((∃xs,SqL X.K H1 a xs/\R (Itl X.K a) H1)\/(∃xs,SqT X.K H1 a xs/\R (Itt X.K a) H1)\/∃kvs,H1 a=some (.dK kvs)/\∀o,(∀o' u',X.H₀ a≠some (.frz o' u'))->R (Itd a o) (upd H1 a (.frz o (.dK kvs)))))\/
 ∃z,x=.str z/\R (Its z) H1
theorem ZmN{tg l:Expr}{tl:TE}(hl:PE X l tl):PI X tg l (Zry X tl):=by
 intro pins s σ H R I h;refine thn (hl pins s σ H _ I h) λv s1 ⟨x,H1,I1,r1,q1⟩=>?_;rcases q1 with⟨a,e,q⟩|⟨z,e,q⟩
 ·subst e;cases r1;rcases q with⟨xs,hq,q⟩|⟨xs,hq,q⟩|⟨kvs,hq,q⟩
  ·obtain⟨its,rv,p,hz⟩:=I1.list hq;refine BL p.isList ?_;refine⟨s1.heap.objs.size,[s1.heap.objs.size],_,_,H1,rfl,I1.kept (t':=s1.toks) λb o e=>Xu _ e,Su a _,⟨_,XS _ rfl,rfl,rfl⟩,λb hb=>?_,q⟩;have e:b=s1.heap.objs.size:=by simpa using hb
   subst e;exact I1.fpOk (Xi _) (I1.hok.fresh (Xi _))
  ·obtain⟨its,rv,p,hz⟩:=I1.tuple hq;refine wpAny_pyIter_tuple (show s1.heap.IsTuple a its.toArray from p) ?_;refine⟨s1.heap.objs.size,[s1.heap.objs.size],_,_,H1,rfl,I1.kept (t':=s1.toks) λb o e=>Xu _ e,Sv a _,⟨_,XS _ rfl,rfl,rfl⟩,λb hb=>?_,q⟩;have e:b=s1.heap.objs.size:=by simpa using hb
   subst e;exact I1.fpOk (Xi _) (I1.hok.fresh (Xi _))
  ·exact Zko I1 hq q
 ·subst e;obtain⟨t,rfl⟩:=r1;exact ZmM I1 q
theorem ZfN{M:Model}{A:Xt}{E:X0->X1->Prop}{s:X1}{Q:X0->X1->Prop}{v:X0}{b:Bool}(hv:∀i,v≠.builtin i)(h:Q (.bool (v==.bool b)) s):X3 M A (Y6 .Is v (.bool b)) Q E s:=by
 cases v<;>first|exact X8 h|exact absurd rfl (hv _)
theorem Zca{M:Model}{A:Xt}{E:X0->X1->Prop}{s:X1}{Q:X0->X1->Prop}{v:X0}{b:Bool}(hv:∀i,v≠.builtin i)(h:Q (.bool (!(v==.bool b))) s):X3 M A (Y6 .IsNot v (.bool b)) Q E s:=by
 cases v<;>first|exact X8 h|exact absurd rfl (hv _)
theorem Jp{x:V}{v:X0}(r:RelV x v):∀i,v≠.builtin i:=λi e=>by
 subst e;cases x<;>first|(cases r;done)|(obtain⟨t,e⟩:=r;cases e)
theorem Jq{x:V}{v:X0}{b:Bool}(r:RelV x v):decide (x=.bl b)=(v==Ye b):=by
 cases x<;>first
  |(cases r;rename_i c;cases b<;>cases c<;>rfl)
  |(cases r;rfl)
  |(obtain⟨t,rfl⟩:=r;rfl)
theorem ZmZ:OpR X (Y6 .Is) (λx y H Q=>∃b,y=.bl b/\Q (.bl (decide (x=.bl b))) H):=by
 intro pins s σ H x y v u Q I rx ry h;obtain⟨b,rfl,q⟩:=h;cases ry;exact ZfN (Jp rx) (XM I q (Jq rx))
theorem Zkx:OpR X (Y6 .IsNot) (λx y H Q=>∃b,y=.bl b/\Q (.bl (!decide (x=.bl b))) H):=by
 intro pins s σ H x y v u Q I rx ry h;obtain⟨b,rfl,q⟩:=h;cases ry;exact Zca (Jp rx) (XM I q (by rw[Jq rx]))
theorem Zhk{A:Xt}{E:X0->X1->Prop}{Q:X0->X1->Prop}{x:V}{u t c d:X0}{b b':Bool}{tp:Addr}{dd:Option Addr}{n:Nat}{sl:Array (Option X0)}(I:Inv X pins σ H s)(rx:RelV x u)(ty:TyOf X.K H x t)(e:V1 X.K t c=some b)(e':V1 X.K t d=some b')
  (htp:s.heap.get? tp=some ⟨.type "tuple",dd,.seq [c,d].toArray n,sl⟩) (h:∀tk,Q (.bool (b||b')) {s with toks:=tk}):X3 (X6 X.prog X.w) A (call (.builtin "isinstance") [u,.ref tp]) Q E s:=by
 have ea:BY X.K t [c,d]=some (b||b'):=by
  unfold BY;rw[e];cases b with
  |true=>rfl
  |false=>
   show BY X.K t [d]=some b';unfold BY;rw[e'];cases b'<;>rfl
 cases ty with
 |non=>cases(show u=Xz from rx);exact ZG PySem.W.kitx_none I.kIn YH htp ea (λz=>nomatch z) h
 |bl y=>cases(show u=Ye y from rx);exact ZG PySem.W.kitx_bool I.kIn YH htp ea (λz=>nomatch z) h
 |int i=>obtain⟨t,q⟩:=(show∃t,u=VS i t from rx);cases q;exact ZG PySem.W.kitx_int I.kIn YH htp ea (λz=>nomatch z) h
 |str y=>obtain⟨t,q⟩:=(show∃t,u=XJ y t from rx);cases q;exact ZG PySem.W.kitx_str I.kIn YH htp ea (λz=>nomatch z) h
 |flt y=>obtain⟨t,q⟩:=(show∃t,u=Ca y t from rx);cases q;exact ZG PySem.W.kitx_float I.kIn YH htp ea (λz=>nomatch z) h
 | @lst a xs ea'=>
  cases(show u=Xs a from rx);obtain⟨_,_,n,_,h1⟩:=(show ObjOk X.prog X.w H s.heap a (.lst xs)from I.hok a _ ea');exact ZG BV I.kIn ⟨_,h1,rfl⟩ htp ea (λz=>nomatch z) h
 | @frz a ob xs ea'=>
  cases(show u=Xs a from rx);obtain⟨_,_,_,n,_,h1⟩:=(show ObjOk X.prog X.w H s.heap a (.frz ob (.lst xs))from I.hok a _ ea');exact ZG BV I.kIn ⟨_,h1,rfl⟩ htp ea (λz=>nomatch z) h
 | @tup a xs ea'=>
  cases(show u=Xs a from rx);obtain⟨_,_,_,p⟩:=(show ObjOk X.prog X.w H s.heap a (.tup xs)from I.hok a _ ea');obtain⟨o,h1,h2,_⟩:=p.1;exact ZG PySem.W.kitx_tuple I.kIn ⟨o,h1,h2⟩ htp ea (λz=>nomatch z) h
 | @dK a kvs ea'=>
  cases(show u=Xs a from rx);obtain⟨_,_,vs,_,p⟩:=(show ObjOk X.prog X.w H s.heap a (.dK kvs)from I.hok a _ ea');obtain⟨o,es,ep,h1,h2,_⟩:=p;exact ZG BW I.kIn ⟨o,h1,h2.1⟩ htp ea (λz=>nomatch z) h
 | @dT a kvs ea'=>
  cases(show u=Xs a from rx);obtain⟨_,_,xs,_,o,es,ep,h1,h2,_⟩:=(show ObjOk X.prog X.w H s.heap a (.dT kvs)from I.hok a _ ea');exact ZG BW I.kIn ⟨o,h1,h2.1⟩ htp ea (λz=>nomatch z) h
 | @ins a C dx fs ea' cl ha hn htk hm=>
  cases(show u=Xs a from rx);obtain⟨mA,O,_⟩:=WQ I.hok ea';obtain⟨od,J,_⟩:=O.look;exact ZG (PySem.W.kitx_own (cl.get _) cl.hd ha hn htk hm) I.kIn J htp ea (λz=>nomatch z) h
theorem Zf4:CallR X (.builtin "isinstance") (fun xs H Q=>∃x a c d t b b',xs=[x,.ref a]/\H a=some (.tup [.ty c,.ty d])/\TyOf X.K H x t/\V1 X.K t (.type c)=some b/\V1 X.K t (.type d)=some b'/\Q (.bl (b||b')) H):=by
 intro pins s σ H xs us Q I r h;obtain⟨x,a,c,d,t,b,b',rfl,ha,ty,e,e',q⟩:=h;obtain⟨u,w',rfl,ru,rw'⟩:=W6 r;cases rw';obtain⟨its,rv,p,_⟩:=I.tuple (SqT.of (K:=X.K) ha);obtain⟨⟨cls,dd,data,sl⟩,ho,hc,n,hd⟩:=id p;simp only at hc hd;subst hc hd;cases rv with
 |cons r1 r2=>
  cases r2 with
  |cons r3 r4=>
   cases r4;cases r1;cases r3;exact Zhk I ru ty e e' ho λtk=>⟨.bl (b||b'),H,I.tok tk,rfl,q⟩
end
section
variable{X:Cx}
end
theorem Zdq:Vx (.type "tuple") "keys"=pure none:=by rw[Vz,VA];kernel_rfl
theorem Zdr:Vx (.type "tuple") "__getattr__"=pure none:=by rw[Vz,VA];kernel_rfl
section
variable{prog:Xk}{w:Xh}{A:Xt}{E:X0->X1->Prop}{h:Heap}{g:Array Uc}{d:Drawn}{t:Nat}{os:OsState}{a:Addr}{its:Array X0}{n:Nat}{sl:Array (Option X0)}
theorem ZfG{tk:Tok}{Q:Fin->X1->Prop}(hx:h.get? a=some (⟨.type "tuple",none,.seq its n,sl⟩))(hh:A.handled=none)
  (hE:∀e h' t',(∀b o,h.get? b=some o->h'.get? b=some o)->(∃o,h'.get? e=some o/\o.cls=.type "AttributeError")->E (.ref e) ⟨h',g,d,t',os⟩):
  X3 (X6 prog w) A (Builtin.«object.__getattribute__» ⟨[.ref a,.str "keys" tk],[]⟩) Q E ⟨h,g,d,t,os⟩:=by
 have hT:(⟨h,g,d,t,os⟩:X1).TypeIs (.ref a) "tuple":=⟨_,hx,rfl⟩;have f4:=Zdq;unfold Builtin.«object.__getattribute__»
 repeat (any_goals (first|assumption|wp_step))
 have hmsg:¬(Yj (toString "'"++toString ((VZ "tuple").elim "tuple" fun x=>x.tpName)++toString "' object has no attribute '")++Yj "keys"++Yj "'").length>sizeLine:=by decide+kernel
 generalize(Yj (toString "'"++toString ((VZ "tuple").elim "tuple" fun x=>x.tpName)++toString "' object has no attribute '")++Yj "keys"++Yj "'")=msg at hmsg ⊢;unfold raiseAttrError;refine X2 ?_;unfold mkStr;rw[if_neg hmsg]
 repeat (any_goals (first|assumption|wp_step))
 show X3 _ _ (isSubtype (.type "AttributeError") (.type "AttributeError")) _ _ _;rw[Wa];generalize(if((VZ "AttributeError").elim false fun t=>t.mro.contains "StopIteration"||t.mro.contains "SystemExit")=true then [XJ msg t].headD Xz else Xz)=fm;refine X8 ?_;simp only[VO,Yl,if_false];have hoE:((h.push {cls:=XH "tuple",data:=Z0 #[XJ msg t]}).push {cls:=XH "AttributeError",data:=ZX (#[Xs h.objs.size,Xz,Xz,Xz,Ye false,fm]++YZ (XH "AttributeError") [XJ msg t])}).get? (h.push {cls:=XH "tuple",data:=Z0 #[XJ msg t]}).objs.size=some {cls:=XH "AttributeError",data:=ZX (#[Xs h.objs.size,Xz,Xz,Xz,Ye false,fm]++YZ (XH "AttributeError") [XJ msg t])}:=XS _ rfl;have e6:(#[Xs h.objs.size,Xz,Xz,Xz,Ye false,fm]++YZ (XH "AttributeError") [XJ msg t])[6]?=some (.int 0 0):=rfl;have e7:(#[Xs h.objs.size,Xz,Xz,Xz,Ye false,fm]++YZ (XH "AttributeError") [XJ msg t])[7]?=some (.int 0 0):=rfl;have old:∀b o,h.get? b=some o->((h.push {cls:=XH "tuple",data:=Z0 #[XJ msg t]}).push {cls:=XH "AttributeError",data:=ZX (#[Xs h.objs.size,Xz,Xz,Xz,Ye false,fm]++YZ (XH "AttributeError") [XJ msg t])}).get? b=some o/\b<(h.push {cls:=XH "tuple",data:=Z0 #[XJ msg t]}).objs.size:=fun b o e=>
  ⟨Xu _ (Xu _ e),by rw[ZH];exact V3 (XA e)⟩
 generalize(h.push {cls:=XH "tuple",data:=Z0 #[XJ msg t]}).objs.size=ea at*;generalize((h.push {cls:=XH "tuple",data:=Z0 #[XJ msg t]}).push {cls:=XH "AttributeError",data:=ZX (#[Xs h.objs.size,Xz,Xz,Xz,Ye false,fm]++YZ (XH "AttributeError") [XJ msg t])})=h2 at*;generalize hvs:#[Xs h.objs.size,Xz,Xz,Xz,Ye false,fm]++YZ (XH "AttributeError") [XJ msg t]=vs at*;refine X2 (Vv hoE ?_);dsimp only;rw[e6,e7];simp only[VP,Yl,if_false];rw[if_neg (by decide)]
 refine X8 ?_;simp only[if_true];have hT2:(⟨h2,g,d,t+1+1,os⟩:X1).TypeIs (.ref ea) "AttributeError":=⟨_,hoE,rfl⟩;refine X2 (UA ?_);refine X2 (ZR hT2 ?_);dsimp only;unfold layMembers;refine X2 (Vv hoE ?_);dsimp only;refine wpAny_update hoE ?_;unfold raiseNew;refine X2 (wpAny_handled ?_);rw[hh];show X3 _ _ (throw (Xs ea)) _ _ _;have hup:=V2 (Eb fun vs=>vs.extract 0 6++#[XJ (Yj "keys") (t+1),Xs a]) hoE (E9 (Cq rfl _));refine wpAny_throw (hE ea _ _ (λb o e=>?_) ⟨_,hup,Ea ..⟩);have:=old b o e;exact(VN _ _ (V5 this.2)).trans this.1
theorem ZkK{tk:Tok}{Q:X0->X1->Prop}(hx:h.get? a=some (⟨.type "tuple",none,.seq its n,sl⟩))(hh:A.handled=none)
  (hE:∀e h' t',(∀b o,h.get? b=some o->h'.get? b=some o)->(∃o,h'.get? e=some o/\o.cls=.type "AttributeError")->E (.ref e) ⟨h',g,d,t',os⟩):
  X3 (X6 prog w) A (getAttrBy (.ref a) (.str "keys" tk) false) Q E ⟨h,g,d,t,os⟩:=by
 have hT:(⟨h,g,d,t,os⟩:X1).TypeIs (.ref a) "tuple":=⟨_,hx,rfl⟩;have f2:=Cl.lookup;have f3:=Cl.bind (.ref a)
 repeat (any_goals (first|assumption|wp_step))
 refine Wv Cl.plain F.entry_tuple_ga (Cl.check _ _ _ _ _ _ _ _ hT (F.args_tuple_getattribute_2 _ _) (ZfG hx (by simp[hh]) λe h' t' k ho=>?_))
 have hTe:(⟨h',g,d,t',os⟩:X1).TypeIs (.ref e) "AttributeError":=ho;show X3 _ _ (BM _ _ _ _ _ _ _) _ _ _;unfold BM;refine X2 (Uz hTe Wa ?_);simp only[if_true];unfold hookBehind onTheHeap;simp only[Yl,if_false];rw[Zdr];refine X2 (X8 ?_);unfold hookOrError attributeErrorLeaves;simp only[C3,if_true];exact X2 (wpAny_throw (hE e h' t' k ho))
theorem Zhi{Q:Option X0->X1->Prop}{s:X1}(hx:s.heap.get? a=some (⟨.type "tuple",none,.seq its n,sl⟩))(hh:A.handled=none)
  (hQ:∀h' t',(∀b o,s.heap.get? b=some o->h'.get? b=some o)->Q none {s with heap:=h',toks:=t'}):X3 (X6 prog w) A (getAttr? (.ref a) "keys") Q E s:=by
 obtain⟨h,g,d,t,os⟩:=s;unfold getAttr? getAttrBy? mkText;refine X2 (X2 (wpAny_fresh (X8 ?_)));refine X2 (wpAny_attempt (ZkK hx hh λe h' t' k ho=>?_));have hTe:(⟨h',g,d,t',os⟩:X1).TypeIs (.ref e) "AttributeError":=ho;refine X2 (Uz hTe Wa ?_);simp only[if_true];exact X8 (hQ h' t' k)
end
section
variable{prog:Xk}{w:Xh}{A:Xt}{E:X0->X1->Prop}{s:X1}{K:Type} [DecidableEq K] {knd:KeyKind prog w K}
theorem ZhD{l:Addr}{items:Array X0}{nl:Nat}{sl:Array (Option X0)}{ks:Nat->K}{vs:Nat->X0}{Q:X0->X1->Prop}(hh:A.handled=none)(hl:s.heap.get? l=some (⟨.type "tuple",none,.seq items nl,sl⟩))(hn:items.size≤sizeLine)
  (ht:∀(j:Nat) v,items[j]?=some v->∃q uk np oq,v=.ref q/\s.heap.get? q=some oq/\oq.cls=.type "tuple"/\oq.data=.seq #[uk,vs j] np/\knd.is (ks j) uk=true)
  (h:∀h' tk,h'.DictOf knd s.heap.objs.size (stTo ks vs items.size)->(∀b o,b<s.heap.objs.size->s.heap.get? b=some o->h'.get? b=some o)->Q (.ref s.heap.objs.size) {s with heap:=h',toks:=tk}):
  X3 (X6 prog w) A (call (.type "dict") [.ref l]) Q E s:=by
 refine callType_codes (Q₁:=fun obj s₁=>obj=.ref s.heap.objs.size/\s₁={s with heap:=s.heap.push {cls:=.type "dict",data:=.dict #[]} }) F.kt_called_dict (F.kt_typeCall_dict_1 _) F.entry_dict_init (kt_code_dict_new _ ⟨rfl,rfl⟩) ?_;rintro obj s₁ ⟨rfl,rfl⟩;have hnew:(s.heap.push {cls:=.type "dict",data:=.dict #[]}).DictOf knd s.heap.objs.size []:=HW s.heap;have hl':(s.heap.push {cls:=.type "dict",data:=.dict #[]}).get? l=some (⟨.type "tuple",none,.seq items nl,sl⟩):=Xu _ hl;have hT:WO {s with heap:=s.heap.push {cls:=.type "dict",data:=.dict #[]} } (.ref l) "tuple":=⟨_,hl',rfl⟩;refine⟨hnew.typeIs,F.args_dict_init_2 _ _,?_⟩;unfold Builtin.«dict.__init__»;refine X2 ?_;unfold Ht;refine X2 (BK hnew.typeIs ?_);show X3 _ _ (pure (s.heap.objs.size,[Xs l])) _ _ _;refine X8 ?_;show X3 _ _ (Ck "dict.__init__" s.heap.objs.size (.ref l) [] .none) _ _ _;unfold Ck;refine X2 (ZR hT ?_);rw[if_pos (by decide)]
 refine X2 (Zhi (s:={s with heap:=s.heap.push {cls:=.type "dict",data:=.dict #[]} }) hl' (by simp[hh]) fun h1 t1 hk1=>?_)
 simp only[Option.isNone_none,if_true];refine X2 (UA ?_);have hl1:h1.get? l=some (⟨.type "tuple",none,.seq items nl,sl⟩):=hk1 _ _ hl';have hL1:h1.IsTuple l items:=⟨_,hl1,rfl,nl,rfl⟩;have hlS:l<s.heap.objs.size:=XA hl;have hbig:s.heap.objs.size<h1.objs.size:=by
  obtain⟨o,es,ep,ho,_⟩:=hnew;exact XA (hk1 _ _ ho)
 refine X2 (wpAny_pyIter_tuple (s:={s with heap:=h1,toks:=t1}) hL1 ?_);have hneI:l≠h1.objs.size:=XG (V6 hlS hbig);refine X8 ⟨ZC A3 _,?_⟩;refine Jo (knd:=knd) (n:=items.size) ((Walks.tuple (A:=A.in1.in1) (by simp[hh]) h1.objs.size l hneI items).toS) s.heap.objs.size ?_ ks vs hn items.size 0 _ rfl (YO _)
  ⟨⟨_,XS _ rfl,rfl,rfl⟩,hL1.push _⟩ ?_ ?_ ?_
 ·simp only[Xr,XR,or_false,not_or];exact⟨XG hbig,V5 hlS⟩
 ·obtain⟨o,es,ep,ho,r⟩:=hnew;exact⟨o,es,ep,Xu _ (hk1 _ _ ho),r⟩
 ·intro j v hv;obtain⟨q,uk,np,oq,rfl,a1,a2⟩:=ht j v hv;have hqS:q<s.heap.objs.size:=XA a1;refine⟨q,uk,np,oq,rfl,XG hqS,?_,Xu _ (hk1 _ _ (Xu _ a1)),a2⟩;simp only[Ya];exact XG (V6 hqS hbig)
 ·intro s' hm hd;obtain⟨h',g',d',tk',os'⟩:=s';have eg:g'=s.gens:=hm.gens;have ed:d'=s.drawn:=hm.drawn;have eo:os'=s.os:=hm.os;subst eg;subst ed;subst eo;refine⟨rfl,h h' tk' hd λb o hb e=>?_⟩;refine hm.heap b o ?_ (Xu _ (hk1 _ _ (Xu _ e)));simp only[Xr,XR,or_false,not_or];exact⟨XG hb,XG (V6 hb hbig)⟩
end
section
variable{X:Cx}
theorem Zg6(hcalm:X.calm=true):CallR X (.type "dict") (fun xs H Q=>∃(a:Addr) (ps:List (Key×V)) (qs:List V),xs=[.ref a]/\H a=some (.tup qs)/\Ex H ps qs/\∀p,H p=none->Q (.ref p) (upd H p (.dK (U4 ps)))):=by
 intro pins s σ H xs us Q I r h;obtain⟨a,ps,qs,rfl,ha,hp,q⟩:=h;obtain⟨u,rfl,ru⟩:=Z1 r;cases ru;obtain⟨hz,its,rv,⟨ol,hl,hlc,nl,hld⟩,ol2,hl2,hdn⟩:=(show ObjOk X.prog X.w H s.heap a (.tup qs)from I.hok a _ ha);have hh:=I.ok.hd hcalm;rw[hl]at hl2;cases hl2;obtain⟨lc,ldc,ld,lsl⟩:=ol;cases hlc;cases hld;cases hdn;have hlen:its.length=ps.length:=by rw[<- rv.length,hp.length]
 have hpair:∀(j:Nat) v,its.toArray[j]?=some v->∃q uk uv np oq,v=.ref q/\s.heap.get? q=some oq/\oq.cls=.type "tuple"/\oq.data=.seq #[uk,uv] np/\∃p,ps[j]?=some p/\RelV (kV p.1) uk/\RelV p.2 uv:=fun j v hv=>by
  have hv':its[j]?=some v:=by simpa using hv
  obtain⟨y,hy,ry⟩:=Paired.at rv j v hv';obtain⟨p,hpj,q,rfl,hq⟩:=Paired.at hp j y hy;cases ry;obtain⟨_,ts,rt,ht⟩:=(show ObjOk X.prog X.w H s.heap q (.tup [kV p.1,p.2])from I.hok q _ hq);obtain⟨uk,uv,rfl,r1,r2⟩:=W6 rt;obtain⟨oq,ho,hc,n,hd⟩:=ht.1;exact⟨q,uk,uv,n,oq,rfl,ho,hc,hd,p,hpj,r1,r2⟩
 obtain⟨vs,hvs⟩:∃vs:Nat->X0,∀(j:Nat) v,its.toArray[j]?=some v->∃q uk np oq,v=.ref q/\s.heap.get? q=some oq/\oq.cls=.type "tuple"/\oq.data=.seq #[uk,vs j] np/\∃p,ps[j]?=some p/\RelV (kV p.1) uk/\RelV p.2 (vs j):=by
  refine⟨λj=>if h:j<its.length then(hpair j its[j] (by simp[h])).choose_spec.choose_spec.choose else .none,λj v hv=>?_⟩
  have hv':its[j]?=some v:=by simpa using hv
  obtain⟨hj,rfl⟩:=XV.mp hv';dsimp only;rw[dif_pos hj];have z:=(hpair j its[j] (by simp[hj]))
  exact⟨z.choose,z.choose_spec.choose,z.choose_spec.choose_spec.choose_spec⟩
 refine ZhD (knd:=Yw X.prog X.w) (ks:=λj=>(ps.getD j (.inl 0,.non)).1) (vs:=vs) hh hl (by simpa [<- rv.length]using hz) (λj v hv=>?_) λh' tk hd hk=>?_
 ·obtain⟨q,uk,np,oq,e1,e2,e3,e4,p,hpj,r1,r2⟩:=hvs j v hv;refine⟨q,uk,np,oq,e1,e2,e3,e4,Vf ?_⟩;rw[Yr,hpj];exact r1
 have kv:∀i,i≤ps.length->KV ((ps.take i).foldl (λc z=>putK c z.1 z.2) []) (stTo (λj=>(ps.getD j (.inl 0,.non)).1) vs i):=by
  intro i
  induction i with
  |zero=>intro _;exact .nil
  |succ i ih=>
   intro hi;have hlt:i<its.length:=by lia
   obtain⟨q,uk,np,oq,e1,e2,e3,e4,p,hpj,r1,r2⟩:=hvs i its[i] (by simp[hlt])
   rw[Ui,hpj,Ee,DL];show KV (putK _ p.1 p.2) (stored _ (ps.getD i (.inl 0,.non)).1 _);have ek:(ps.getD i (.inl 0,.non)).1=p.1:=by rw[Yr,hpj];rfl
   rw[ek];exact(ih (by lia)).put p.1 r2
 have kvn:=kv ps.length (Xi _);rw[DO]at kvn;have hsz:its.toArray.size=ps.length:=by simp[hlen]
 rw[hsz]at hd;have hpl:ps.length≤sizeLine:=by rw[hp.length];exact hz
 have zl:(U4 ps).length≤sizeLine:=by
  have:=kvn.length;have l2:=CI (λj=>(ps.getD j (.inl 0,.non)).1) vs ps.length;unfold U4;lia
 exact⟨.ref s.heap.objs.size,_,I.laid (a:=s.heap.objs.size) (o:=.dK (U4 ps)) (t':=tk) (λb u e=>hk b u (XA e) e) (Xi _) (CB zl (beq_eq_false_iff_ne.mpr (XU (XG I.big))) kvn hd),rfl,q _ (I.hok.fresh (Xi _))⟩
end
def cutS(x:Str)(lo hi:Option Int):Str:=⟨((x.cps.toList.drop (HT.sIx x.cps.toList.length 0 lo)).take (HT.sIx x.cps.toList.length x.cps.toList.length hi - HT.sIx x.cps.toList.length 0 lo)).toArray⟩
theorem Zl3(x:Str)(lo hi:Option Int):(cutS x lo hi).length≤x.length:=by
 unfold cutS Cd;simp only[XW,YM,WC,Y3];lia
theorem Zfk(x:Str)(lo hi:Option Int):((Ch lo hi 1 x.length).filterMap (x.cps[·]?)).toArray=(cutS x lo hi).cps:=by
 obtain⟨h1,h2,h3⟩:=Em lo hi x.length;have e:Ch lo hi 1 x.length=sliceRange (Z4 lo hi none x.length).1 (Z4 lo hi none x.length).2.1 (Z4 lo hi none x.length).2.2:=rfl;have el:x.cps.toList.length=x.length:=by simp[Cd]
 rw[e,h1,h2,h3,sliceRange_one,pick_run];unfold cutS;rw[el]
theorem Zht{x:Str}{lo hi:Option Int}(h:(Ch lo hi 1 x.length).length=x.length):cutS x lo hi=x:=by
 obtain⟨h1,h2,h3⟩:=Em lo hi x.length;have e:Ch lo hi 1 x.length=sliceRange (Z4 lo hi none x.length).1 (Z4 lo hi none x.length).2.1 (Z4 lo hi none x.length).2.2:=rfl;have el:x.cps.toList.length=x.length:=by simp[Cd]
 rw[e,h1,h2,h3,sliceRange_one,Xa,UC]at h;unfold cutS;rw[el];have hb:HT.sIx x.length x.length hi≤x.length:=by
  unfold HT.sIx;cases hi with
  |none=>exact Xi _
  |some i=>dsimp only;split<;>lia
 obtain⟨cps⟩:=x;congr 1;have e0:∀(n a b:Nat),b≤n->b - a=n->n=0\/a=0:=by lia
 rcases e0 _ _ _ hb h with z|z
 ·have:cps.toList=[]:=by
   rw[<- BO];rw[Y3];exact z
  simp[this];have:cps=#[]:=by apply Array.toList_inj.mp;simpa using this
  rw[this]
 ·rw[h,z,DT,VC (by rw[Y3];exact Xi _)]
section
variable{X:Cx}
def rSlS:V->Option Int->Option Int->Hp->VK->Prop:=λx lo hi H Q=>∃z:Str,x=.str z/\z.length≤sizeLine/\Q (.str (cutS z lo hi)) H
theorem Jr{v:X0}{o:Option Int}(h:IsPart v o):∃l:Option (Int×Tok),v=partValue l/\l.map (·.1)=o:=by
 cases h with
 |none=>exact⟨none,rfl,rfl⟩
 |int i t=>exact⟨some (i,t),rfl,rfl⟩
theorem Zov:SlR X rSlS:=by
 intro pins s σ H x v vl vu lo hi sl Q I rx hs pl pu h;obtain⟨z,rfl,hz,q⟩:=h;obtain⟨t,rfl⟩:=rx;obtain⟨l,rfl,rfl⟩:=Jr pl;obtain⟨u,rfl,rfl⟩:=Jr pu;refine⟨"str",_,slot_str_getitem.lookup,typeIs_str s z t,?_⟩;refine wpAny_getItem_str_slice (l:=l) (u:=u) (st:=none) hs rfl ?_;unfold sliceMade;by_cases hc:(((none:Option (Int×Tok)).map (·.1)).getD 1==1&&(slicePicked z l u none).length==z.length)=true
 ·rw[if_pos hc];have e:cutS z (l.map (·.1)) (u.map (·.1))=z:=by
   refine Zht ?_;rw[Y2]at hc;exact eq_of_beq hc.2
  rw[e]at q;exact⟨.str z,H,I,⟨_,rfl⟩,q⟩
 ·rw[if_neg hc];have e:(⟨((slicePicked z l u none).filterMap (z.cps[·]?)).toArray⟩:Str)=cutS z (l.map (·.1)) (u.map (·.1)):=by
   have:=Zfk z (l.map (·.1)) (u.map (·.1));unfold slicePicked;rw[show((none:Option (Int×Tok)).map (·.1)).getD 1=(1:Int)from rfl,this]
  rw[e];exact⟨Y8 (Zl3 _ _ _) hz,.str _,H,I.tok _,⟨_,rfl⟩,q⟩
end
theorem Js:∀{xs:List V} {vs:List X0},xs.length=vs.length->(∀(j:Nat) x v,xs[j]?=some x->vs[j]?=some v->RelV x v)->Vals xs vs
 |[],[],_,_=>.nil
 |[],_::_,h,_=>by cases h
 |_::_,[],h,_=>by cases h
 |x::xs,v::vs,h,r=>.cons (r 0 x v rfl rfl) (Js (by simpa using h) λj a b ha hb=>r (j+1) a b (by simpa using ha) (by simpa using hb))
theorem ZfM{acc:Array X0}{n:Nat}(h:ItemsOf (λi v=>∃t,v=.int (0+i*1) t) acc n):Vals ((Xx n).map λi=>V.int (i:Nat)) acc.toList:=by
 refine Js (by rw[Xa,UC,Y3];exact h.1.symm) λj x v hx hv=>?_
 obtain⟨t,rfl⟩:=h.2 j v (by simpa using hv)
 rw[Xw]at hx;cases e:(Xx n)[j]? with
 |none=>rw[e]at hx;cases hx
 |some k=>
  rw[e]at hx;have hk:k=j:=by
   have:=XV.mp e;obtain⟨_,z⟩:=this
   simpa using z.symm
  subst hk;cases hx;exact⟨t,by rw[WL,Int.mul_one]⟩
section
variable{X:Cx}{tg:Expr}
theorem Zjz(hcalm:X.calm=true):A0 X (.type "list") (.type "range") (fun x H Q=>∃n:Nat,x=.int n/\n≤1000000/\∀p,H p=none->Q (.ref p) (upd H p (.lst ((Xx n).map fun i=>V.int (i:Nat))))):=by
 intro pins s σ H x u Q I rx h;obtain⟨n,rfl,hn,q⟩:=h;obtain⟨t,rfl⟩:=rx;refine call_range_1 ?_;have hl:((Xx n).map λi=>V.int (i:Nat)).length≤sizeLine:=by rw[Xa,UC];exact Y8 hn (by decide)
 have hh:=I.ok.hd hcalm;refine call_list_range (n:=n) hh (Eg ..) ?_ ?_ (by lia) λh' tk acc' c' kp e it=>?_
 ·exact small_one (by decide) (by decide) (by lia) (by lia)
 ·rw[rangeSize_one];split<;>lia
 have I1:=I.kept (h':=s.heap.push {cls:=.type "range",data:=.fields #[.int 0 s.toks,.int (n:Int) t,.int 1 (s.toks+1)]}) (t':=s.toks+1+1) fun b o e=>Xu _ e;exact⟨.ref _,_,I1.laid (t':=tk) kp (Xi _) (show ObjOk X.prog X.w _ h' _ (.lst ((Xx n).map λi=>V.int (i:Nat)))from⟨hl,acc'.toList,c',ZfM it,by simpa using e⟩),rfl,q _ (I1.hok.fresh (Xi _))⟩
theorem Zis{x y:Str}{id T:String}{r:V->Hp->VK->Prop}{e:Expr}{t:TE}{p p' pos pos':Pos}(hc:A0 X (.type id) (.type T) r)
  (hg:Gl X x) (hm:X.mg x=none) (hv:YE x=some (.type id)) (hg':Gl X y) (hm':X.mg y=none) (hv':YE y=some (.type T)) (ha:PE X e t)
  (hn:x≠"__name__") (hdb:(x==("__debug__":Str))=false) (hn':y≠"__name__") (hdb':(y==("__debug__":Str))=false)
  (he:XB [e] X.env=(false,eval e X.env)::XB [] X.env):
  PE X (.Call (.Name x p) [.Call (.Name y p') [e] [] pos'] [] pos) (λσ H Q=>t σ H λv H1=>r v H1 Q):=by
 intro pins s σ H Q I h;refine Uy (ZZ I hg hm hv ?_ hn hdb);refine Va ?_ rfl rfl;show X3 _ _ (spliced ((false,eval (.Call (.Name y p') [e] [] pos') X.env)::Y4 pos (XB [] X.env))) _ _ s;refine WM ?_;refine Uy (ZZ I hg' hm' hv' ?_ hn' hdb');refine Va ?_ he rfl;rw[he];show X3 _ _ (spliced ((false,eval e X.env)::Y4 pos' (XB [] X.env))) _ _ s;refine WM (thn (ha pins s σ H _ I h) λu s1 ⟨v,H1,I1,r1,q1⟩=>?_);refine WN ?_;exact thn (hc pins s1 σ H1 v u Q I1 r1 q1) λu2 s2 q2=>WN q2
def Itrs(lo st:Int)(n:Nat):It:=⟨λi _=>i<n,λi H x H'=>H'=H/\x=.int (lo+i*st),λi _=>n≤i⟩
theorem Zfi{P:Xk}{w:Xh}{K:X5}{tg:Expr}(it:Addr)(lo sp:Int)(n:Nat):Turn P w K tg (Itrs lo sp n) [it] it (λi h=>IsRangeIter h it (lo+(i:Nat)*sp) ((n:Int) - (i:Nat)) sp)where
 mem:=by simp
 obj:=λi h st b hb=>by
  have e:b=it:=by simpa using hb
  subst e;exact⟨_,st,λv z=>by
   have z':ZX _=Data.cell v:=z;cases z'⟩
 keep:=λi h h' st k=>k it (by simp) _ st
 item:=by
  intro X hP hw hK hc i pins s σ H E I hf st hg;subst hP hw hK;obtain⟨f0,f1,f2,f3,f4,f5⟩:=hf it (by simp)
  have W:=Walks.range (prog:=X.prog) (w:=X.w) (I.ok.hd hc) it lo sp n;refine W.item i s _ _ hg st λv h' tk hv st' kk=>?_;obtain⟨t,rfl⟩:=hv;have I1:Inv X pins σ H {s with heap:=h',toks:=tk}:=I.turned (λb o hb e=>kk b o (by simpa using hb) e) f0 f1 f3 f4 f5
  exact⟨_,rfl,Vd (s:={s with heap:=h',toks:=tk}) (n:="range_iterator") st' rfl rfl (by decide) ⟨.int (lo+i*sp),H,I1,⟨t,rfl⟩,⟨rfl,rfl⟩,st',fun b hb=>(hf b hb).1⟩⟩
 done:=by
  intro X hP hw hK hc i pins s σ H E I hf st hg;subst hP hw hK;obtain⟨f0,f1,f2,f3,f4,f5⟩:=hf it (by simp)
  exact wpAny_pyNext_range_end (I.ok.hd hc) st (by have:n≤i:=hg;lia) λh' eb=>⟨rfl,I.turned (t':=s.toks) (λb o hb e=>eb b o hb e) f0 f1 f3 f4 f5⟩
 self:=λ_ _ _ _ _ st h=>wpAny_pyIter_rangeiter st h
def len2(lo hi:Int):Nat:=(VX lo hi 2).toNat
theorem Zqr(lo hi:Int):((len2 lo hi:Nat):Int)=VX lo hi 2:=by
 unfold len2 VX;simp only[show(2:Int)>0 by decide,if_true]
 split<;>lia
theorem Zi1{a b:Int}(ha:0≤a)(ha':a<2^60)(hb:0≤b)(hb':b<2^60):Hk a b 2=true:=by
 unfold Hk VX;simp only[Builtin.Range.rangeFitsLong,Y2,C1,decide_eq_true_eq,beq_iff_eq,show(2:Int)>0 by decide,if_true]
 split<;>lia
theorem Zif{pins:List (Addr×Obj)}{σ:St}{H:Hp}{s:X1}{R:It->Hp->Prop}{E:X0->X1->Prop}{lo hi:Int}{t u v:Tok}{tk:Nat}(I:Inv X pins σ H s)(h1:0≤lo)(h2:lo<2^60)(h3:0≤hi)(h4:hi<2^60)
  (q:R (Itrs lo 2 (len2 lo hi)) H):X3 (X6 X.prog X.w) X.A (pyIter (.ref s.heap.objs.size)) (PIE X pins σ tg R) E {s with heap:=s.heap.push {cls:=.type "range",data:=.fields #[.int lo t,.int hi u,.int 2 v]},toks:=tk}:=by
 refine wpAny_pyIter_range (Eg ..) (Zi1 h1 h2 h3 h4) ?_;have I1:Inv X pins σ H {s with heap:=s.heap.push {cls:=.type "range",data:=.fields #[.int lo t,.int hi u,.int 2 v]},toks:=tk}:=I.kept fun b o e=>Xu _ e;refine⟨(s.heap.push {cls:=.type "range",data:=.fields #[.int lo t,.int hi u,.int 2 v]}).objs.size,[(s.heap.push {cls:=.type "range",data:=.fields #[.int lo t,.int hi u,.int 2 v]}).objs.size],_,_,H,rfl,
  I1.kept (t':=tk) λb o e=>Xu _ e,Zfi _ lo 2 (len2 lo hi),?_,λb hb=>?_,q⟩
 ·have e1:lo+((0:Nat):Int)*2=lo:=by simp
  have e2:((len2 lo hi:Nat):Int) - ((0:Nat):Int)=VX lo hi 2:=by rw[Zqr];simp
  show IsRangeIter _ _ (lo+((0:Nat):Int)*2) (((len2 lo hi:Nat):Int) - ((0:Nat):Int)) 2;rw[e1,e2];exact XS _ rfl
 ·have e:b=(s.heap.push {cls:=.type "range",data:=.fields #[.int lo t,.int hi u,.int 2 v]}).objs.size:=by simpa using hb
  subst e;exact I1.fpOk (Xi _) (I1.hok.fresh (Xi _))
def Zrz(ta:TA):TI:=λσ H R=>ta σ H λvs H1=>∃i j:Int,vs=[.int i,.int j,.int 2]/\(0≤i/\i<2^60/\0≤j/\j<2^60)/\R (Itrs i 2 (len2 i j)) H1
theorem Zin{a b c:Expr}{ta:TA}{p pos:Pos}(hg:Gl X "range")(hm:X.mg "range"=none)(ha:PA X [a,b,c] ta)(hs:XB [a,b,c] X.env=[(false,eval a X.env),(false,eval b X.env),(false,eval c X.env)]:=by rfl)(hs2:XB [b,c] X.env=[(false,eval b X.env),(false,eval c X.env)]:=by rfl):
  PI X tg (.Call (.Name "range" p) [a,b,c] [] pos) (Zrz ta):=by
 intro pins s σ H R I h;refine Call_ (ZZ I hg hm boot_range (Va (thn (ha pos pins s σ H _ I h) λus s1 ⟨vs,H1,I1,r1,q1⟩=>?_) (by rw[hs,hs2]) (by rw[hs2];rfl)))
 obtain⟨i,j,e,⟨q1,q2,q3,q4⟩,q⟩:=q1;subst e;cases r1 with
 |cons r rr=>
  cases rr with
  |cons r' rr=>
   cases rr with
   |cons r'' rr=>
    cases rr;obtain⟨t,rfl⟩:=r;obtain⟨t',rfl⟩:=r';obtain⟨t'',rfl⟩:=r'';exact call_range_3 (by decide) (Zif (tk:=s1.toks) I1 q1 q2 q3 q4 q) (.inl (PyProof.noPylong_small (by decide)))
end
section
variable{prog:Xk}{w:Xh}{A:Xt}{R:Result->X1->Prop}{I:Addr}{fp wr:List Addr}{n:Nat}{P:Nat->X0->Prop}{St:Nat->Heap->Prop}
end
section
variable{prog:Xk}{w:Xh}{A:Xt}{E:X0->X1->Prop}{s:X1}
end
section
variable{X:Cx}{x k:Str}{p pos kp:Pos}{e e0:Expr}{te:TE}
end
end L2
namespace HT
open PySem PySem.Spec PyProof.Rows
section
variable{prog:Xk}{w:Xh}{A:Xt}{E:X0->X1->Prop}{s:X1}
theorem tup_whole{t sl:Addr}{items:Array X0}{vl vu:X0}{lo hi:Option Int}{Q:X0->X1->Prop}(ht:IsTup s.heap t items)(hs:s.heap.IsSliceOf sl vl vu .none)(pl:IsPart vl lo)(pu:IsPart vu hi)
  (h0:sIx items.size 0 lo=0) (h1:sIx items.size items.size hi=items.size) (h:Q (.ref t) s):X3 (X6 prog w) A (getItem (.ref t) (.ref sl)) Q E s:=by
 obtain⟨os,hos,hcs,hds⟩:=id hs;have hTs:s.TypeIs (.ref sl) "slice":=⟨os,hos,hcs⟩;have hT:=ht.typeIs;unfold getItem
 try with_reducible refine YL ?_
 first|refine X2 (X8 ?_)|skip
 refine X2 (wpAny_sequenceKey hT (by decide) ?_)
 refine X2 (BG (name:=Yj "__getitem__") hT VW (Zc VW hT entry_tuple_getitem ?_ (args_tuple_getitem _ _)));show X3 _ _ (Hl (.ref t)>>= _) _ _ s;refine X2 (tupleItemsOf_ ht ?_);refine X2 (ZR hTs ?_);rw[if_pos (by decide)]
 refine X2 (IC hs pl pu ?_);rw[h0,h1];show X3 _ _ (if(((0:Nat):Int)==0&&(1:Int)==1&&(items.size - 0)==items.size)=true then _ else _) _ _ s;rw[if_pos (by simp)]
 refine X2 ?_;show X3 _ _ (Hn (.ref t)) _ _ s;unfold Hn;refine X2 (ZR hT (X8 ?_));rw[if_pos (by decide)]
 exact X2 (UA (X8 ⟨_,rfl,X8 h⟩))
end
end HT
namespace L2
open PySem PySem.Spec PyProof.Rows
section
variable{X:Cx}
def rSlW(K:X5):V->Option Int->Option Int->Hp->VK->Prop:=λx lo hi H Q=>∃a xs,x=.ref a/\SqT K H a xs/\HT.sIx xs.length 0 lo=0/\HT.sIx xs.length xs.length hi=xs.length/\Q (.ref a) H
theorem Zmk:SlR X (rSlW X.K):=by
 intro pins s σ H x v vl vu lo hi sl Q I rx hs pl pu h;obtain⟨a,xs,rfl,hx,h0,h1,q⟩:=h;cases rx;obtain⟨its,r,ht,hz⟩:=I.tuple hx;have hlen:its.toArray.size=xs.length:=by rw[XW];exact r.length.symm
 refine⟨"tuple",_,VW.lookup,ht.typeIs,?_⟩;exact HT.tup_whole ht hs pl pu (by rw[hlen];exact h0) (by rw[hlen];exact h1) ⟨.ref a,H,I,rfl,q⟩
end
def st3{α:Type}(xs:List α):List α:=(Xx ((xs.length+2)/3)).filterMap λk=>xs[3*k]?
section
variable{X:Cx}{e e3:Expr}{te:TE}{p2 pos:Pos}
end
section
variable{X:Cx}
end
inductive Ty7 where|int|bool|str|list|tuple|dict|none
  deriving DecidableEq
def Ty7.name:Ty7->String
 |.int=>"int"|.bool=>"bool"|.str=>"str"|.list=>"list"|.tuple=>"tuple"|.dict=>"dict"|.none=>"NoneType"
inductive MV where
 |non|bl (b:Bool)|int (i:Int)|str (x:Str)|tup (xs:List MV)|frl (xs:List MV)|ref (a:Addr)|ty (n:Ty7)
def Jt:HO->Bool
 |.tup _=>true
 |.frz _ (.lst _)=>true
 |_=>false
def Kp(H H':Hp):Prop:=∀a o,H a=some o->Jt o=true->H' a=some o
theorem Kp.refl(H:Hp):Kp H H:=λ_ _ h _=>h
theorem Kp.trans{H H1 H2:Hp}(a:Kp H H1)(b:Kp H1 H2):Kp H H2:=λc o h f=>b c o (a c o h f) f
theorem Kp.new{H:Hp}{p:Addr}(h:H p=none)(o:HO):Kp H (upd H p o):=λa u e _=>by rw[XL (Vc e h)];exact e
theorem Kp.upd{H:Hp}{p:Addr}{o:HO}(h:H p=some o)(f:Jt o=false)(o':HO):Kp H (upd H p o'):=λa u e g=>by
 rw[XL (HX e h (by intro z;rw[z,f]at g;cases g))];exact e
def FrL(K:X5)(H:Hp)(a:Addr)(vs:List V):Prop:=(∃o,H a=some (.frz o (.lst vs)))\/
 ∃(o:Obj) (its:Array X0) (n:Nat),K.lookup a=some o/\o.cls=.type "list"/\o.dict=none/\o.data=.seq its n/\its.size≤sizeLine/\Vals vs its.toList
theorem FrL.sq{K:X5}{H:Hp}{a:Addr}{vs:List V}(h:FrL K H a vs):SqL K H a vs:=by
 rcases h with⟨o,h⟩|h
 ·exact .inl (.inr ⟨o,h⟩)
 ·exact .inr h
mutual
inductive RM (K:X5) (H:Hp):MV->V->Prop
 |non:RM K H .non .non
 |bl (b:Bool):RM K H (.bl b) (.bl b)
 |int (i:Int):RM K H (.int i) (.int i)
 |str (x:Str):RM K H (.str x) (.str x)
 |ref (a:Addr):RM K H (.ref a) (.ref a)
 |ty (n:Ty7):RM K H (.ty n) (.ty n.name)
 |tup {a:Addr} {xs:List MV} {vs:List V}:H a=some (.tup vs)->RMs K H xs vs->RM K H (.tup xs) (.ref a)
 |frl {a:Addr} {xs:List MV} {vs:List V}:FrL K H a vs->RMs K H xs vs->RM K H (.frl xs) (.ref a)
inductive RMs (K:X5) (H:Hp):List MV->List V->Prop
 |nil:RMs K H [] []
 |cons {x:MV} {v:V} {xs:List MV} {vs:List V}:RM K H x v->RMs K H xs vs->RMs K H (x::xs) (v::vs)
end
mutual
theorem RM.mono{K:X5}{H H':Hp}(k:Kp H H'):∀{m:MV} {v:V},RM K H m v->RM K H' m v
 |_,_,.non=>.non
 |_,_,.bl b=>.bl b
 |_,_,.int i=>.int i
 |_,_,.str x=>.str x
 |_,_,.ref a=>.ref a
 |_,_,.ty n=>.ty n
 |_,_,.tup h r=>.tup (k _ _ h rfl) (RMs.mono k r)
 |_,_,.frl h r=>.frl (by
   rcases h with⟨o,h⟩|h
   ·exact .inl ⟨o,k _ _ h rfl⟩
   ·exact .inr h) (RMs.mono k r)
theorem RMs.mono{K:X5}{H H':Hp}(k:Kp H H'):∀{m:List MV} {v:List V},RMs K H m v->RMs K H' m v
 |_,_,.nil=>.nil
 |_,_,.cons a b=>.cons (RM.mono k a) (RMs.mono k b)
end
theorem RMs.length{K:X5}{H:Hp}:∀{m:List MV} {v:List V},RMs K H m v->m.length=v.length
 |_,_,.nil=>rfl
 |_,_,.cons _ b=>by rw[Yu,Yu,b.length]
theorem RMs.get{K:X5}{H:Hp}:∀{m:List MV} {v:List V} {i:Nat} {x:MV},RMs K H m v->m[i]?=some x->∃u,v[i]?=some u/\RM K H x u
 |_,_,_,_,.nil,e=>by simp at e
 |_,_,0,_,.cons r _,e=>by simp at e;subst e;exact⟨_,rfl,r⟩
 |_,_,i+1,x,.cons _ t,e=>by
  obtain⟨u,h1,h2⟩:=RMs.get (i:=i) (x:=x) t (by simpa using e)
  exact⟨u,by simpa using h1,h2⟩
theorem RMs.get'{K:X5}{H:Hp}:∀{m:List MV} {v:List V} {i:Nat} {u:V},RMs K H m v->v[i]?=some u->∃x,m[i]?=some x/\RM K H x u
 |_,_,_,_,.nil,e=>by simp at e
 |_,_,0,_,.cons r _,e=>by simp at e;subst e;exact⟨_,rfl,r⟩
 |_,_,i+1,x,.cons _ t,e=>by
  obtain⟨u,h1,h2⟩:=RMs.get' (i:=i) (u:=x) t (by simpa using e)
  exact⟨u,by simpa using h1,h2⟩
theorem RMs.append{K:X5}{H:Hp}:∀{m m':List MV} {v v':List V},RMs K H m v->RMs K H m' v'->RMs K H (m++m') (v++v')
 |_,_,_,_,.nil,s=>s
 |_,_,_,_,.cons r t,s=>.cons r (t.append s)
theorem RMs.take{K:X5}{H:Hp}:∀{m:List MV} {v:List V} (n:Nat),RMs K H m v->RMs K H (m.take n) (v.take n)
 |_,_,0,_=>.nil
 |_,_,_+1,.nil=>.nil
 |_,_,n+1,.cons r t=>.cons r (t.take n)
theorem RMs.drop{K:X5}{H:Hp}:∀{m:List MV} {v:List V} (n:Nat),RMs K H m v->RMs K H (m.drop n) (v.drop n)
 |_,_,0,r=>r
 |_,_,_+1,.nil=>.nil
 |_,_,n+1,.cons _ t=>t.drop n
theorem RMs.set{K:X5}{H:Hp}{x:MV}{u:V}(r:RM K H x u):∀{m:List MV} {v:List V} (i:Nat),RMs K H m v->RMs K H (m.set i x) (v.set i u)
 |_,_,_,.nil=>.nil
 |_,_,0,.cons _ t=>.cons r t
 |_,_,i+1,.cons q t=>.cons q (t.set r i)
theorem RMs.ints{K:X5}{H:Hp}:∀ns:List Int,RMs K H (ns.map MV.int) (ns.map V.int)
 |[]=>.nil
 |n::r=>.cons (.int n) (RMs.ints r)
theorem RMs.ints_of{K:X5}{H:Hp}:∀{ns:List Int} {vs:List V},RMs K H (ns.map MV.int) vs->vs=ns.map V.int
 |[],_,.nil=>rfl
 |n::r,_,.cons (.int _) t=>by rw[t.ints_of];rfl
inductive MO where
 |lst (xs:List MV)|dic (kvs:List (Key×MV))|ins (c:Str) (fs:List (Str×MV))
 |fdic (o:Obj) (kvs:List (Key×MV))
abbrev MH:=Addr->Option MO
def updM(M:MH)(a:Addr)(o:MO):MH:=λb=>if b=a then some o else M b
theorem X9{M:MH}{a:Addr}{o:MO}:updM M a o a=some o:=by unfold updM;rw[if_pos rfl]
theorem Xc{M:MH}{a b:Addr}{o:MO}(h:b≠a):updM M a o b=M b:=by unfold updM;rw[if_neg h]
theorem YJ{M:MH}{a:Addr}{o u:MO}:updM (updM M a o) a u=updM M a u:=by funext b;unfold updM;split<;>rfl
inductive RKs {κ:Type} (K:X5) (H:Hp):List (κ×MV)->List (κ×V)->Prop
 |nil:RKs K H [] []
 |cons {k:κ} {x:MV} {v:V} {xs:List (κ×MV)} {vs:List (κ×V)}:RM K H x v->RKs K H xs vs->RKs K H ((k,x)::xs) ((k,v)::vs)
theorem RKs.mono{κ:Type}{K:X5}{H H':Hp}(k:Kp H H'):∀{m:List (κ×MV)} {v:List (κ×V)},RKs K H m v->RKs K H' m v
 |_,_,.nil=>.nil
 |_,_,.cons a b=>.cons (a.mono k) (b.mono k)
theorem RKs.length{κ:Type}{K:X5}{H:Hp}:∀{m:List (κ×MV)} {v:List (κ×V)},RKs K H m v->m.length=v.length
 |_,_,.nil=>rfl
 |_,_,.cons _ b=>by rw[Yu,Yu,b.length]
section
variable{κ:Type} [DecidableEq κ]
def valM(kvs:List (κ×MV))(k:κ):Option MV:=match kvs with
 |[]=>none
 |(j,v)::r=>if j=k then some v else valM r k
def putM(kvs:List (κ×MV))(k:κ)(v:MV):List (κ×MV):=match kvs with
 |[]=>[(k,v)]
 |(j,u)::r=>if j=k then(j,v)::r else(j,u)::putM r k v
end
def RO(K:X5)(H:Hp):MO->HO->Prop
 |.lst xs,.lst vs=>RMs K H xs vs
 |.dic kvs,.dK vs=>RKs K H kvs vs/\(kvs.map (·.1)).Nodup
 |.ins c fs,.ins C _ vs=>XF K Xv c=some (some (.ref C))/\RKs K H fs vs
 |.fdic o kvs,.frz o' (.dK vs)=>o=o'/\RKs K H kvs vs/\(kvs.map (·.1)).Nodup
 |_,_=>False
theorem RO.mono{K:X5}{H H':Hp}(k:Kp H H'){o:MO}{u:HO}(h:RO K H o u):RO K H' o u:=by
 cases o with
 |lst xs=>cases u<;>first|exact RMs.mono k h|exact h.elim
 |dic kvs=>cases u<;>first|exact⟨h.1.mono k,h.2⟩|exact h.elim
 |ins c fs=>cases u<;>first|exact⟨h.1,h.2.mono k⟩|exact h.elim
 |fdic ob kvs=>
  cases u with
  |frz o' u=>cases u<;>first|exact⟨h.1,h.2.1.mono k,h.2.2⟩|exact h.elim
  |_=>exact h.elim
def RH(K:X5)(M:MH)(H:Hp):Prop:=∀a o,M a=some o->∃u,H a=some u/\RO K H o u
theorem RH.free{K:X5}{M:MH}{H:Hp}(r:RH K M H){p:Addr}(h:H p=none):M p=none:=by
 cases e:M p with
 |none=>rfl
 |some o=>obtain⟨u,hu,_⟩:=r p o e;rw[hu]at h;cases h
theorem RH.lst{K:X5}{M:MH}{H:Hp}(r:RH K M H){p:Addr}{xs:List MV}(h:M p=some (.lst xs)):∃vs,H p=some (.lst vs)/\RMs K H xs vs:=by
 obtain⟨u,hu,ro⟩:=r p _ h;cases u<;>try exact ro.elim
 exact⟨_,hu,ro⟩
theorem RH.dic{K:X5}{M:MH}{H:Hp}(r:RH K M H){p:Addr}{xs:List (Key×MV)}(h:M p=some (.dic xs)):∃vs,H p=some (.dK vs)/\RKs K H xs vs/\(xs.map (·.1)).Nodup:=by
 obtain⟨u,hu,ro⟩:=r p _ h;cases u<;>try exact ro.elim
 exact⟨_,hu,ro.1,ro.2⟩
theorem RH.fdic{K:X5}{M:MH}{H:Hp}(r:RH K M H){p:Addr}{o:Obj}{xs:List (Key×MV)}(h:M p=some (.fdic o xs)):∃vs,H p=some (.frz o (.dK vs))/\RKs K H xs vs/\(xs.map (·.1)).Nodup:=by
 obtain⟨u,hu,ro⟩:=r p _ h;cases u with
 |frz o' u=>
  cases u<;>try exact ro.elim
  obtain⟨rfl,r1,r2⟩:=ro;exact⟨_,hu,r1,r2⟩
 |_=>exact ro.elim
theorem CJ{K:X5}{H:Hp}{f:Str}:∀{m:List (Str×MV)} {v:List (Str×V)},RKs K H m v->(valM m f=none/\v.lookup f=none)\/∃x u,valM m f=some x/\v.lookup f=some u/\RM K H x u
 |_,_,.nil=>.inl ⟨rfl,rfl⟩
 |_,_,.cons (k:=j) (x:=x) (v:=u) r t=>by
  by_cases e:j=f
  ·refine .inr ⟨x,u,?_,?_,r⟩
   ·unfold valM;rw[if_pos e]
   ·subst e;simp
  ·have:=CJ (f:=f) t;have e2:(f==j)=false:=by simpa using λz=>e z.symm
   unfold valM;rw[if_neg e,ZE,e2];exact this
theorem Ju{K:X5}{H:Hp}{f:Str}{x:MV}{u:V}(r:RM K H x u):∀{m:List (Str×MV)} {v:List (Str×V)},RKs K H m v->RKs K H (putM m f x) (putF f u v)
 |_,_,.nil=>.cons r .nil
 |_,_,.cons (k:=j) q t=>by
  unfold putM putF;by_cases e:j=f
  ·rw[if_pos e,if_pos e];exact .cons r t
  ·rw[if_neg e,if_neg e];exact .cons q (Ju r t)
theorem RH.put{K:X5}{M:MH}{H:Hp}(r:RH K M H){p:Addr}{u:HO}{o:MO}(k:Kp H (upd H p u))(ro:RO K (upd H p u) o u):RH K (updM M p o) (upd H p u):=by
 intro a o' e;by_cases h:a=p
 ·subst h;rw[X9]at e;cases e;exact⟨u,Zh,ro⟩
 ·rw[Xc h]at e;obtain⟨v,hv,rv⟩:=r a o' e;exact⟨v,by rw[XL h];exact hv,rv.mono k⟩
theorem RH.kept{K:X5}{M:MH}{H:Hp}(r:RH K M H){p:Addr}(hp:H p=none)(u:HO):RH K M (upd H p u):=by
 intro a o' e;obtain⟨v,hv,rv⟩:=r a o' e;exact⟨v,by rw[XL (Vc hv hp)];exact hv,rv.mono (Kp.new hp u)⟩
abbrev Sm:=List (Option MV)
abbrev QM:=MV->MH->Prop
abbrev TEm:=Sm->MH->QM->Prop
abbrev TAm:=Sm->MH->(List MV->MH->Prop)->Prop
def RS(K:X5)(H:Hp)(σm:Sm)(σ:St):Prop:=σm.length=σ.length/\∀(i:Nat) (m:MV),σm[i]?=some (some m)->∃v,σ[i]?=some (some v)/\RM K H m v
theorem RS.mono{K:X5}{H H':Hp}(k:Kp H H'){σm:Sm}{σ:St}(h:RS K H σm σ):RS K H' σm σ:=⟨h.1,λi m e=>by
 obtain⟨v,hv,r⟩:=h.2 i m e;exact⟨v,hv,r.mono k⟩⟩
theorem RS.set{K:X5}{H:Hp}{σm:Sm}{σ:St}(h:RS K H σm σ){m:MV}{v:V}(r:RM K H m v)(i:Nat):RS K H (σm.set i (some m)) (σ.set i (some v)):=by
 refine⟨by simp[h.1],λj x e=>?_⟩
 rw[VF]at e;by_cases hij:i=j
 ·subst hij;rw[if_pos rfl]at e;split at e
  ·cases e;exact⟨v,by rw[VF,if_pos rfl,if_pos (by rw[<- h.1];assumption)],r⟩
  ·cases e
 ·rw[if_neg hij]at e;obtain⟨u,hu,ru⟩:=h.2 j x e;exact⟨u,by rw[VF,if_neg hij];exact hu,ru⟩
def Dn(K:X5)(H:Hp)(Q:VK):QM:=λm M=>∀v H',Kp H H'->RM K H' m v->RH K M H'->Q v H'
theorem Dn.on{K:X5}{H H1:Hp}{Q:VK}(k:Kp H H1){m:MV}{M:MH}(h:Dn K H Q m M):Dn K H1 Q m M:=λv H' k' r rh=>h v H' (k.trans k') r rh
def liE(K:X5)(t:TEm):TE:=λσ H Q=>∃σm M,RS K H σm σ/\RH K M H/\t σm M (Dn K H Q)
def liA(K:X5)(t:TAm):TA:=λσ H Q=>∃σm M,RS K H σm σ/\RH K M H/\t σm M (λms M'=>∀vs H',Kp H H'->RMs K H' ms vs->RH K M' H'->Q vs H')
def MonE(t:TEm):Prop:=∀{σ M} {Q Q':QM},(∀m M',Q m M'->Q' m M')->t σ M Q->t σ M Q'
def MonA(t:TAm):Prop:=∀{σ M} {Q Q':List MV->MH->Prop},(∀m M',Q m M'->Q' m M')->t σ M Q->t σ M Q'
abbrev W1:=MV->MH->QM->Prop
abbrev W2:=MV->MV->MH->QM->Prop
abbrev WA:=List MV->MH->QM->Prop
def Mon1(w:W1):Prop:=∀{x M} {Q Q':QM},(∀m M',Q m M'->Q' m M')->w x M Q->w x M Q'
def Mon2(w:W2):Prop:=∀{x y M} {Q Q':QM},(∀m M',Q m M'->Q' m M')->w x y M Q->w x y M Q'
def MonW(w:WA):Prop:=∀{xs M} {Q Q':QM},(∀m M',Q m M'->Q' m M')->w xs M Q->w xs M Q'
def li1(K:X5)(w:W1):V->Hp->VK->Prop:=λx H Q=>∃mx M,RM K H mx x/\RH K M H/\w mx M (Dn K H Q)
def li2(K:X5)(w:W2):R2:=λx y H Q=>∃mx my M,RM K H mx x/\RM K H my y/\RH K M H/\w mx my M (Dn K H Q)
def liW(K:X5)(w:WA):List V->Hp->VK->Prop:=λxs H Q=>∃ms M,RMs K H ms xs/\RH K M H/\w ms M (Dn K H Q)
section
variable{K:X5}
theorem Ey{ta tb:TEm}{w:W2}(ma:MonE ta)(mb:MonE tb)(mw:Mon2 w){σ:St}{H:Hp}{Q:VK}
  (h:liE K (λσ M Q=>ta σ M λx M1=>tb σ M1 λy M2=>w x y M2 Q) σ H Q):tOp (li2 K w) (liE K ta) (liE K tb) σ H Q:=by
 obtain⟨σm,M,rs,rh,h⟩:=h;refine⟨σm,M,rs,rh,ma (λx M1 h1=>?_) h⟩;intro v H1 k1 r1 rh1;refine⟨σm,M1,rs.mono k1,rh1,mb (λy M2 h2=>?_) h1⟩;intro u H2 k2 r2 rh2;exact⟨x,y,M2,r1.mono k2,r2,rh2,mw (λm M' hq=>hq.on (k1.trans k2)) h2⟩
end
theorem PE.weak{X:Cx}{e:Expr}{t t':TE}(h:PE X e t)(i:∀σ H Q,t' σ H Q->t σ H Q):PE X e t':=λpins s σ H Q I q=>h pins s σ H Q I (i _ _ _ q)
theorem PT.weak{X:Cx}{e:Expr}{t t':TT}(h:PT X e t)(i:∀σ H Q,t' σ H Q->t σ H Q):PT X e t':=λpins s σ H Q I q=>h pins s σ H Q I (i _ _ _ q)
theorem PW.weak{X:Cx}{e:Expr}{t t':TT}(h:PW X e t)(i:∀σ H Q,t' σ H Q->t σ H Q):PW X e t':=λwh pins s σ H Q I q=>h wh pins s σ H Q I (i _ _ _ q)
theorem PA.weak{X:Cx}{e:List Expr}{t t':TA}(h:PA X e t)(i:∀σ H Q,t' σ H Q->t σ H Q):PA X e t':=λpos pins s σ H Q I q=>h pos pins s σ H Q I (i _ _ _ q)
theorem PS.weak{X:Cx}{e:Stmt}{t t':TS}(h:PS X e t)(i:∀D σ H,t' D σ H->t D σ H):PS X e t':=λpins s σ H D I q=>h pins s σ H D I (i _ _ _ q)
theorem PSs.weak{X:Cx}{e:List Stmt}{t t':TS}(h:PSs X e t)(i:∀D σ H,t' D σ H->t D σ H):PSs X e t':=λpins s σ H D I q=>h pins s σ H D I (i _ _ _ q)
def wBin(op:Ud)(x y:MV)(M:MH)(Q:QM):Prop:=match op,x,y with
 |.Add,.int i,.int j=>Q (.int (i+j)) M
 |.Sub,.int i,.int j=>Q (.int (i - j)) M
 |.Mult,.int i,.int j=>CMul i j/\Q (.int (i*j)) M
 |.FloorDiv,.int i,.int j=>WW i j/\Q (.int (i/j)) M
 |.Mod,.int i,.int j=>0<j/\Q (.int (i%j)) M
 |.Pow,.int i,.int j=>CPow i j/\Q (.int (i^j.toNat)) M
 |.LShift,.int i,.int j=>CPow i j/\Q (.int (i*2^j.toNat)) M
 |.BitAnd,.int i,.int j=>Q (.int (Ct i j)) M
 |.BitXor,.int i,.int j=>Q (.int (Cu i j)) M
 |.Add,.str i,.str j=>i.length+j.length≤sizeLine/\Q (.str (i++j)) M
 |.Mult,.str z,.int i=>z.length≤16/\ -1000≤i/\i≤1000/\Q (.str (Txt.mul z i)) M
 |.Add,.tup xs,.tup ys=>xs≠ []/\xs.length+ys.length≤sizeLine/\Q (.tup (xs++ys)) M
 |.Mult,.tup xs,.int k=>xs≠ []/\1≤k/\xs.length*k.toNat≤1000000/\Q (.tup (Xj k.toNat xs).flatten) M
 |.Mult,.ref a,.int k=>∃xs,M a=some (.lst xs)/\ -(2^63)≤k/\k<2^63/\xs.length*k.toNat≤sizeLine/\∀p,M p=none->Q (.ref p) (updM M p (.lst (Xj k.toNat xs).flatten))
 |_,_,_=>False
theorem Jv(op:Ud):Mon2 (wBin op):=by
 intro x y M Q Q' hq h;unfold wBin at h ⊢;split at h
 all_goals first
  |exact hq _ _ h
  |exact h.elim
  |exact⟨h.1,hq _ _ h.2⟩
  |exact⟨h.1,h.2.1,hq _ _ h.2.2⟩
  |exact⟨h.1,h.2.1,h.2.2.1,hq _ _ h.2.2.2⟩
  |(obtain⟨xs,ys,h1,h2,h3,h4⟩:=h
    exact⟨xs,ys,h1,h2,h3,λp hp=>hq _ _ (h4 p hp)⟩)
  |(obtain⟨ys,h2,h3,h4⟩:=h
    exact⟨ys,h2,h3,λp hp=>hq _ _ (h4 p hp)⟩)
  |(obtain⟨ys,h2,h3,h4,h5,h6⟩:=h
    exact⟨ys,h2,h3,h4,h5,λp hp=>hq _ _ (h6 p hp)⟩)
theorem RMs.rep{K:X5}{H:Hp}{xs:List MV}{vs:List V}(q:RMs K H xs vs):∀k:Nat,RMs K H (Xj k xs).flatten (Xj k vs).flatten
 |0=>.nil
 |k+1=>by
  rw[Zf,Zf,ZU,ZU];exact q.append (q.rep k)
section
variable{X:Cx}
theorem Zpt(op:Ud):OpR X (Yy op) (li2 X.K (wBin op)):=by
 intro pins s σ H x y v u Q I rx ry h;obtain⟨mx,my,M,r1,r2,rh,h⟩:=h;unfold wBin at h;split at h
 ·cases r1;cases r2;exact SG pins s σ H _ _ v u Q I rx ry ⟨_,_,rfl,rfl,h _ _ (Kp.refl _) (.int _) rh⟩
 ·cases r1;cases r2;exact SH pins s σ H _ _ v u Q I rx ry ⟨_,_,rfl,rfl,h _ _ (Kp.refl _) (.int _) rh⟩
 ·cases r1;cases r2;exact SI pins s σ H _ _ v u Q I rx ry ⟨_,_,rfl,rfl,h.1,h.2 _ _ (Kp.refl _) (.int _) rh⟩
 ·cases r1;cases r2;exact Zkz pins s σ H _ _ v u Q I rx ry ⟨_,_,rfl,rfl,h.1,h.2 _ _ (Kp.refl _) (.int _) rh⟩
 ·cases r1;cases r2;exact SJ pins s σ H _ _ v u Q I rx ry ⟨_,_,rfl,rfl,h.1,h.2 _ _ (Kp.refl _) (.int _) rh⟩
 ·cases r1;cases r2;exact SK pins s σ H _ _ v u Q I rx ry ⟨_,_,rfl,rfl,h.1,h.2 _ _ (Kp.refl _) (.int _) rh⟩
 ·cases r1;cases r2;exact SL pins s σ H _ _ v u Q I rx ry ⟨_,_,rfl,rfl,h.1,h.2 _ _ (Kp.refl _) (.int _) rh⟩
 ·cases r1;cases r2;exact SM pins s σ H _ _ v u Q I rx ry ⟨_,_,rfl,rfl,h _ _ (Kp.refl _) (.int _) rh⟩
 ·cases r1;cases r2;exact SN pins s σ H _ _ v u Q I rx ry ⟨_,_,rfl,rfl,h _ _ (Kp.refl _) (.int _) rh⟩
 ·cases r1;cases r2;exact T2 pins s σ H _ _ v u Q I rx ry ⟨_,_,rfl,rfl,h.1,h.2 _ _ (Kp.refl _) (.str _) rh⟩
 ·cases r1;cases r2;exact ZmY pins s σ H _ _ v u Q I rx ry ⟨_,_,rfl,rfl,h.1,h.2.1,h.2.2.1,h.2.2.2 _ _ (Kp.refl _) (.str _) rh⟩
 ·rename_i xs ys
  cases r1 with
  |tup h1 q1=>
   rename_i a vs
   cases r2 with
   |tup h2 q2=>
    rename_i b us
    obtain⟨h3,h4,h5⟩:=h;refine TN pins s σ H _ _ v u Q I rx ry ⟨_,_,vs,us,rfl,rfl,SqT.of h1,SqT.of h2,λz=>h3 ?_,by rw[<- q1.length,<- q2.length];exact h4,λz=>?_,λz p hp=>?_⟩
    ·subst z;cases q1;rfl
    ·subst z;cases q2;rw[WD]at h5;exact h5 _ _ (Kp.refl _) (.tup h1 q1) rh
    ·have k:=Kp.new hp (.tup (vs++us));exact h5 _ _ k (.tup Zh ((q1.append q2).mono k)) (rh.kept hp _)
 ·rename_i xs k
  cases r2;cases r1 with
  |tup h1 q1=>
   rename_i a vs
   obtain⟨h3,h4,h5,h6⟩:=h;refine ZmX pins s σ H _ _ v u Q I rx ry ⟨_,_,vs,rfl,rfl,SqT.of h1,λz=>h3 ?_,h4,by rw[<- q1.length];exact h5,λz=>?_,λz p hp=>?_⟩
   ·subst z;cases q1;rfl
   ·subst z;have e:(Xj (1:Int).toNat xs).flatten=xs:=by simp
    rw[e]at h6;exact h6 _ _ (Kp.refl _) (.tup h1 q1) rh
   ·have kk:=Kp.new hp (.tup (Xj k.toNat vs).flatten);exact h6 _ _ kk (.tup Zh ((q1.rep k.toNat).mono kk)) (rh.kept hp _)
 ·rename_i a k
  cases r1;cases r2;obtain⟨xs,h1,h2,h3,h4,h5⟩:=h;obtain⟨vs,e1,q1⟩:=rh.lst h1;refine Zpo pins s σ H _ _ v u Q I rx ry ⟨_,_,vs,rfl,rfl,e1,h2,h3,by rw[<- q1.length];exact h4,λp hp=>?_⟩
  have kk:=Kp.new hp (.lst (Xj k.toNat vs).flatten);exact h5 p (rh.free hp) _ _ kk (.ref p) (rh.put kk ((q1.rep k.toNat).mono kk))
 ·exact h.elim
end
mutual
inductive DM (M:MH):MV->Yp->Prop
 |non:DM M .non .none
 |bl (b:Bool):DM M (.bl b) (.bool b)
 |int (i:Int):DM M (.int i) (.int i)
 |str (x:Str):DM M (.str x) (.str x)
 |lst {a:Addr} {xs:List MV} {ds:List Yp}:M a=some (.lst xs)->DMs M xs ds->DM M (.ref a) (.list ds)
 |frl {xs:List MV} {ds:List Yp}:DMs M xs ds->DM M (.frl xs) (.list ds)
 |tup {xs:List MV} {ds:List Yp}:DMs M xs ds->DM M (.tup xs) (.tuple ds)
inductive DMs (M:MH):List MV->List Yp->Prop
 |nil:DMs M [] []
 |cons {x:MV} {xs:List MV} {d:Yp} {ds:List Yp}:DM M x d->DMs M xs ds->DMs M (x::xs) (d::ds)
end
mutual
theorem DM.dp{K:X5}{M:MH}{H:Hp}(rh:RH K M H):∀{m:MV} {d:Yp} {v:V},DM M m d->RM K H m v->Dp K H v d
 |_,_,_,.non,.non=>.non
 |_,_,_,.bl b,.bl _=>.bl b
 |_,_,_,.int i,.int _=>.int i
 |_,_,_,.str x,.str _=>.str x
 |_,_,_,.lst h q,r=>by
  cases r;obtain⟨vs,e,r⟩:=rh.lst h;exact .lst (SqL.of e) (DMs.dp rh q r)
 |_,_,_,.frl q,.frl h r=>.lst h.sq (DMs.dp rh q r)
 |_,_,_,.tup q,.tup h r=>.tup (SqT.of h) (DMs.dp rh q r)
theorem DMs.dp{K:X5}{M:MH}{H:Hp}(rh:RH K M H):∀{m:List MV} {d:List Yp} {v:List V},DMs M m d->RMs K H m v->DpAll K H v d
 |_,_,_,.nil,.nil=>.nil
 |_,_,_,.cons a b,.cons c d=>.cons (DM.dp rh a c) (DMs.dp rh b d)
end
def eqS:MV->MV->Option Bool
 |.int i,.int j=>some (decide (i=j))
 |.str i,.str j=>some (decide (i=j))
 |.bl i,.bl j=>some (decide (i=j))
 |.non,.non=>some true
 |.non,.int _=>some false|.int _,.non=>some false|.non,.bl _=>some false|.bl _,.non=>some false|.non,.str _=>some false|.str _,.non=>some false
 |.int _,.str _=>some false|.str _,.int _=>some false|.bl _,.str _=>some false|.str _,.bl _=>some false
 |_,_=>none
theorem Jw{K:X5}{H:Hp}{x y:MV}{u v:V}{b:Bool}(h:eqS x y=some b)(r:RM K H x u)(q:RM K H y v):scal u v=true/\decide (u=v)=b:=by
 unfold eqS at h;split at h<;>cases h<;>cases r<;>cases q<;>refine⟨rfl,?_⟩
 ·rw[decide_eq_decide];exact⟨V.int.inj,λe=>by rw[e]⟩
 ·rw[decide_eq_decide];exact⟨V.str.inj,λe=>by rw[e]⟩
 ·rw[decide_eq_decide];exact⟨V.bl.inj,λe=>by rw[e]⟩
 all_goals rfl
inductive DHits (M:MH) (kb:List (Key×MV)):List (Key×MV)->Bool->Prop
 |nil:DHits M kb [] true
 |miss {k:Key} {v:MV} {r:List (Key×MV)}:valM kb k=none->DHits M kb ((k,v)::r) false
 |hit {k:Key} {v y:MV} {d e:Yp} {r:List (Key×MV)} {b:Bool}:valM kb k=some y->DM M v d->DM M y e->SeqAt.shaped d=true->SeqAt.shaped e=true->DHits M kb r b->DHits M kb ((k,v)::r) (PyData.eqv d e&&b)
def LstM(M:MH)(x:MV)(xs:List MV):Prop:=x=.frl xs\/∃a,x=.ref a/\M a=some (.lst xs)
def YK:MV->Bool
 |.non=>true|.bl _=>true|.int _=>true|.str _=>true|_=>false
def Alike(M:MH):Nat->MV->MV->Prop
 |0,x,y=>YK x=true/\x=y
 |n+1,x,y=>(YK x=true/\x=y)\/(∃xs ys,x=.tup xs/\y=.tup ys/\xs.length=ys.length/\∀(i:Nat) u v,xs[i]?=some u->ys[i]?=some v->Alike M n u v)\/
  (∃xs ys,LstM M x xs/\LstM M y ys/\xs.length=ys.length/\∀(i:Nat) u v,xs[i]?=some u->ys[i]?=some v->Alike M n u v)\/
  ∃a b ka kb,x=.ref a/\y=.ref b/\M a=some (.dic ka)/\M b=some (.dic kb)/\ka.length=kb.length/\∀k u,(k,u)∈ka->∃v,valM kb k=some v/\Alike M n u v
def wEq(x y:MV)(M:MH)(k:Bool->Prop):Prop:=match eqS x y with
 |some b=>k b
 |none=>(∃n≤60,Alike M n x y/\k true)\/(∃a b xs,x=.ref a/\y=.ref b/\M a=some (.lst xs)/\M b=some (.lst [])/\k xs.isEmpty)\/False\/False
def toV:MV->V
 |.non=>.non|.bl b=>.bl b|.int i=>.int i|.str x=>.str x|_=>.non
theorem Ur{K:X5}{H:Hp}{m:MV}{v:V}(f:YK m=true)(r:RM K H m v):v=toV m/\U2 v=true:=by
 cases r<;>first|exact⟨rfl,rfl⟩|cases f
theorem Vh{K:X5}{H:Hp}:∀{m:List MV} {v:List V},m.all YK=true->RMs K H m v->v=m.map toV/\v.all U2=true
 |_,_,_,.nil=>⟨rfl,rfl⟩
 |_,_,f,.cons r t=>by
  rw[UZ,Y2]at f;obtain⟨e,g⟩:=Ur f.1 r;obtain⟨e2,g2⟩:=Vh f.2 t;subst e e2;exact⟨rfl,by rw[UZ,g,g2];rfl⟩
def keyM:MV->Option Key
 |.int i=>some (.inl i)
 |.str x=>some (.inr x)
 |_=>none
theorem A4{K:X5}{H:Hp}{m:MV}{v:V}{k:Key}(e:keyM m=some k)(r:RM K H m v):v=kV k:=by
 cases r<;>cases e<;>rfl
theorem Wb{K:X5}{H:Hp}{k:Key}:∀{m:List (Key×MV)} {v:List (Key×V)},RKs K H m v->(valM m k=none/\valV v k=none)\/∃x u,valM m k=some x/\valV v k=some u/\RM K H x u
 |_,_,.nil=>.inl ⟨rfl,rfl⟩
 |_,_,.cons (k:=j) (x:=x) (v:=u) r t=>by
  by_cases e:j=k
  ·refine .inr ⟨x,u,?_,Cz (p:=(j,u)) e,r⟩;unfold valM;rw[if_pos e]
  ·have:=Wb (k:=k) t;unfold valM;rw[if_neg e,CA (p:=(j,u)) e];exact this
theorem Jx{K:X5}{H:Hp}{k:Key}:∀{m:List (Key×MV)} {v:List (Key×V)},RKs K H m v->(v.any λkv=>decide (kv.1=k))=(m.any λkv=>decide (kv.1=k))
 |_,_,.nil=>rfl
 |_,_,.cons r t=>by rw[ZV,ZV,Jx t]
theorem Ez{K:X5}{H:Hp}{k:Key}{x:MV}{u:V}(r:RM K H x u):∀{m:List (Key×MV)} {v:List (Key×V)},RKs K H m v->
  RKs K H (m.map λkv=>if kv.1=k then(kv.1,x)else kv) (v.map λkv=>if kv.1=k then(kv.1,u)else kv)
 |_,_,.nil=>.nil
 |_,_,.cons (k:=j) q t=>by
  rw[XD,XD];by_cases e:j=k
  ·rw[if_pos e,if_pos e];exact .cons r (Ez r t)
  ·rw[if_neg e,if_neg e];exact .cons q (Ez r t)
theorem Jy{κ:Type}{K:X5}{H:Hp}:∀{m m':List (κ×MV)} {v v':List (κ×V)},RKs K H m v->RKs K H m' v'->RKs K H (m++m') (v++v')
 |_,_,_,_,.nil,s=>s
 |_,_,_,_,.cons r t,s=>.cons r (Jy t s)
theorem Jz{κ:Type} [DecidableEq κ] {k:κ}{x:MV}:∀{m:List (κ×MV)},¬k∈m.map (·.1)->(m.map λkv=>if kv.1=k then(kv.1,x)else kv)=m
 |[],_=>rfl
 |(j,y)::r,h=>by
  rw[XD,if_neg (λe=>h (by simp[show j=k from e])),Jz (λe=>h (by simp[e]))]
theorem JA{κ:Type} [DecidableEq κ] {k:κ}{x:MV}:∀{m:List (κ×MV)},(m.map (·.1)).Nodup->putM m k x=if(m.any λkv=>decide (kv.1=k))=true then m.map (λkv=>if kv.1=k then(kv.1,x)else kv)else m++[(k,x)]
 |[],_=>rfl
 |(j,y)::r,h=>by
  rw[XD,YF]at h;unfold putM;rw[ZV];by_cases e:j=k
  ·subst e;rw[if_pos rfl,if_pos (by simp),XD,if_pos rfl,Jz h.1]
  ·rw[if_neg e,JA h.2,show decide ((j,y).1=k)=false from decide_eq_false e,DZ,XD,if_neg (show¬(j,y).1=k from e)];split<;>rfl
theorem JB{κ:Type} [DecidableEq κ] {k:κ}{x:MV}:∀(m:List (κ×MV)),((putM m k x).map (·.1))=if k∈m.map (·.1)then m.map (·.1)else m.map (·.1)++[k]
 |[]=>rfl
 |(j,y)::r=>by
  unfold putM;by_cases e:j=k
  ·subst e;simp
  ·rw[if_neg e,XD,JB r,XD];have e':k≠j:=λz=>e z.symm;by_cases m:k∈r.map (·.1)
   ·rw[if_pos m,if_pos (Xr.mpr (.inr m))]
   ·rw[if_neg m,if_neg (λz=>(Xr.mp z).elim e' m)];rfl
theorem JC{K:X5}{H:Hp}{k:Key}{x:MV}{u:V}(r:RM K H x u){m:List (Key×MV)}{v:List (Key×V)}(nd:(m.map (·.1)).Nodup)(h:RKs K H m v):
  RKs K H (putM m k x) (putK v k u)/\((putM m k x).map (·.1)).Nodup:=by
 refine⟨?_,?_⟩
 ·rw[JA nd];unfold putK;rw[Jx h];split
  ·exact Ez r h
  ·exact Jy h (.cons r .nil)
 ·rw[JB];split
  ·exact nd
  ·exact IZ nd (by assumption)
def wIn(x y:MV)(M:MH)(k:Bool->Prop):Prop:=match y with
 |.tup xs=>YK x=true/\xs.all YK=true/\k (inV (toV x) (xs.map toV))
 |.frl xs=>YK x=true/\xs.all YK=true/\k (inV (toV x) (xs.map toV))
 |.ref a=>(∃xs,M a=some (.lst xs)/\YK x=true/\xs.all YK=true/\k (inV (toV x) (xs.map toV)))\/∃kvs kk,M a=some (.dic kvs)/\keyM x=some kk/\k (valM kvs kk).isSome
 |_=>False
def UJ:MV->Bool
 |.non=>true|_=>false
def isBl(b:Bool):MV->Bool
 |.bl c=>decide (c=b)
 |_=>false
def wCmp(op:CmpOp)(x y:MV)(M:MH)(Q:QM):Prop:=match op with
 |.Lt=>∃i j,x=.int i/\y=.int j/\Q (.bl (decide (i<j))) M
 |.LtE=>(∃i j,x=.int i/\y=.int j/\Q (.bl (decide (i≤j))) M)\/∃i j,x=.str i/\y=.str j/\Q (.bl (!decide (j.cps.toList<i.cps.toList))) M
 |.Gt=>∃i j,x=.int i/\y=.int j/\Q (.bl (decide (j<i))) M
 |.GtE=>∃i j,x=.int i/\y=.int j/\Q (.bl (decide (j≤i))) M
 |.Eq=>wEq x y M λb=>Q (.bl b) M
 |.NotEq=>wEq x y M λb=>Q (.bl (!b)) M
 |.In=>wIn x y M λb=>Q (.bl b) M
 |.NotIn=>wIn x y M λb=>Q (.bl (!b)) M
 |.Is=>(y=.non/\Q (.bl (UJ x)) M)\/∃b,y=.bl b/\Q (.bl (isBl b x)) M
 |.IsNot=>(y=.non/\Q (.bl (!UJ x)) M)\/∃b,y=.bl b/\Q (.bl (!isBl b x)) M
theorem JD{x y:MV}{M:MH}{k k':Bool->Prop}(hk:∀b,k b->k' b)(h:wEq x y M k):wEq x y M k':=by
 unfold wEq at h ⊢;split
 ·rename_i b e;rw[e]at h;exact hk _ h
 ·rename_i e;rw[e]at h;rcases h with⟨n,h1,h2,h3⟩|⟨a,b,xs,h1,h2,h3,h4,h5⟩|h|h
  ·exact .inl ⟨n,h1,h2,hk _ h3⟩
  ·exact .inr (.inl ⟨a,b,xs,h1,h2,h3,h4,hk _ h5⟩)
  ·exact h.elim
  ·exact h.elim
theorem JE{x y:MV}{M:MH}{k k':Bool->Prop}(hk:∀b,k b->k' b)(h:wIn x y M k):wIn x y M k':=by
 unfold wIn at h ⊢;split at h
 ·exact⟨h.1,h.2.1,hk _ h.2.2⟩
 ·exact⟨h.1,h.2.1,hk _ h.2.2⟩
 ·rcases h with⟨xs,h1,h2,h3,h4⟩|⟨kvs,kk,h1,h2,h3⟩
  ·exact .inl ⟨xs,h1,h2,h3,hk _ h4⟩
  ·exact .inr ⟨kvs,kk,h1,h2,hk _ h3⟩
 ·exact h.elim
theorem Wc(op:CmpOp):Mon2 (wCmp op):=by
 intro x y M Q Q' hq h;cases op
 ·exact JD (k:=λb=>Q (.bl b) M) (k':=λb=>Q' (.bl b) M) (λb h=>hq _ _ h) h
 ·exact JD (k:=λb=>Q (.bl (!b)) M) (k':=λb=>Q' (.bl (!b)) M) (λb h=>hq _ _ h) h
 ·obtain⟨i,j,h1,h2,h3⟩:=h;exact⟨i,j,h1,h2,hq _ _ h3⟩
 ·rcases h with⟨i,j,h1,h2,h3⟩|⟨i,j,h1,h2,h3⟩
  ·exact .inl ⟨i,j,h1,h2,hq _ _ h3⟩
  ·exact .inr ⟨i,j,h1,h2,hq _ _ h3⟩
 ·obtain⟨i,j,h1,h2,h3⟩:=h;exact⟨i,j,h1,h2,hq _ _ h3⟩
 ·obtain⟨i,j,h1,h2,h3⟩:=h;exact⟨i,j,h1,h2,hq _ _ h3⟩
 ·rcases h with h|⟨b,e,h⟩
  ·exact .inl ⟨h.1,hq _ _ h.2⟩
  ·exact .inr ⟨b,e,hq _ _ h⟩
 ·rcases h with h|⟨b,e,h⟩
  ·exact .inl ⟨h.1,hq _ _ h.2⟩
  ·exact .inr ⟨b,e,hq _ _ h⟩
 ·exact JE (k:=λb=>Q (.bl b) M) (k':=λb=>Q' (.bl b) M) (λb h=>hq _ _ h) h
 ·exact JE (k:=λb=>Q (.bl (!b)) M) (k':=λb=>Q' (.bl (!b)) M) (λb h=>hq _ _ h) h
section
variable{X:Cx}
theorem JF{K:X5}{H:Hp}{m:MV}{v:V}{b:Bool}(r:RM K H m v):decide (v=.bl b)=isBl b m:=by
 cases r<;>first|rfl|(rename_i c;cases b<;>cases c<;>rfl)
theorem JG{K:X5}{H:Hp}{m:MV}{v:V}(r:RM K H m v):decide (v=.non)=UJ m:=by cases r<;>rfl
theorem Zrx{kvs:List (Key×V)}{vs:List (Key×X0)}{k:Key}{v:V}(r:KV kvs vs)(h:valV kvs k=some v):∃u,Z5 vs k=some u/\RelV v u:=by
 have q:=r.val k;rw[h]at q;exact RelO.some_of q
theorem LstM.sq{M:MH}{H:Hp}(rh:RH X.K M H){x:MV}{xs:List MV}{u:V}(h:LstM M x xs)(r:RM X.K H x u):∃a vs,u=.ref a/\SqL X.K H a vs/\RMs X.K H xs vs:=by
 rcases h with rfl|⟨a,rfl,h⟩
 ·cases r with
  |frl h1 q1=>exact⟨_,_,rfl,h1.sq,q1⟩
 ·cases r;obtain⟨vs,e,q⟩:=rh.lst h;exact⟨a,vs,rfl,SqL.of e,q⟩
theorem CK{xs:List V}{us:List X0}(r:Vals xs us){i:Nat}{u:X0}(h:us[i]?=some u):∃x,xs[i]?=some x/\RelV x u:=by
 induction r generalizing i with
 |nil=>cases h
 |cons q _ ih=>
  cases i with
  |zero=>cases h;exact⟨_,rfl,q⟩
  |succ i=>exact ih (i:=i) h
theorem ZpI{kvs:List (Key×V)}{vs:List (Key×X0)}(r:KV kvs vs){k:Key}{u:X0}(h:(k,u)∈vs):∃x,(k,x)∈kvs/\RelV x u:=by
 induction r with
 |nil=>cases h
 | @cons p p' _ _ q _ ih=>
  obtain⟨k1,x1⟩:=p;obtain⟨k2,x2⟩:=p';rcases Xr.mp h with e|h
  ·cases e;have e1:k1=k:=q.1;subst e1;exact⟨x1,Yi,q.2⟩
  ·obtain⟨x,m,rx⟩:=ih h;exact⟨x,XX _ m,rx⟩
theorem JH{K:X5}{H:Hp}{k:Key}{v:V}:∀{m:List (Key×MV)} {vs:List (Key×V)},RKs K H m vs->(k,v)∈vs->∃x,(k,x)∈m/\RM K H x v
 |_,_,.nil,h=>by cases h
 |_,_,.cons r t,h=>by
  rcases Xr.mp h with e|h
  ·cases e;exact⟨_,Yi,r⟩
  ·obtain⟨x,m,q⟩:=JH t h;exact⟨x,XX _ m,q⟩
theorem Alike.inn{pins:List (Addr×Obj)}{s:X1}{σ:St}{H:Hp}{M:MH}(I:Inv X pins σ H s)(rh:RH X.K M H){n:Nat}{A:Xt}(hu:A.units<cLine)
  (ih:∀{x y:MV} {u v:V} {u' v':X0},Alike M n x y->RM X.K H x u->RM X.K H y v->RelV u u'->RelV v v'->AliP X.prog X.w A.in1 s u' v')
  {x y:MV} {u v:V} {u' v':X0} (h:Alike M (n+1) x y) (r1:RM X.K H x u) (r2:RM X.K H y v) (q1:RelV u u') (q2:RelV v v'):
  (YK x=true/\x=y)\/∃a b,u'=.ref a/\v'=.ref b/\RcP X.prog X.w A s (.ref a) (.ref b)/\RnP X.prog X.w A s (.ref a) (.ref b):=by
 rw[Alike]at h;rcases h with h|⟨xs,ys,rfl,rfl,e,h⟩|⟨xs,ys,h1,h2,e,h⟩|⟨a,b,ka,kb,rfl,rfl,h1,h2,e,h⟩
 ·exact .inl h
 ·cases r1 with
  |tup g1 w1=>
   cases r2 with
   |tup g2 w2=>
    rename_i a vs b us
    obtain rfl:u'=Xs a:=q1;obtain rfl:v'=Xs b:=q2;obtain⟨i1,p1,t1,_⟩:=I.tuple (SqT.of g1);obtain⟨i2,p2,t2,_⟩:=I.tuple (SqT.of g2);have z:i1.toArray.size=i2.toArray.size:=by rw[XW,XW,<- p1.length,<- p2.length,<- w1.length,<- w2.length];exact e
    have he:∀p∈i1.toArray.toList.zip i2.toArray.toList,AliP X.prog X.w A.in1 s p.1 p.2:=by
     intro p hp;obtain⟨i,hi⟩:=List.mem_iff_getElem?.mp hp;rw[List.getElem?_zip_eq_some]at hi;obtain⟨x1,c1,d1⟩:=CK p1 hi.1;obtain⟨x2,c2,d2⟩:=CK p2 hi.2;obtain⟨m1,c3,d3⟩:=w1.get' c1;obtain⟨m2,c4,d4⟩:=w2.get' c2;exact ih (h i m1 m2 c3 c4) d3 d4 d1 d2
    exact .inr ⟨_,_,rfl,rfl,ZoE t1 t2 z hu he,Zn7 t1 t2 z hu he⟩
 ·obtain⟨a,vs,rfl,g1,w1⟩:=h1.sq rh r1;obtain⟨b,us,rfl,g2,w2⟩:=h2.sq rh r2;obtain rfl:u'=Xs a:=q1;obtain rfl:v'=Xs b:=q2;obtain⟨i1,p1,⟨o1,n1,t1,t2,_,t3⟩,_⟩:=I.list g1;obtain⟨i2,p2,⟨o2,n2,t4,t5,_,t6⟩,_⟩:=I.list g2;have z:i1.toArray.size=i2.toArray.size:=by rw[XW,XW,<- p1.length,<- p2.length,<- w1.length,<- w2.length];exact e
  have he:∀j (h1:j<i1.toArray.size) (h2:j<i2.toArray.size),AliP X.prog X.w A.in1 s i1.toArray[j] i2.toArray[j]:=by
   intro i l1 l2;obtain⟨x1,c1,d1⟩:=CK p1 (i:=i) (u:=i1.toArray[i]) (by simp[Xd (show i<i1.length by simpa using l1)])
   obtain⟨x2,c2,d2⟩:=CK p2 (i:=i) (u:=i2.toArray[i]) (by simp[Xd (show i<i2.length by simpa using l2)])
   obtain⟨m1,c3,d3⟩:=w1.get' c1;obtain⟨m2,c4,d4⟩:=w2.get' c2;exact ih (h i m1 m2 c3 c4) d3 d4 d1 d2
  exact .inr ⟨_,_,rfl,rfl,ZoF ⟨o1,t1,t2,n1,t3⟩ ⟨o2,t4,t5,n2,t6⟩ z hu he,Zn8 ⟨o1,t1,t2,n1,t3⟩ ⟨o2,t4,t5,n2,t6⟩ z hu he⟩
 ·cases r1;cases r2;obtain rfl:u'=Xs a:=q1;obtain rfl:v'=Xs b:=q2;obtain⟨va,ea,wa,_⟩:=rh.dic h1;obtain⟨vb,eb,wb,_⟩:=rh.dic h2;obtain⟨_,na,ua,pa,da⟩:=Eu I.hok ea;obtain⟨_,nb,ub,pb,db⟩:=Eu I.hok eb;have z:ua.length=ub.length:=by rw[<- Paired.length pa,<- wa.length,<- Paired.length pb,<- wb.length];exact e
  have he:∀p∈ua,∃y,Z5 ub p.1=some y/\AliP X.prog X.w A.in1 s p.2 y:=by
   rintro⟨k,u1⟩ hp;obtain⟨x1,c1,d1⟩:=ZpI pa hp;obtain⟨m1,c2,d2⟩:=JH wa c1;obtain⟨m2,c3,c4⟩:=h k m1 c2;rcases Wb (k:=k) wb with⟨z1,z2⟩|⟨x',u2,z1,z2,r3⟩
   ·rw[c3]at z1;cases z1
   ·rw[c3]at z1;cases z1;obtain⟨w',hw,rw'⟩:=Zrx pb z2;exact⟨w',hw,ih c4 d2 r3 d1 rw'⟩
  exact .inr ⟨_,_,rfl,rfl,ZoG na nb da db hu z he,Zn9 na nb da db hu z he⟩
theorem JI{K:X5}{H:Hp}{A:Xt}{s:X1}{P:Xk}{w:Xh}{x:MV}{u v:V}{u' v':X0}(f:YK x=true)(r1:RM K H x u)(r2:RM K H x v)(q1:RelV u u')(q2:RelV v v'):AliP P w A s u' v':=by
 obtain⟨rfl,f1⟩:=Ur f r1;obtain⟨rfl,f2⟩:=Ur f r2;have h:=IK (A:=A) (s:=s) q1 q2 f1 f2;have e:eqV (toV x) (toV x)=true:=by cases x<;>first|(cases f;done)|simp[toV,eqV]
 rw[e]at h;exact .of_at h
theorem Alike.ok{pins:List (Addr×Obj)}{s:X1}{σ:St}{H:Hp}{M:MH}(I:Inv X pins σ H s)(rh:RH X.K M H):∀(n:Nat) {A:Xt} {x y:MV} {u v:V} {u' v':X0},A.units+n<cLine->Alike M n x y->RM X.K H x u->RM X.K H y v->RelV u u'->RelV v v'->AliP X.prog X.w A s u' v'
 |0,A,x,y,u,v,u',v',hu,h,r1,r2,q1,q2=>by
  rw[Alike]at h;obtain⟨f,rfl⟩:=h;exact JI f r1 r2 q1 q2
 |n+1,A,x,y,u,v,u',v',hu,h,r1,r2,q1,q2=>by
  rcases Alike.inn I rh (A:=A) (by lia) (λh r1 r2 q1 q2=>Alike.ok I rh n (show A.units+1+n<cLine by lia) h r1 r2 q1 q2) h r1 r2 q1 q2 with⟨f,rfl⟩|⟨a,b,rfl,rfl,h,_⟩
  ·exact JI f r1 r2 q1 q2
  ·exact .refs h
theorem Alike.top{pins:List (Addr×Obj)}{s:X1}{σ:St}{H:Hp}{M:MH}(I:Inv X pins σ H s)(rh:RH X.K M H){n:Nat}{x y:MV}{u v:V}{u' v':X0}(h:Alike M n x y)(hu:X.A.units+n<cLine)(ns:eqS x y=none)(r1:RM X.K H x u)(r2:RM X.K H y v)(q1:RelV u u')(q2:RelV v v'):
  RcP X.prog X.w X.A s u' v'/\RnP X.prog X.w X.A s u' v':=by
 have no:¬(YK x=true/\x=y):=by
  rintro⟨f,rfl⟩;cases x<;>first|(cases f;done)|(cases ns;done)
 cases n with
 |zero=>rw[Alike]at h;exact(no h).elim
 |succ n=>
  rcases Alike.inn I rh (A:=X.A) (by lia) (λh r1 r2 q1 q2=>Alike.ok I rh n (show X.A.units+1+n<cLine by lia) h r1 r2 q1 q2) h r1 r2 q1 q2 with f|⟨a,b,rfl,rfl,h,h'⟩
  ·exact(no f).elim
  ·exact⟨h,h'⟩
theorem Wd(hu:X.A.units+70<cLine)(op:CmpOp):OpR X (Y6 op) (li2 X.K (wCmp op)):=by
 intro pins s σ H x y v u Q I rx ry h;obtain⟨mx,my,M,r1,r2,rh,h⟩:=h;have hb:∀b,Dn X.K H Q (.bl b) M->Q (.bl b) H:=λb h=>h _ _ (Kp.refl _) (.bl b) rh;have hu1:X.A.units+1<cLine:=by lia
 have hu64:X.A.units+64<cLine:=by lia
 have huI:X.A.in1.units+64<cLine:=by show X.A.units+1+64<cLine;lia
 have hu0:X.A.units<cLine:=by lia
 cases op with
 |Lt=>obtain⟨i,j,rfl,rfl,h⟩:=h;cases r1;cases r2;exact SS pins s σ H _ _ v u Q I rx ry ⟨_,_,rfl,rfl,hb _ h⟩
 |LtE=>
  rcases h with⟨i,j,rfl,rfl,h⟩|⟨i,j,rfl,rfl,h⟩
  ·cases r1;cases r2;exact ST pins s σ H _ _ v u Q I rx ry ⟨_,_,rfl,rfl,hb _ h⟩
  ·cases r1;cases r2;obtain⟨t1,rfl⟩:=rx;obtain⟨t2,rfl⟩:=ry;exact PySem.P.le_str ⟨.bl _,H,I,rfl,hb _ h⟩
 |Gt=>obtain⟨i,j,rfl,rfl,h⟩:=h;cases r1;cases r2;exact SU pins s σ H _ _ v u Q I rx ry ⟨_,_,rfl,rfl,hb _ h⟩
 |GtE=>obtain⟨i,j,rfl,rfl,h⟩:=h;cases r1;cases r2;exact SV pins s σ H _ _ v u Q I rx ry ⟨_,_,rfl,rfl,hb _ h⟩
 |Is=>
  rcases h with⟨rfl,h⟩|⟨b,rfl,h⟩
  ·cases r2;exact SW pins s σ H _ _ v u Q I rx ry ⟨rfl,by rw[JG r1];exact hb _ h⟩
  ·cases r2;exact ZmZ pins s σ H _ _ v u Q I rx ry ⟨b,rfl,by rw[JF r1];exact hb _ h⟩
 |IsNot=>
  rcases h with⟨rfl,h⟩|⟨b,rfl,h⟩
  ·cases r2;exact SX pins s σ H _ _ v u Q I rx ry ⟨rfl,by rw[JG r1];exact hb _ h⟩
  ·cases r2;exact Zkx pins s σ H _ _ v u Q I rx ry ⟨b,rfl,by rw[JF r1];exact hb _ h⟩
 |Eq=>
  have h:wEq mx my M λb=>Dn X.K H Q (.bl b) M:=h;unfold wEq at h;split at h
  ·rename_i b e
   obtain⟨e1,e2⟩:=Jw e r1 r2;exact SQ pins s σ H _ _ v u Q I rx ry ⟨e1,by rw[e2];exact hb _ h⟩
  ·rcases h with⟨n,h1,h2,h3⟩|⟨a,b,xs,rfl,rfl,h3,h4,h5⟩|h|h
   ·exact(h2.top I rh (by lia) (by assumption) r1 r2 rx ry).1 _ _ ⟨.bl true,H,I,rfl,hb _ h3⟩
   ·cases r1;cases r2;obtain⟨vs,e1,q1⟩:=rh.lst h3;obtain⟨us,e2,q2⟩:=rh.lst h4;cases q2;refine ZkA hu0 pins s σ H _ _ v u Q I rx ry ⟨_,_,vs,rfl,rfl,SqL.of e1,SqL.of e2,?_⟩;have:vs.isEmpty=xs.isEmpty:=by cases q1<;>rfl
    rw[this];exact hb _ h5
   ·exact h.elim
   ·exact h.elim
 |NotEq=>
  have h:wEq mx my M λb=>Dn X.K H Q (.bl (!b)) M:=h;unfold wEq at h;split at h
  ·rename_i b e
   obtain⟨e1,e2⟩:=Jw e r1 r2;exact SR pins s σ H _ _ v u Q I rx ry ⟨e1,by rw[e2];exact hb _ h⟩
  ·rcases h with⟨n,h1,h2,h3⟩|⟨a,b,xs,rfl,rfl,h3,h4,h5⟩|h|h
   ·exact(h2.top I rh (by lia) (by assumption) r1 r2 rx ry).2 _ _ ⟨.bl false,H,I,rfl,hb _ h3⟩
   ·cases r1;cases r2;obtain⟨vs,e1,q1⟩:=rh.lst h3;obtain⟨us,e2,q2⟩:=rh.lst h4;cases q2;refine Zky hu0 pins s σ H _ _ v u Q I rx ry ⟨_,_,vs,rfl,rfl,SqL.of e1,SqL.of e2,?_⟩;have:vs.isEmpty=xs.isEmpty:=by cases q1<;>rfl
    rw[this];exact hb _ h5
   ·exact h.elim
   ·exact h.elim
 |In=>
  have h:wIn mx my M λb=>Dn X.K H Q (.bl b) M:=h;unfold wIn at h;split at h
  ·cases r2 with
   |tup h1 q1=>
    obtain⟨f1,f2,h⟩:=h;obtain⟨e1,g1⟩:=Ur f1 r1;obtain⟨e2,g2⟩:=Vh f2 q1;exact En pins s σ H _ _ v u Q I rx ry ⟨_,_,rfl,.inr (SqT.of h1),g1,g2,by rw[e1,e2];exact hb _ h⟩
  ·cases r2 with
   |frl h1 q1=>
    obtain⟨f1,f2,h⟩:=h;obtain⟨e1,g1⟩:=Ur f1 r1;obtain⟨e2,g2⟩:=Vh f2 q1;exact En pins s σ H _ _ v u Q I rx ry ⟨_,_,rfl,.inl h1.sq,g1,g2,by rw[e1,e2];exact hb _ h⟩
  ·cases r2;rcases h with⟨xs,h1,f1,f2,h⟩|⟨kvs,kk,h1,h2,h⟩
   ·obtain⟨vs,e,q1⟩:=rh.lst h1;obtain⟨e1,g1⟩:=Ur f1 r1;obtain⟨e2,g2⟩:=Vh f2 q1;exact En pins s σ H _ _ v u Q I rx ry ⟨_,_,rfl,.inl (SqL.of e),g1,g2,by rw[e1,e2];exact hb _ h⟩
   ·obtain⟨vs,e,q1,_⟩:=rh.dic h1;have:=A4 h2 r1;subst this;obtain rfl:u=Xs _:=ry;refine d_in hu1 I (DGet.k (k:=kk) e) rx λs3 I3=>⟨.bl _,H,I3,rfl,?_⟩;rcases Wb (k:=kk) q1 with⟨z1,z2⟩|⟨x',u',z1,z2,_⟩
    ·rw[z2];rw[z1]at h;exact hb _ h
    ·rw[z2];rw[z1]at h;exact hb _ h
  ·exact h.elim
 |NotIn=>
  have h:wIn mx my M λb=>Dn X.K H Q (.bl (!b)) M:=h;unfold wIn at h;split at h
  ·cases r2 with
   |tup h1 q1=>
    obtain⟨f1,f2,h⟩:=h;obtain⟨e1,g1⟩:=Ur f1 r1;obtain⟨e2,g2⟩:=Vh f2 q1;exact Eo pins s σ H _ _ v u Q I rx ry ⟨_,_,rfl,.inr (SqT.of h1),g1,g2,by rw[e1,e2];exact hb _ h⟩
  ·cases r2 with
   |frl h1 q1=>
    obtain⟨f1,f2,h⟩:=h;obtain⟨e1,g1⟩:=Ur f1 r1;obtain⟨e2,g2⟩:=Vh f2 q1;exact Eo pins s σ H _ _ v u Q I rx ry ⟨_,_,rfl,.inl h1.sq,g1,g2,by rw[e1,e2];exact hb _ h⟩
  ·cases r2;rcases h with⟨xs,h1,f1,f2,h⟩|⟨kvs,kk,h1,h2,h⟩
   ·obtain⟨vs,e,q1⟩:=rh.lst h1;obtain⟨e1,g1⟩:=Ur f1 r1;obtain⟨e2,g2⟩:=Vh f2 q1;exact Eo pins s σ H _ _ v u Q I rx ry ⟨_,_,rfl,.inl (SqL.of e),g1,g2,by rw[e1,e2];exact hb _ h⟩
   ·obtain⟨vs,e,q1,_⟩:=rh.dic h1;have:=A4 h2 r1;subst this;obtain rfl:u=Xs _:=ry;refine ZnR hu1 I (DGet.k (k:=kk) e) rx λs3 I3=>⟨.bl _,H,I3,rfl,?_⟩;rcases Wb (k:=kk) q1 with⟨z1,z2⟩|⟨x',u',z1,z2,_⟩
    ·rw[z2];rw[z1]at h;exact hb _ h
    ·rw[z2];rw[z1]at h;exact hb _ h
  ·exact h.elim
end
def wIx(x y:MV)(M:MH)(Q:QM):Prop:=match x with
 |.tup xs=>∃i v,y=.int i/\atI xs i=some v/\Q v M
 |.frl xs=>∃i v,y=.int i/\atI xs i=some v/\Q v M
 |.str z=>∃i c,y=.int i/\z.length≤sizeLine/\atI z.cps.toList i=some c/\Q (.str ⟨#[c]⟩) M
 |.ref a=>(∃xs i v,M a=some (.lst xs)/\y=.int i/\atI xs i=some v/\Q v M)\/(∃kvs kk v,M a=some (.dic kvs)/\keyM y=some kk/\valM kvs kk=some v/\Q v M)\/∃o kvs kk v,M a=some (.fdic o kvs)/\keyM y=some kk/\valM kvs kk=some v/\Q v M
 |_=>False
theorem JJ:Mon2 wIx:=by
 intro x y M Q Q' hq h;unfold wIx at h ⊢;split at h
 ·obtain⟨i,v,h1,h2,h3⟩:=h;exact⟨i,v,h1,h2,hq _ _ h3⟩
 ·obtain⟨i,v,h1,h2,h3⟩:=h;exact⟨i,v,h1,h2,hq _ _ h3⟩
 ·obtain⟨i,v,h1,h2,h3,h4⟩:=h;exact⟨i,v,h1,h2,h3,hq _ _ h4⟩
 ·rcases h with⟨xs,i,v,h1,h2,h3,h4⟩|⟨kvs,kk,v,h1,h2,h3,h4⟩|⟨o,kvs,kk,v,h1,h2,h3,h4⟩
  ·exact .inl ⟨xs,i,v,h1,h2,h3,hq _ _ h4⟩
  ·exact .inr (.inl ⟨kvs,kk,v,h1,h2,h3,hq _ _ h4⟩)
  ·exact .inr (.inr ⟨o,kvs,kk,v,h1,h2,h3,hq _ _ h4⟩)
 ·exact h.elim
theorem RMs.atI{K:X5}{H:Hp}{m:List MV}{v:List V}{i:Int}{x:MV}(r:RMs K H m v)(e:atI m i=some x):∃u,atI v i=some u/\RM K H x u:=by
 unfold L2.atI at e ⊢;rw[<- r.length];cases q:ixN m.length i with
 |none=>rw[q]at e;cases e
 |some j=>rw[q]at e;exact r.get e
section
variable{X:Cx}
theorem JK(hu:X.A.units+1<cLine):IxR X (λx y H Q=>∃a v,x=.ref a/\DGet H a y (some v)/\Q v H):=by
 intro value slice pins s σ H x y v u Q I rx ry h hs;obtain⟨a,w',rfl,g,q⟩:=h;obtain rfl:v=Xs a:=rx;exact tail_any (Zg0 I g) PySem.F.slot_dict_getitem.lookup (Zjn hu I g ry λw2 s3 I3 rw'=>⟨w',H,I3,rw',q⟩) hs
theorem ZpR(hu:X.A.units+1<cLine):IxR X (li2 X.K wIx):=by
 intro value slice pins s σ H x y v u Q I rx ry h hs;obtain⟨mx,my,M,r1,r2,rh,h⟩:=h;unfold wIx at h;split at h
 ·obtain⟨i,v',rfl,h2,h3⟩:=h;cases r2;cases r1 with
  |tup h1 q1=>
   obtain⟨u',e,r⟩:=q1.atI h2;exact TR value slice pins s σ H _ _ v u Q I rx ry ⟨_,_,_,u',rfl,rfl,SqT.of h1,e,h3 _ _ (Kp.refl _) r rh⟩ hs
 ·obtain⟨i,v',rfl,h2,h3⟩:=h;cases r2;cases r1 with
  |frl h1 q1=>
   obtain⟨u',e,r⟩:=q1.atI h2;exact II value slice pins s σ H _ _ v u Q I rx ry ⟨_,_,_,u',rfl,rfl,h1.sq,e,h3 _ _ (Kp.refl _) r rh⟩ hs
 ·obtain⟨i,c,rfl,h2,h3,h4⟩:=h;cases r1;cases r2;exact TU value slice pins s σ H _ _ v u Q I rx ry ⟨_,_,c,rfl,rfl,h2,h3,h4 _ _ (Kp.refl _) (.str _) rh⟩ hs
 ·cases r1;rcases h with⟨xs,i,v',h1,rfl,h3,h4⟩|⟨kvs,kk,v',h1,h2,h3,h4⟩|⟨o,kvs,kk,v',h1,h2,h3,h4⟩
  ·cases r2;obtain⟨vs,e,q1⟩:=rh.lst h1;obtain⟨u',e2,r⟩:=q1.atI h3;exact II value slice pins s σ H _ _ v u Q I rx ry ⟨_,_,_,u',rfl,rfl,SqL.of e,e2,h4 _ _ (Kp.refl _) r rh⟩ hs
  ·obtain⟨vs,e,q1,_⟩:=rh.dic h1;have ek:=A4 h2 r2;rcases Wb (k:=kk) q1 with⟨z1,z2⟩|⟨x',u',z1,z2,r'⟩
   ·rw[z1]at h3;cases h3
   ·rw[z1]at h3;cases h3;have g:=DGet.k (k:=kk) e;rw[z2]at g;subst ek;exact JK hu value slice pins s σ H _ _ v u Q I rx ry ⟨_,u',rfl,g,h4 _ _ (Kp.refl _) r' rh⟩ hs
  ·obtain⟨vs,e,q1,_⟩:=rh.fdic h1;have ek:=A4 h2 r2;rcases Wb (k:=kk) q1 with⟨z1,z2⟩|⟨x',u',z1,z2,r'⟩
   ·rw[z1]at h3;cases h3
   ·rw[z1]at h3;cases h3;have g:DGet H _ (kV kk) (valV vs kk):=.inl ⟨vs,kk,.inr ⟨o,e⟩,rfl,rfl⟩;rw[z2]at g;subst ek;exact JK hu value slice pins s σ H _ _ v u Q I rx ry ⟨_,u',rfl,g,h4 _ _ (Kp.refl _) r' rh⟩ hs
 ·exact h.elim
end
def cutM(xs:List MV)(lo hi:Option Int):List MV:=(xs.drop (HT.sIx xs.length 0 lo)).take (HT.sIx xs.length xs.length hi - HT.sIx xs.length 0 lo)
theorem RMs.cut{K:X5}{H:Hp}{m:List MV}{v:List V}(r:RMs K H m v)(lo hi:Option Int):RMs K H (cutM m lo hi) (cutV v lo hi):=by
 unfold cutM cutV;rw[<- r.length];exact(r.drop _).take _
abbrev WS:=MV->Option Int->Option Int->MH->QM->Prop
def wSl:WS:=λx lo hi M Q=>match x with
 |.tup xs=>Q (.tup (cutM xs lo hi)) M
 |.frl xs=>∀p,M p=none->Q (.ref p) (updM M p (.lst (cutM xs lo hi)))
 |.ref a=>∃xs,M a=some (.lst xs)/\∀p,M p=none->Q (.ref p) (updM M p (.lst (cutM xs lo hi)))
 |.str z=>z.length≤sizeLine/\Q (.str (cutS z lo hi)) M
 |_=>False
theorem JL{x:MV}{lo hi:Option Int}{M:MH}{Q Q':QM}(hq:∀m M',Q m M'->Q' m M')(h:wSl x lo hi M Q):wSl x lo hi M Q':=by
 unfold wSl at h ⊢;split at h
 ·exact hq _ _ h
 ·exact λp hp=>hq _ _ (h p hp)
 ·obtain⟨xs,h1,h2⟩:=h;exact⟨xs,h1,λp hp=>hq _ _ (h2 p hp)⟩
 ·exact⟨h.1,hq _ _ h.2⟩
 ·exact h.elim
def liS(K:X5)(w:WS):V->Option Int->Option Int->Hp->VK->Prop:=λx lo hi H Q=>∃mx M,RM K H mx x/\RH K M H/\w mx lo hi M (Dn K H Q)
section
variable{X:Cx}
theorem Zow:SlR X (liS X.K wSl):=by
 intro pins s σ H x v vl vu lo hi sl Q I rx hs pl pu h;obtain⟨mx,M,r1,rh,h⟩:=h;unfold wSl at h;split at h
 ·rename_i ms
  cases r1 with
  |tup h1 q1=>
   rename_i vs
   by_cases hw:HT.sIx ms.length 0 lo=0/\HT.sIx ms.length ms.length hi=ms.length
   ·have e:cutM ms lo hi=ms:=by unfold cutM;rw[hw.1,hw.2,DT,Nat.sub_zero,DO]
    rw[e]at h;refine Zmk pins s σ H _ v vl vu lo hi sl Q I rx hs pl pu ⟨_,_,rfl,SqT.of h1,by rw[<- q1.length];exact hw.1,by rw[<- q1.length];exact hw.2,?_⟩
    exact h _ _ (Kp.refl _) (.tup h1 q1) rh
   refine TL pins s σ H _ v vl vu lo hi sl Q I rx hs pl pu ⟨_,_,rfl,SqT.of h1,by rw[<- q1.length];exact hw,λp hp=>?_⟩
   have k:=Kp.new hp (.tup (cutV vs lo hi));exact h _ _ k (.tup Zh ((q1.cut lo hi).mono k)) (rh.kept hp _)
 ·cases r1 with
  |frl h1 q1=>
   rename_i vs
   refine IJ pins s σ H _ v vl vu lo hi sl Q I rx hs pl pu ⟨_,_,rfl,h1.sq,λp hp=>?_⟩;have k:=Kp.new hp (.lst (cutV vs lo hi));exact h p (rh.free hp) _ _ k (.ref p) (rh.put k ((q1.cut lo hi).mono k))
 ·cases r1;obtain⟨xs,h1,h⟩:=h;obtain⟨vs,e,q1⟩:=rh.lst h1;refine IJ pins s σ H _ v vl vu lo hi sl Q I rx hs pl pu ⟨_,_,rfl,SqL.of e,λp hp=>?_⟩;have k:=Kp.new hp (.lst (cutV vs lo hi));exact h p (rh.free hp) _ _ k (.ref p) (rh.put k ((q1.cut lo hi).mono k))
 ·cases r1;exact Zov pins s σ H _ v vl vu lo hi sl Q I rx hs pl pu ⟨_,rfl,h.1,h.2 _ _ (Kp.refl _) (.str _) rh⟩
 ·exact h.elim
end
def tyM(M:MH):MV->Option Ty7
 |.non=>some .none|.bl _=>some .bool|.int _=>some .int|.str _=>some .str|.tup _=>some .tuple
 |.ref a=>match M a with|some (.lst _)=>some .list|some (.dic _)=>some .dict|_=>none
 |_=>none
def isTy:Ty7->Ty7->Bool
 |.bool,.int=>true
 |a,b=>decide (a=b)
theorem EA(K:X5)(T c:Ty7)(hc:c≠.none):V1 K (.type T.name) (.type c.name)=some (isTy T c):=by
 cases T<;>cases c<;>first|exact absurd rfl hc|with_unfolding_all rfl
theorem JM{K:X5}{M:MH}{H:Hp}{m:MV}{v:V}{T:Ty7}(rh:RH K M H)(r:RM K H m v)(e:tyM M m=some T):TyOf K H v (.type T.name):=by
 cases r with
 |non=>cases e;exact .non
 |bl b=>cases e;exact .bl b
 |int i=>cases e;exact .int i
 |str x=>cases e;exact .str x
 |tup h _=>cases e;exact .tup h
 |frl _ _=>cases e
 |ty _=>cases e
 |ref a=>
  unfold tyM at e;dsimp only at e;cases q:M a with
  |none=>rw[q]at e;cases e
  |some o=>
   rw[q]at e;cases o with
   |lst xs=>cases e;obtain⟨vs,h,_⟩:=rh.lst q;exact .lst h
   |dic kvs=>cases e;obtain⟨vs,h,_⟩:=rh.dic q;exact .dK h
   |ins _ _=>cases e
   |fdic _ _=>cases e
inductive BI where|len|isinst|max|min|sum|abs|int|list|tuple|dict|sorted|dictL|all
  deriving DecidableEq
def bLen(vs:List MV)(M:MH)(Q:QM):Prop:=match vs with
 |[.tup xs]=>Q (.int xs.length) M
 |[.frl xs]=>Q (.int xs.length) M
 |[.str z]=>z.length≤sizeLine/\Q (.int z.length) M
 |[.ref a]=>(∃xs,M a=some (.lst xs)/\Q (.int xs.length) M)\/∃kvs,M a=some (.dic kvs)/\Q (.int kvs.length) M
 |_=>False
def bIsi(vs:List MV)(M:MH)(Q:QM):Prop:=match vs with
 |[x,.ty c]=>∃T,tyM M x=some T/\c≠.none/\Q (.bl (isTy T c)) M
 |[x,.tup [.ty c,.ty d]]=>∃T,tyM M x=some T/\c≠.none/\d≠.none/\Q (.bl (isTy T c||isTy T d)) M
 |_=>False
def bMax(vs:List MV)(M:MH)(Q:QM):Prop:=match vs with
 |[.int i,.int j]=>Q (.int (if j>i then j else i)) M
 |[.ref a]=>∃ns:List Int,M a=some (.lst (ns.map MV.int))/\0<ns.length/\∀m,m∈ns->(∀x∈ns,x≤m)->Q (.int m) M
 |_=>False
def bMin(vs:List MV)(M:MH)(Q:QM):Prop:=match vs with
 |[.int i,.int j]=>Q (.int (if j<i then j else i)) M
 |[.ref a]=>∃ns:List Int,M a=some (.lst (ns.map MV.int))/\0<ns.length/\∀m,m∈ns->(∀x∈ns,m≤x)->Q (.int m) M
 |_=>False
def bAbs(vs:List MV)(M:MH)(Q:QM):Prop:=match vs with
 |[.int i]=>Q (.int (if i<0 then -i else i)) M
 |_=>False
def bInt(vs:List MV)(M:MH)(Q:QM):Prop:=match vs with
 |[.int i]=>Q (.int i) M
 |[.bl k]=>Q (.int (if k then 1 else 0)) M
 |_=>False
def bLst(vs:List MV)(M:MH)(Q:QM):Prop:=match vs with
 |[.tup xs]=>∀p,M p=none->Q (.ref p) (updM M p (.lst xs))
 |[.frl xs]=>∀p,M p=none->Q (.ref p) (updM M p (.lst xs))
 |[.ref a]=>∃xs,M a=some (.lst xs)/\∀p,M p=none->Q (.ref p) (updM M p (.lst xs))
 |_=>False
def bTup(vs:List MV)(M:MH)(Q:QM):Prop:=match vs with
 |[.tup xs]=>Q (.tup xs) M
 |[.frl xs]=>Q (.tup xs) M
 |[.ref a]=>∃xs,M a=some (.lst xs)/\Q (.tup xs) M
 |_=>False
def prM(p:Key×MV):MV:=.tup [match p.1 with|.inl i=>.int i|.inr x=>.str x,p.2]
def YR(ps:List (Key×MV)):List (Key×MV):=ps.foldl (λc z=>putM c z.1 z.2) []
def bDic(vs:List MV)(M:MH)(Q:QM):Prop:=match vs with
 |[.ref a]=>∃kvs,M a=some (.dic kvs)/\∀p,M p=none->Q (.ref p) (updM M p (.dic kvs))
 |[.tup xs]=>∃ps:List (Key×MV),xs=ps.map prM/\∀p,M p=none->Q (.ref p) (updM M p (.dic (YR ps)))
 |_=>False
def bDcl(vs:List MV)(M:MH)(Q:QM):Prop:=match vs with
 |[.ref a]=>∃ps:List (Key×MV),M a=some (.lst (ps.map prM))/\∀p,M p=none->Q (.ref p) (updM M p (.dic (YR ps)))
 |_=>False
theorem EB{K:X5}{H:Hp}:∀{ps:List (Key×MV)} {vs:List V},RMs K H (ps.map prM) vs->∃ps':List (Key×V),Ex H ps' vs/\RKs K H ps ps'
 |[],_,.nil=>⟨[],.nil,.nil⟩
 |(k,x)::r,_,.cons (.tup e t) u=>by
  obtain⟨ps',h1,h2⟩:=EB u;cases t with
  |cons t1 t2=>
   cases t2 with
   |cons t3 t4=>
    cases t4
    rename_i v1 v2
    refine⟨(k,v2)::ps',.cons ⟨_,rfl,?_⟩ h1,.cons t3 h2⟩;rw[e];cases k<;>cases t1<;>rfl
theorem EC{K:X5}{H:Hp}:∀{ps:List (Key×MV)} {ps':List (Key×V)} {c:List (Key×MV)} {c':List (Key×V)},RKs K H ps ps'->RKs K H c c'->(c.map (·.1)).Nodup->
  RKs K H (ps.foldl (λc z=>putM c z.1 z.2) c) (ps'.foldl (λc z=>putK c z.1 z.2) c')/\((ps.foldl (λc z=>putM c z.1 z.2) c).map (·.1)).Nodup
 |_,_,_,_,.nil,h,nd=>⟨h,nd⟩
 |_,_,_,_,.cons r t,h,nd=>by
  obtain⟨a,b⟩:=JC r nd h;have z:=EC t a b;exact z
def bAll(vs:List MV)(M:MH)(Q:QM):Prop:=match vs with
 |[.ref a]=>∃bs:List Bool,M a=some (.lst (bs.map MV.bl))/\Q (.bl (bs.all id)) M
 |_=>False
theorem RMs.bls_of{K:X5}{H:Hp}:∀{bs:List Bool} {vs:List V},RMs K H (bs.map MV.bl) vs->vs=bs.map V.bl
 |[],_,.nil=>rfl
 |n::r,_,.cons (.bl _) t=>by rw[t.bls_of];rfl
def wBi(f:BI)(vs:List MV)(M:MH)(Q:QM):Prop:=match f with
 |.len=>bLen vs M Q
 |.isinst=>bIsi vs M Q
 |.max=>bMax vs M Q
 |.min=>bMin vs M Q
 |.sum=>False
 |.abs=>bAbs vs M Q
 |.int=>bInt vs M Q
 |.list=>bLst vs M Q
 |.tuple=>bTup vs M Q
 |.dict=>bDic vs M Q
 |.sorted=>False
 |.dictL=>bDcl vs M Q
 |.all=>bAll vs M Q
theorem Zng:MonW bLen:=by
 intro vs M Q Q' hq h;unfold bLen at h ⊢;split at h
 ·exact hq _ _ h
 ·exact hq _ _ h
 ·exact⟨h.1,hq _ _ h.2⟩
 ·rcases h with⟨xs,h1,h2⟩|⟨xs,h1,h2⟩
  ·exact .inl ⟨xs,h1,hq _ _ h2⟩
  ·exact .inr ⟨xs,h1,hq _ _ h2⟩
 ·exact h.elim
theorem JN(f:BI):MonW (wBi f):=by
 intro vs M Q Q' hq h;cases f
 ·exact Zng hq h
 ·have h:bIsi vs M Q:=h;show bIsi vs M Q';unfold bIsi at h ⊢;split at h
  ·obtain⟨T,h1,h2,h3⟩:=h;exact⟨T,h1,h2,hq _ _ h3⟩
  ·obtain⟨T,h1,h2,h3,h4⟩:=h;exact⟨T,h1,h2,h3,hq _ _ h4⟩
  ·exact h.elim
 ·have h:bMax vs M Q:=h;show bMax vs M Q';unfold bMax at h ⊢;split at h
  ·exact hq _ _ h
  ·obtain⟨ns,h1,h2,h3⟩:=h;exact⟨ns,h1,h2,λm a b=>hq _ _ (h3 m a b)⟩
  ·exact h.elim
 ·have h:bMin vs M Q:=h;show bMin vs M Q';unfold bMin at h ⊢;split at h
  ·exact hq _ _ h
  ·obtain⟨ns,h1,h2,h3⟩:=h;exact⟨ns,h1,h2,λm a b=>hq _ _ (h3 m a b)⟩
  ·exact h.elim
 ·exact Yg h
 ·have h:bAbs vs M Q:=h;show bAbs vs M Q';unfold bAbs at h ⊢;split at h
  ·exact hq _ _ h
  ·exact h.elim
 ·have h:bInt vs M Q:=h;show bInt vs M Q';unfold bInt at h ⊢;split at h
  ·exact hq _ _ h
  ·exact hq _ _ h
  ·exact h.elim
 ·have h:bLst vs M Q:=h;show bLst vs M Q';unfold bLst at h ⊢;split at h
  ·exact λp hp=>hq _ _ (h p hp)
  ·exact λp hp=>hq _ _ (h p hp)
  ·obtain⟨xs,h1,h2⟩:=h;exact⟨xs,h1,λp hp=>hq _ _ (h2 p hp)⟩
  ·exact h.elim
 ·have h:bTup vs M Q:=h;show bTup vs M Q';unfold bTup at h ⊢;split at h
  ·exact hq _ _ h
  ·exact hq _ _ h
  ·obtain⟨xs,h1,h2⟩:=h;exact⟨xs,h1,hq _ _ h2⟩
  ·exact h.elim
 ·have h:bDic vs M Q:=h;show bDic vs M Q';unfold bDic at h ⊢;split at h
  ·obtain⟨xs,h1,h2⟩:=h;exact⟨xs,h1,λp hp=>hq _ _ (h2 p hp)⟩
  ·obtain⟨xs,h1,h2⟩:=h;exact⟨xs,h1,λp hp=>hq _ _ (h2 p hp)⟩
  ·exact h.elim
 ·exact Yg h
 ·have h:bDcl vs M Q:=h;show bDcl vs M Q';unfold bDcl at h ⊢;split at h
  ·obtain⟨ps,h1,h2⟩:=h;exact⟨ps,h1,λp hp=>hq _ _ (h2 p hp)⟩
  ·exact h.elim
 ·have h:bAll vs M Q:=h;show bAll vs M Q';unfold bAll at h ⊢;split at h
  ·obtain⟨bs,h1,h2⟩:=h;exact⟨bs,h1,hq _ _ h2⟩
  ·exact h.elim
def BI.val:BI->X0
 |.len=>.builtin "len"|.isinst=>.builtin "isinstance"|.max=>.builtin "max"|.min=>.builtin "min"|.sum=>.builtin "sum"|.abs=>.builtin "abs"
 |.int=>.type "int"|.list=>.type "list"|.tuple=>.type "tuple"|.dict=>.type "dict"|.sorted=>.builtin "sorted"|.dictL=>.type "dict"|.all=>.builtin "all"
section
variable{X:Cx}
theorem RMs.one{K:X5}{H:Hp}{m:MV}{vs:List V}(r:RMs K H [m] vs):∃v,vs=[v]/\RM K H m v:=by
 cases r with
 |cons a b=>cases b;exact⟨_,rfl,a⟩
theorem RMs.two{K:X5}{H:Hp}{m n:MV}{vs:List V}(r:RMs K H [m,n] vs):∃v w,vs=[v,w]/\RM K H m v/\RM K H n w:=by
 cases r with
 |cons a b=>obtain⟨w,rfl,c⟩:=b.one;exact⟨_,_,rfl,a,c⟩
theorem Zf6:CallR X (.type "dict") (fun xs H Q=>∃a kvs,xs=[.ref a]/\H a=some (.dK kvs)/\∀p,H p=none->Q (.ref p) (upd H p (.dK kvs))):=by
 intro pins s σ H xs us Q I r h;obtain⟨a,kvs,rfl,ha,q⟩:=h;obtain⟨u,rfl,ru⟩:=Z1 r;cases ru;exact Zl2 I (.inl ha) λp s' hp I'=>⟨.ref p,_,I',rfl,q p hp⟩
theorem ZnY(hc:X.calm=true)(f:BI):CallR X f.val (liW X.K (wBi f)):=by
 intro pins s σ H xs us Q I r h;obtain⟨ms,M,r1,rh,h⟩:=h;cases f with
 |len=>
  have h:bLen ms M (Dn X.K H Q):=h;unfold bLen at h;split at h
  ·obtain⟨v,rfl,a⟩:=r1.one;cases a with
   |tup h1 q1=>exact Ep pins s σ H _ us Q I r ⟨_,_,rfl,.inr (SqT.of h1),by rw[<- q1.length];exact h _ _ (Kp.refl _) (.int _) rh⟩
  ·obtain⟨v,rfl,a⟩:=r1.one;cases a with
   |frl h1 q1=>exact Ep pins s σ H _ us Q I r ⟨_,_,rfl,.inl h1.sq,by rw[<- q1.length];exact h _ _ (Kp.refl _) (.int _) rh⟩
  ·obtain⟨v,rfl,a⟩:=r1.one;cases a;exact TZ pins s σ H _ us Q I r ⟨_,rfl,h.1,h.2 _ _ (Kp.refl _) (.int _) rh⟩
  ·obtain⟨v,rfl,a⟩:=r1.one;cases a;rcases h with⟨xs,h1,h⟩|⟨kvs,h1,h⟩
   ·obtain⟨vs,e,q1⟩:=rh.lst h1;exact Ep pins s σ H _ us Q I r ⟨_,_,rfl,.inl (SqL.of e),by rw[<- q1.length];exact h _ _ (Kp.refl _) (.int _) rh⟩
   ·obtain⟨vs,e,q1,_⟩:=rh.dic h1;exact ZjA pins s σ H _ us Q I r ⟨_,_,rfl,e,by rw[<- q1.length];exact h _ _ (Kp.refl _) (.int _) rh⟩
  ·exact h.elim
 |isinst=>
  have h:bIsi ms M (Dn X.K H Q):=h;unfold bIsi at h;split at h
  ·obtain⟨v,w,rfl,a,b⟩:=r1.two;cases b;obtain⟨T,h1,h2,h3⟩:=h;exact Zg5 pins s σ H _ us Q I r ⟨_,_,_,_,rfl,JM rh a h1,EA _ _ _ h2,h3 _ _ (Kp.refl _) (.bl _) rh⟩
  ·obtain⟨v,w,rfl,a,b⟩:=r1.two;obtain⟨T,h1,h2,h3,h4⟩:=h;cases b with
   |tup ht qt=>
    cases qt with
    |cons q1 q2=>
     cases q2 with
     |cons q3 q4=>
      cases q4;cases q1;cases q3;exact Zf4 pins s σ H _ us Q I r ⟨_,_,_,_,_,_,_,rfl,ht,JM rh a h1,EA _ _ _ h2,EA _ _ _ h3,h4 _ _ (Kp.refl _) (.bl _) rh⟩
  ·exact h.elim
 |max=>
  have h:bMax ms M (Dn X.K H Q):=h;unfold bMax at h;split at h
  ·obtain⟨v,w,rfl,a,b⟩:=r1.two;cases a;cases b;exact T4 hc pins s σ H _ us Q I r ⟨_,_,rfl,h _ _ (Kp.refl _) (.int _) rh⟩
  ·obtain⟨v,rfl,a⟩:=r1.one;cases a;obtain⟨ns,h1,h2,h3⟩:=h;obtain⟨vs,e,q1⟩:=rh.lst h1;have:=q1.ints_of;subst this;exact Zjx hc pins s σ H _ us Q I r ⟨_,ns,rfl,SqL.of e,h2,λm a b=>h3 m a b _ _ (Kp.refl _) (.int _) rh⟩
  ·exact h.elim
 |min=>
  have h:bMin ms M (Dn X.K H Q):=h;unfold bMin at h;split at h
  ·obtain⟨v,w,rfl,a,b⟩:=r1.two;cases a;cases b;exact T5 hc pins s σ H _ us Q I r ⟨_,_,rfl,h _ _ (Kp.refl _) (.int _) rh⟩
  ·obtain⟨v,rfl,a⟩:=r1.one;cases a;obtain⟨ns,h1,h2,h3⟩:=h;obtain⟨vs,e,q1⟩:=rh.lst h1;have:=q1.ints_of;subst this;exact Zjv hc pins s σ H _ us Q I r ⟨_,ns,rfl,SqL.of e,h2,λm a b=>h3 m a b _ _ (Kp.refl _) (.int _) rh⟩
  ·exact h.elim
 |sum=>exact Yg h
 |abs=>
  have h:bAbs ms M (Dn X.K H Q):=h;unfold bAbs at h;split at h
  ·obtain⟨v,rfl,a⟩:=r1.one;cases a;exact T3 pins s σ H _ us Q I r ⟨_,rfl,h _ _ (Kp.refl _) (.int _) rh⟩
  ·exact h.elim
 |int=>
  have h:bInt ms M (Dn X.K H Q):=h;unfold bInt at h;split at h
  ·obtain⟨v,rfl,a⟩:=r1.one;cases a;exact Io pins s σ H _ us Q I r (.inl ⟨_,rfl,h _ _ (Kp.refl _) (.int _) rh⟩)
  ·obtain⟨v,rfl,a⟩:=r1.one;cases a;exact Io pins s σ H _ us Q I r (.inr ⟨_,rfl,h _ _ (Kp.refl _) (.int _) rh⟩)
  ·exact h.elim
 |list=>
  have h:bLst ms M (Dn X.K H Q):=h;unfold bLst at h;split at h
  ·obtain⟨v,rfl,a⟩:=r1.one;cases a with
   |tup h1 q1=>
    refine Er pins s σ H _ us Q I r ⟨_,_,rfl,.inr (SqT.of h1),λp hp=>?_⟩;have k:=λz=>Kp.new hp (.lst z);exact h p (rh.free hp) _ _ (k _) (.ref p) (rh.put (k _) (q1.mono (k _)))
  ·obtain⟨v,rfl,a⟩:=r1.one;cases a with
   |frl h1 q1=>
    refine Er pins s σ H _ us Q I r ⟨_,_,rfl,.inl h1.sq,λp hp=>?_⟩;have k:=λz=>Kp.new hp (.lst z);exact h p (rh.free hp) _ _ (k _) (.ref p) (rh.put (k _) (q1.mono (k _)))
  ·obtain⟨v,rfl,a⟩:=r1.one;cases a;obtain⟨xs,h1,h⟩:=h;obtain⟨vs,e,q1⟩:=rh.lst h1;refine Er pins s σ H _ us Q I r ⟨_,_,rfl,.inl (SqL.of e),λp hp=>?_⟩;have k:=Kp.new hp (.lst vs);exact h p (rh.free hp) _ _ k (.ref p) (rh.put k (q1.mono k))
  ·exact h.elim
 |tuple=>
  have h:bTup ms M (Dn X.K H Q):=h;unfold bTup at h;split at h
  ·obtain⟨v,rfl,a⟩:=r1.one;cases a with
   |tup h1 q1=>exact Es pins s σ H _ us Q I r ⟨_,_,rfl,.inr ⟨SqT.of h1,h _ _ (Kp.refl _) (.tup h1 q1) rh⟩⟩
  ·obtain⟨v,rfl,a⟩:=r1.one;cases a with
   |frl h1 q1=>
    refine Es pins s σ H _ us Q I r ⟨_,_,rfl,.inl ⟨h1.sq,λp hp=>?_⟩⟩;have k:=λz=>Kp.new hp (.tup z);exact h _ _ (k _) (.tup Zh (q1.mono (k _))) (rh.kept hp _)
  ·obtain⟨v,rfl,a⟩:=r1.one;cases a;obtain⟨xs,h1,h⟩:=h;obtain⟨vs,e,q1⟩:=rh.lst h1;refine Es pins s σ H _ us Q I r ⟨_,_,rfl,.inl ⟨SqL.of e,λp hp=>?_⟩⟩;have k:=Kp.new hp (.tup vs);exact h _ _ k (.tup Zh (q1.mono k)) (rh.kept hp _)
  ·exact h.elim
 |dict=>
  have h:bDic ms M (Dn X.K H Q):=h;unfold bDic at h;split at h
  ·obtain⟨v,rfl,a⟩:=r1.one;cases a;obtain⟨kvs,h1,h⟩:=h;obtain⟨vs,e,q1,nd⟩:=rh.dic h1;refine Zf6 pins s σ H _ us Q I r ⟨_,_,rfl,e,λp hp=>?_⟩;have k:=Kp.new hp (.dK vs);exact h p (rh.free hp) _ _ k (.ref p) (rh.put k ⟨q1.mono k,nd⟩)
  ·obtain⟨v,rfl,a⟩:=r1.one;obtain⟨ps,rfl,h2⟩:=h;cases a with
   |tup e q1=>
    obtain⟨ps',pv,rk⟩:=EB q1;refine Zg6 hc pins s σ H _ us Q I r ⟨_,ps',_,rfl,e,pv,λp hp=>?_⟩;have k:=Kp.new hp (.dK (U4 ps'));obtain⟨z1,z2⟩:=EC rk (.nil:RKs X.K H [] []) (by simp)
    exact h2 p (rh.free hp) _ _ k (.ref p) (rh.put k ⟨z1.mono k,z2⟩)
  ·exact h.elim
 |sorted=>exact Yg h
 |dictL=>
  have h:bDcl ms M (Dn X.K H Q):=h;unfold bDcl at h;split at h
  ·obtain⟨v,rfl,a⟩:=r1.one;cases a;obtain⟨ps,h1,h2⟩:=h;obtain⟨vs,e,q1⟩:=rh.lst h1;obtain⟨ps',pv,rk⟩:=EB q1;refine ZhE hc pins s σ H _ us Q I r ⟨_,ps',vs,rfl,e,pv,λp hp=>?_⟩;have k:=Kp.new hp (.dK (U4 ps'));obtain⟨z1,z2⟩:=EC rk (.nil:RKs X.K H [] []) (by simp)
   exact h2 p (rh.free hp) _ _ k (.ref p) (rh.put k ⟨z1.mono k,z2⟩)
  ·exact h.elim
 |all=>
  have h:bAll ms M (Dn X.K H Q):=h;unfold bAll at h;split at h
  ·obtain⟨v,rfl,a⟩:=r1.one;cases a;obtain⟨bs,h1,h2⟩:=h;obtain⟨vs,e,q1⟩:=rh.lst h1;have:=q1.bls_of;subst this;exact ZjB hc pins s σ H _ us Q I r ⟨_,bs,rfl,SqL.of e,h2 _ _ (Kp.refl _) (.bl _) rh⟩
  ·exact h.elim
end
theorem RMs.strs{K:X5}{H:Hp}:∀ns:List Str,RMs K H (ns.map MV.str) (ns.map V.str)
 |[]=>.nil
 |n::r=>.cons (.str n) (RMs.strs r)
theorem RMs.strs_of{K:X5}{H:Hp}:∀{ns:List Str} {vs:List V},RMs K H (ns.map MV.str) vs->vs=ns.map V.str
 |[],_,.nil=>rfl
 |n::r,_,.cons (.str _) t=>by rw[t.strs_of];rfl
theorem JO{K:X5}{H:Hp}(f:Nat->Int):∀l:List Nat,RMs K H (l.map λi=>MV.int (f i)) (l.map λi=>V.int (f i))
 |[]=>.nil
 |_::r=>.cons (.int _) (JO f r)
theorem Zic{K:X5}{H:Hp}(n:Nat):RMs K H ((Xx n).map λi=>MV.int (i:Nat)) ((Xx n).map λi=>V.int (i:Nat)):=JO (λi=>(i:Int)) _
inductive B2 where|ssrt|lset|tset|lrng
  deriving DecidableEq
def B2.out:B2->String
 |.ssrt=>"sorted"
 |.lset=>"len"
 |.tset=>"len"
 |.lrng=>"list"
def B2.inn:B2->String
 |.ssrt=>"set"
 |.lset=>"set"
 |.tset=>"set"
 |.lrng=>"range"
def B2.outV:B2->X0
 |.ssrt=>.builtin "sorted"
 |.lset=>.builtin "len"
 |.tset=>.builtin "len"
 |.lrng=>.type "list"
def wB2(f:B2)(v:MV)(M:MH)(Q:QM):Prop:=match f with
 |.ssrt=>∃(a:Addr) (xs N:List Str),v=.ref a/\M a=some (.lst (xs.map MV.str))/\xs.length+1<scanBound/\(∀z∈xs,z∈N)/\N.length<64/\
   ∀p (ys:List Str),M p=none->ys.Nodup->(∀y,y∈ys↔y∈xs)->sortedS ys=true->Q (.ref p) (updM M p (.lst (ys.map MV.str)))
 |.lset=>False
 |.tset=>False
 |.lrng=>∃n:Nat,v=.int n/\n≤1000000/\∀p,M p=none->Q (.ref p) (updM M p (.lst ((Xx n).map λi=>MV.int (i:Nat))))
theorem JP(f:B2):Mon1 (wB2 f):=by
 intro v M Q Q' hq h;cases f with
 |ssrt=>
  obtain⟨a,xs,N,h1,h2,h3,h4,h5,h6⟩:=h;exact⟨a,xs,N,h1,h2,h3,h4,h5,λp ys a1 a2 a3 a4=>hq _ _ (h6 p ys a1 a2 a3 a4)⟩
 |lset=>exact Yg h
 |tset=>exact Yg h
 |lrng=>
  obtain⟨n,h1,h2,h3⟩:=h;exact⟨n,h1,h2,λp hp=>hq _ _ (h3 p hp)⟩
section
variable{X:Cx}
theorem ZnZ(hc:X.calm=true)(f:B2):A0 X f.outV (.type f.inn) (li1 X.K (wB2 f)):=by
 intro pins s σ H x u Q I r h;obtain⟨m,M,r1,rh,h⟩:=h;cases f with
 |ssrt=>
  obtain⟨a,xs,N,rfl,h2,h3,h4,h5,h6⟩:=h;cases r1;obtain⟨vs,e,q1⟩:=rh.lst h2;have:=q1.strs_of;subst this;refine Zjt hc pins s σ H _ u Q I r ⟨_,xs,N,rfl,SqL.of e,h3,h4,h5,λp ys hp a1 a2 a3=>?_⟩;have k:=Kp.new hp (.lst (ys.map V.str));exact h6 p ys (rh.free hp) a1 a2 a3 _ _ k (.ref p) (rh.put k (RMs.strs ys))
 |lset=>exact Yg h
 |tset=>exact Yg h
 |lrng=>
  obtain⟨n,rfl,h2,h3⟩:=h;cases r1;refine Zjz hc pins s σ H _ u Q I r ⟨n,rfl,h2,λp hp=>?_⟩;have k:=Kp.new hp (.lst ((Xx n).map λi=>V.int (i:Nat)));exact h3 p (rh.free hp) _ _ k (.ref p) (rh.put k (Zic n))
end
inductive MT where|append|extend|reverse|clear|pop|popAt|dclear|dget|dgetD|join|remove
  deriving DecidableEq
def wMt(m:MT)(a:Addr)(vs:List MV)(M:MH)(Q:QM):Prop:=∃xs,M a=some (.lst xs)/\match m,vs with
 |.append,[y]=>xs.length<sizeLine/\Q .non (updM M a (.lst (xs++[y])))
 |.extend,[.ref b]=>∃ys,M b=some (.lst ys)/\xs.length+ys.length≤sizeLine/\Q .non (updM M a (.lst (xs++ys)))
 |_,_=>False
def wMl(m:MT)(x:MV)(vs:List MV)(M:MH)(Q:QM):Prop:=match x with
 |.ref a=>wMt m a vs M Q
 |_=>False
def wMd(m:MT)(x:MV)(vs:List MV)(M:MH)(Q:QM):Prop:=match m with
 |_=>False
def MT.isL:MT->Bool
 |.dclear=>false|.dget=>false|.dgetD=>false|.join=>false|_=>true
def MT.ty:MT->String
 |.dclear=>"dict"|.dget=>"dict"|.dgetD=>"dict"|.join=>"str"|_=>"list"
def mtOk(m:MT)(x:MV)(M:MH):Prop:=match m with
 |.dclear=>∃a kvs,x=.ref a/\M a=some (.dic kvs)
 |.dget=>∃a kvs,x=.ref a/\M a=some (.dic kvs)
 |.dgetD=>∃a kvs,x=.ref a/\M a=some (.dic kvs)
 |.join=>∃z,x=.str z
 |_=>∃a xs,x=.ref a/\M a=some (.lst xs)
def wMts(m:MT)(x:MV)(vs:List MV)(M:MH)(Q:QM):Prop:=match m with
 |.dclear=>wMd .dclear x vs M Q
 |.dget=>wMd .dget x vs M Q
 |.dgetD=>wMd .dgetD x vs M Q
 |.join=>wMd .join x vs M Q
 |m=>wMl m x vs M Q
theorem JQ{m:MT}{x:MV}{vs:List MV}{M:MH}{Q:QM}(h:m.isL=true):wMts m x vs M Q=wMl m x vs M Q:=by cases m<;>first|rfl|cases h
theorem JR{m:MT}{x:MV}{vs:List MV}{M:MH}{Q:QM}(h:m.isL=false):wMts m x vs M Q=wMd m x vs M Q:=by cases m<;>first|rfl|cases h
theorem ZpD{m:MT}{a:MV}{vs:List MV}{M:MH}{Q Q':QM}(hq:∀m M',Q m M'->Q' m M')(h:wMl m a vs M Q):wMl m a vs M Q':=by
 cases a<;>try exact h.elim
 obtain⟨xs,h1,h⟩:=h;refine⟨xs,h1,?_⟩;split at h
 ·exact⟨h.1,hq _ _ h.2⟩
 ·obtain⟨ys,a,b,c⟩:=h;exact⟨ys,a,b,hq _ _ c⟩
 ·exact h.elim
theorem ZpE{m:MT}{x:MV}{vs:List MV}{M:MH}{Q Q':QM}(hq:∀m M',Q m M'->Q' m M')(h:wMd m x vs M Q):wMd m x vs M Q':=by
 cases m<;>try exact h.elim
theorem ED{m:MT}{a:MV}{vs:List MV}{M:MH}{Q Q':QM}(hq:∀m M',Q m M'->Q' m M')(h:wMts m a vs M Q):wMts m a vs M Q':=by
 cases e:m.isL
 ·rw[JR e]at h ⊢;exact ZpE hq h
 ·rw[JQ e]at h ⊢;exact ZpD hq h
def MT.id:MT->String
 |.dclear=>"dict.clear"|.dget=>"dict.get"|.dgetD=>"dict.get"|.join=>"str.join"
 |.append=>"list.append"|.extend=>"list.extend"|.reverse=>"list.reverse"|.clear=>"list.clear"|.pop=>"list.pop"|.popAt=>"list.pop"|.remove=>"list.remove"
def liM(K:X5)(w:MV->List MV->MH->QM->Prop):V->List V->Hp->VK->Prop:=λx xs H Q=>∃mx ms M,RM K H mx x/\RMs K H ms xs/\RH K M H/\w mx ms M (Dn K H Q)
section
variable{X:Cx}
theorem Znc(m:MT):MtR X m.id (liM X.K (wMl m)):=by
 intro pins s σ H x xs v us Q I rx rs h;obtain⟨mx,ms,M,r1,r2,rh,h⟩:=h;cases r1<;>try exact h.elim
 obtain⟨ys,h1,h⟩:=h;obtain⟨vs,e,q1⟩:=rh.lst h1;have ku:∀o,Kp H (upd H _ o):=λo=>Kp.upd e rfl o;split at h
 ·obtain⟨w,rfl,r3⟩:=r2.one;exact IP pins s σ H _ _ v us Q I rx rs ⟨_,vs,w,rfl,rfl,e,by rw[<- q1.length];exact h.1,h.2 _ _ (ku _) .non (rh.put (ku _) ((q1.append (.cons r3 .nil)).mono (ku _)))⟩
 ·obtain⟨w,rfl,r3⟩:=r2.one;cases r3;obtain⟨zs,a,b,c⟩:=h;obtain⟨ws,e2,q2⟩:=rh.lst a;exact Ziy pins s σ H _ _ v us Q I rx rs ⟨_,_,vs,ws,rfl,rfl,e,e2,by rw[<- q1.length,<- q2.length];exact b,c _ _ (ku _) .non (rh.put (ku _) ((q1.append q2).mono (ku _)))⟩
 ·exact h.elim
theorem Znd(hu:X.A.units+1<cLine)(m:MT):MtR X m.id (liM X.K (wMd m)):=by
 intro pins s σ H x xs v us Q I rx rs h;obtain⟨mx,ms,M,r1,r2,rh,h⟩:=h;cases m<;>try exact h.elim
theorem JS(hu:X.A.units+1<cLine)(m:MT):MtR X m.id (liM X.K (wMts m)):=by
 intro pins s σ H x xs v us Q I rx rs h;obtain⟨mx,ms,M,r1,r2,rh,h⟩:=h;cases e:m.isL
 ·rw[JR e]at h;exact Znd hu m pins s σ H x xs v us Q I rx rs ⟨mx,ms,M,r1,r2,rh,h⟩
 ·rw[JQ e]at h;exact Znc m pins s σ H x xs v us Q I rx rs ⟨mx,ms,M,r1,r2,rh,h⟩
end
def wPut(o i v:MV)(M:MH)(Q:MH->Prop):Prop:=match o with
 |.ref a=>(∃xs k j,M a=some (.lst xs)/\i=.int k/\ixN xs.length k=some j/\Q (updM M a (.lst (xs.set j v))))\/∃kvs kk,M a=some (.dic kvs)/\keyM i=some kk/\kvs.length<sizeLine/\Q (updM M a (.dic (putM kvs kk v)))
 |_=>False
theorem JT{o i v:MV}{M:MH}{Q Q':MH->Prop}(hq:∀M',Q M'->Q' M')(h:wPut o i v M Q):wPut o i v M Q':=by
 cases o<;>try exact h.elim
 rcases h with⟨xs,k,j,h1,h2,h3,h4⟩|⟨kvs,kk,h1,h2,h3,h4⟩
 ·exact .inl ⟨xs,k,j,h1,h2,h3,hq _ h4⟩
 ·exact .inr ⟨kvs,kk,h1,h2,h3,hq _ h4⟩
def DnH(K:X5)(H:Hp)(Q:Hp->Prop):MH->Prop:=λM=>∀H',Kp H H'->RH K M H'->Q H'
def JU(K:X5):TSet:=λo i v H Q=>∃mo mi mv M,RM K H mo o/\RM K H mi i/\RM K H mv v/\RH K M H/\wPut mo mi mv M (DnH K H Q)
section
variable{X:Cx}
theorem Zmm(hu:X.A.units+1<cLine):PSet X (JU X.K):=by
 intro pins s σ H o i v ov iv u Q I ro ri rv h;obtain⟨mo,mi,mv,M,r1,r2,r3,rh,h⟩:=h;cases r1<;>try exact h.elim
 rcases h with⟨xs,k,j,h1,rfl,h3,h4⟩|⟨kvs,kk,h1,h2,h3,h4⟩
 ·cases r2;obtain⟨vs,e,q1⟩:=rh.lst h1;have k:=Kp.upd e rfl (.lst (vs.set j v));exact TX pins s σ H _ _ v ov iv u Q I ro ri rv ⟨_,vs,_,j,rfl,rfl,e,by rw[<- q1.length];exact h3,h4 _ k (rh.put k ((q1.set r3 j).mono k))⟩
 ·obtain⟨vs,e,q1,nd⟩:=rh.dic h1;have ek:=A4 h2 r2;subst ek;obtain rfl:ov=Xs _:=ro;have k:=Kp.upd e rfl (.dK (putK vs kk v));obtain⟨q2,nd2⟩:=JC (k:=kk) r3 nd q1;exact Zjm hu I (DPut.k (k:=kk) e (by rw[<- q1.length];exact h3)) ri rv λs4 I4=>⟨_,I4,h4 _ k (rh.put k ⟨q2.mono k,nd2⟩)⟩
end
end L2
namespace L2
set_option genInjectivity false
open PySem PySem.Spec PyProof.Rows
mutual
inductive ITg where|nm (i:Nat)|tup (ts:ITgs)
inductive ITgs where|nil|cons (t:ITg) (ts:ITgs)
end
mutual
inductive IE where
 |var (i:Nat)
 |int (i:Int)|str (x:Str)|bl (b:Bool)|non
 |glb (x:Str) (i:Int)
 |ty (c:Ty7)
 |bin (op:Ud) (a b:IE)
 |neg (a:IE)
 |not (a:IE)
 |cmp (op:CmpOp) (a b:IE)
 |chn (op op':CmpOp) (a b c:IE)
 |and (a b:IE)
 |or (a b:IE)
 |ife (c a b:IE)
 |tup (es:IEs)
 |lst (es:IEs)
 |dic
 |ix (a b:IE)
 |sl (a:IE) (lo hi:IO)
 |call (j:Nat) (e:IE) (es:IEs)
 |bi (f:BI) (e:IE) (es:IEs)
 |b2 (f:B2) (e:IE)
 |mt (m:MT) (o:IE) (es:IEs)
 |comp (own:List Str) (fr:List Nat) (src:ISr) (tg:ITg) (test:IO) (elt:IE)
 |fld (c:Str) (o:IE) (f:Str)
 |mcall (j:Nat) (c m:Str) (o:IE) (es:IEs)
 |make (j:Nat) (c:Str) (e:IE) (es:IEs)
 |disp (ps:IPs)
 |mxd (e:IE)
 |st3 (e:IE)
inductive IPs where|nil|cons (k v:IE) (r:IPs)
inductive IEs where|nil|cons (e:IE) (es:IEs)
inductive IO where|none|some (e:IE)
inductive ISr where|seq (e:IE)|rng (e:IE)|rng2 (a b:IE)|rng3 (a b c:IE)
end
def wSt3(v:MV)(M:MH)(Q:QM):Prop:=∃(a:Addr) (xs:List MV),v=.ref a/\M a=some (.lst xs)/\∀p,M p=none->Q (.ref p) (updM M p (.lst (st3 xs)))
theorem Zne{v:MV}{M:MH}{Q Q':QM}(hq:∀v M,Q v M->Q' v M)(h:wSt3 v M Q):wSt3 v M Q':=by
 obtain⟨a,xs,h1,h2,h3⟩:=h;exact⟨a,xs,h1,h2,λp hp=>hq _ _ (h3 p hp)⟩
def wMxd(v:MV)(M:MH)(Q:QM):Prop:=∃(a:Addr) (ns:List Int),v=.ref a/\M a=some (.lst (ns.map MV.int))/\∀m,(ns=[]/\m=0\/m∈ns/\∀i∈ns,i≤m)->Q (.int m) M
theorem Znf{v:MV}{M:MH}{Q Q':QM}(hq:∀v M,Q v M->Q' v M)(h:wMxd v M Q):wMxd v M Q':=by
 obtain⟨a,ns,h1,h2,h3⟩:=h;exact⟨a,ns,h1,h2,λm hm=>hq _ _ (h3 m hm)⟩
inductive Src where|tup (xs:List MV)|lst (a:Addr) (xs:List MV)|rng (lo:Int) (n:Nat)|rst (lo st:Int) (n:Nat)|dic (a:Addr) (o:Obj) (kvs:List (Key×MV))|str (x:Str)
def kM:Key->MV
 |.inl i=>.int i
 |.inr x=>.str x
def Src.items:Src->List MV
 |.tup xs=>xs
 |.lst _ xs=>xs
 |.rng lo n=>(Xx n).map λi=>.int (lo+(i:Nat))
 |.rst lo st n=>(Xx n).map λi=>.int (lo+(i:Nat)*st)
 |.dic _ _ kvs=>kvs.map λp=>kM p.1
 |.str x=>x.cps.toList.map λc=>.str ⟨#[c]⟩
def Src.ok(M:MH):Src->Prop
 |.lst a xs=>M a=some (.lst xs)
 |.dic a o kvs=>M a=some (.fdic o kvs)
 |_=>True
def Src.okF(M:MH):Src->Prop
 |.lst a xs=>M a=some (.lst xs)
 |.dic _ _ _=>False
 |_=>True
def Src.okT(M:MH):Src->Prop
 |.dic a o kvs=>M a=some (.fdic o kvs)
 |_=>True
def Src.thaw(M:MH):Src->MH
 |.dic a _ kvs=>updM M a (.dic kvs)
 |_=>M
def Src.len:Src->Nat
 |.tup xs=>xs.length
 |.lst _ xs=>xs.length
 |.rng _ n=>n
 |.rst _ _ n=>n
 |.dic _ _ kvs=>kvs.length
 |.str x=>x.cps.size
theorem Src.items_len(S:Src):S.items.length=S.len:=by cases S<;>simp[Src.items,Src.len]
abbrev SpM:=List MV->MH->QM->Prop
abbrev TSm:=Sm->MH->(Src->MH->Prop)->Prop
mutual
def wTg:ITg->MV->Sm->(Sm->Prop)->Prop
 |.nm i,v,σ,Q=>Q (σ.set i (some v))
 |.tup ts,v,σ,Q=>∃xs,v=.tup xs/\wTgs ts xs σ Q
def wTgs:ITgs->List MV->Sm->(Sm->Prop)->Prop
 |.nil,xs,σ,Q=>xs=[]/\Q σ
 |.cons t ts,xs,σ,Q=>∃v r,xs=v::r/\wTg t v σ λσ'=>wTgs ts r σ' Q
end
def sCm(own:List Str)(fr:List Nat)(σ:Sm):Sm:=own.map (λ_=>none)++fr.map (λi=>σ.getD i none)
def onV(o:Option (Option MV))(k:MV->Prop):Prop:=match o with
 |some (some v)=>k v
 |_=>False
theorem Zpw{o:Option (Option MV)}{k:MV->Prop}:onV o k=∃v,o=some (some v)/\k v:=by
 refine propext ⟨λh=>?_,fun⟨v,e,h⟩=>by subst e;exact h⟩
 match o,h with
 |some (some v),h=>exact⟨v,rfl,h⟩
def onB(x:MV)(k:Bool->Prop):Prop:=match x with
 |.bl c=>k c
 |_=>False
theorem We{x:MV}{k:Bool->Prop}:onB x k=∃c,x=.bl c/\k c:=by
 refine propext ⟨λh=>?_,fun⟨v,e,h⟩=>by subst e;exact h⟩
 cases x<;>first|exact⟨_,rfl,h⟩|exact h.elim
def onF(o:Option (Str×SpM))(k:SpM->Prop):Prop:=match o with
 |some p=>k p.2
 |none=>False
theorem Zpx{o:Option (Str×SpM)}{k:SpM->Prop}:onF o k=∃f sp,o=some (f,sp)/\k sp:=by
 refine propext ⟨λh=>?_,fun⟨f,v,e,h⟩=>by subst e;exact h⟩
 match o,h with
 |some (f,sp),h=>exact⟨f,sp,rfl,h⟩
mutual
def wE(Φ:List (Str×SpM)):IE->TEm
 |.var i,σ,M,Q=>onV σ[i]? λv=>Q v M
 |.int i,_,M,Q=>Q (.int i) M
 |.str x,_,M,Q=>Q (.str x) M
 |.bl b,_,M,Q=>Q (.bl b) M
 |.non,_,M,Q=>Q .non M
 |.glb _ i,_,M,Q=>Q (.int i) M
 |.ty c,_,M,Q=>Q (.ty c) M
 |.bin op a b,σ,M,Q=>wE Φ a σ M λx M1=>wE Φ b σ M1 λy M2=>wBin op x y M2 Q
 |.neg a,σ,M,Q=>wE Φ a σ M λx M1=>∃i,x=.int i/\Q (.int (-i)) M1
 |.not a,σ,M,Q=>wE Φ a σ M λx M1=>onB x λb=>Q (.bl (!b)) M1
 |.cmp op a b,σ,M,Q=>wE Φ a σ M λx M1=>wE Φ b σ M1 λy M2=>wCmp op x y M2 Q
 |.chn op op' a b c,σ,M,Q=>wE Φ a σ M λx M1=>wE Φ b σ M1 λy M2=>wCmp op x y M2 λz M3=>onB z λk=>(if k=true then wE Φ c σ M3 λw M4=>wCmp op' y w M4 Q else Q (.bl false) M3)
 |.and a b,σ,M,Q=>wE Φ a σ M λx M1=>onB x λc=>(if c=true then wE Φ b σ M1 Q else Q (.bl false) M1)
 |.or a b,σ,M,Q=>wE Φ a σ M λx M1=>onB x λc=>(if c=true then Q (.bl true) M1 else wE Φ b σ M1 Q)
 |.ife c a b,σ,M,Q=>wE Φ c σ M λx M1=>onB x λk=>(if k=true then wE Φ a σ M1 Q else wE Φ b σ M1 Q)
 |.tup es,σ,M,Q=>wEs Φ es σ M λvs M1=>vs.length≤sizeLine/\Q (.tup vs) M1
 |.lst es,σ,M,Q=>wEs Φ es σ M λvs M1=>vs.length≤sizeLine/\∀p,M1 p=none->Q (.ref p) (updM M1 p (.lst vs))
 |.dic,_,M,Q=>∀p,M p=none->Q (.ref p) (updM M p (.dic []))
 |.ix a b,σ,M,Q=>wE Φ a σ M λx M1=>wE Φ b σ M1 λy M2=>wIx x y M2 Q
 |.sl a lo hi,σ,M,Q=>wE Φ a σ M λx M1=>wO Φ lo σ M1 λl M2=>wO Φ hi σ M2 λh M3=>wSl x l h M3 Q
 |.call j e es,σ,M,Q=>wE Φ e σ M λv M1=>wEs Φ es σ M1 λvs M2=>onF Φ[j]? λsp=>sp (v::vs) M2 Q
 |.bi f e es,σ,M,Q=>wE Φ e σ M λv M1=>wEs Φ es σ M1 λvs M2=>wBi f (v::vs) M2 Q
 |.b2 f e,σ,M,Q=>wE Φ e σ M λv M1=>wB2 f v M1 Q
 |.mxd e,σ,M,Q=>wE Φ e σ M λv M1=>wMxd v M1 Q
 |.st3 e,σ,M,Q=>wE Φ e σ M λv M1=>wSt3 v M1 Q
 |.mt m o es,σ,M,Q=>wE Φ o σ M λx M1=>mtOk m x M1/\wEs Φ es σ M1 λvs M2=>wMts m x vs M2 Q
 |.comp own fr src tg test elt,σ,M,Q=>wSr Φ src σ M λS M1=>S.len<sizeLine/\∀D,M1 D=none->∃J:Nat->List MV->MH->Prop,J 0 [] (updM M1 D (.lst []))/\
   (∀i ys M2,J i ys M2->M2 D=some (.lst ys)/\ys.length≤i/\S.ok M2)/\
   (∀i x ys M2,S.items[i]?=some x->J i ys M2->wTg tg x (sCm own fr σ) λσ2=>wI Φ test σ2 M2 λb M4=>
    if b=true then wE Φ elt σ2 M4 λy M5=>M5 D=some (.lst ys)/\J (i+1) (ys++[y]) (updM M5 D (.lst (ys++[y])))else J (i+1) ys M4)/\
   ∀ys M2,J S.len ys M2->Q (.ref D) (S.thaw M2)
 |.fld c o f,σ,M,Q=>wE Φ o σ M λx M1=>∃a fs v,x=.ref a/\M1 a=some (.ins c fs)/\valM fs f=some v/\Q v M1
 |.mcall j c m o es,σ,M,Q=>wE Φ o σ M λx M1=>∃a fs,x=.ref a/\M1 a=some (.ins c fs)/\valM fs m=none/\wEs Φ es σ M1 λvs M2=>∃f sp,Φ[j]?=some (f,sp)/\sp (.ref a::vs) M2 Q
 |.make j c e es,σ,M,Q=>wE Φ e σ M λv M1=>wEs Φ es σ M1 λvs M2=>∃f sp,Φ[j]?=some (f,sp)/\∀p,M2 p=none->sp (.ref p::v::vs) (updM M2 p (.ins c [])) λu M3=>u=.non/\Q (.ref p) M3
 |.disp ps,σ,M,Q=>∀p,M p=none->wPs Φ ps σ (updM M p (.dic [])) λl M2=>M2 p=some (.dic [])/\l.length≤15/\Q (.ref p) (updM M2 p (.dic (YR l)))
def wPs(Φ:List (Str×SpM)):IPs->Sm->MH->(List (Key×MV)->MH->Prop)->Prop
 |.nil,_,M,Q=>Q [] M
 |.cons k v r,σ,M,Q=>wE Φ k σ M λx M1=>∃kk,keyM x=some kk/\wE Φ v σ M1 λy M2=>wPs Φ r σ M2 λl M3=>Q ((kk,y)::l) M3
def wEs(Φ:List (Str×SpM)):IEs->TAm
 |.nil,_,M,Q=>Q [] M
 |.cons e es,σ,M,Q=>wE Φ e σ M λv M1=>wEs Φ es σ M1 λvs M2=>Q (v::vs) M2
def wO(Φ:List (Str×SpM)):IO->Sm->MH->(Option Int->MH->Prop)->Prop
 |.none,_,M,Q=>Q none M
 |.some e,σ,M,Q=>wE Φ e σ M λv M1=>∃i,v=.int i/\Q (some i) M1
def wI(Φ:List (Str×SpM)):IO->Sm->MH->(Bool->MH->Prop)->Prop
 |.none,_,M,Q=>Q true M
 |.some e,σ,M,Q=>wE Φ e σ M λv M1=>∃b,v=.bl b/\Q b M1
def wSr(Φ:List (Str×SpM)):ISr->TSm
 |.seq e,σ,M,Q=>wE Φ e σ M λv M1=>(∃xs,(v=.tup xs\/v=.frl xs)/\Q (.tup xs) M1)\/(∃a xs,v=.ref a/\M1 a=some (.lst xs)/\Q (.lst a xs) M1)\/(∃a kvs,v=.ref a/\M1 a=some (.dic kvs)/\∀o,Q (.dic a o kvs) (updM M1 a (.fdic o kvs)))\/∃z,v=.str z/\Q (.str z) M1
 |.rng e,σ,M,Q=>wE Φ e σ M λv M1=>∃j,v=.int j/\ -(2^62)≤j/\j<2^62/\Q (.rng 0 j.toNat) M1
 |.rng2 a b,σ,M,Q=>wE Φ a σ M λx M1=>wE Φ b σ M1 λy M2=>∃i j,x=.int i/\y=.int j/\(-(2^62)≤i/\i<2^62/\ -(2^62)≤j/\j<2^62)/\Q (.rng i (j - i).toNat) M2
 |.rng3 a b c,σ,M,Q=>wE Φ a σ M λx M1=>wE Φ b σ M1 λy M2=>wE Φ c σ M2 λz M3=>∃i j,x=.int i/\y=.int j/\z=.int 2/\(0≤i/\i<2^60/\0≤j/\j<2^60)/\Q (.rst i 2 (len2 i j)) M3
end
section
variable{Φ:List (Str×SpM)}{σ:Sm}{M:MH}{Q:QM}
theorem JV{i:Nat}:wE Φ (.var i) σ M Q=∃v,σ[i]?=some (some v)/\Q v M:=Zpw
theorem EE{a:IE}:wE Φ (.not a) σ M Q=wE Φ a σ M λx M1=>∃b,x=.bl b/\Q (.bl (!b)) M1:=congrArg (wE Φ a σ M) (funext λ_=>funext λ_=>We)
theorem JW{op op':CmpOp}{a b c:IE}:wE Φ (.chn op op' a b c) σ M Q=wE Φ a σ M λx M1=>wE Φ b σ M1 λy M2=>wCmp op x y M2 λz M3=>∃k,z=.bl k/\(if k=true then wE Φ c σ M3 λw M4=>wCmp op' y w M4 Q else Q (.bl false) M3):=congrArg (wE Φ a σ M) (funext λ_=>funext λ_=>congrArg (wE Φ b σ _) (funext λ_=>funext λ_=>congrArg (wCmp op _ _ _) (funext λ_=>funext λ_=>We)))
theorem EF{a b:IE}:wE Φ (.and a b) σ M Q=wE Φ a σ M λx M1=>∃c,x=.bl c/\(if c=true then wE Φ b σ M1 Q else Q (.bl false) M1):=congrArg (wE Φ a σ M) (funext λ_=>funext λ_=>We)
theorem x_or{a b:IE}:wE Φ (.or a b) σ M Q=wE Φ a σ M λx M1=>∃c,x=.bl c/\(if c=true then Q (.bl true) M1 else wE Φ b σ M1 Q):=congrArg (wE Φ a σ M) (funext λ_=>funext λ_=>We)
theorem JX{a b c:IE}:wE Φ (.ife c a b) σ M Q=wE Φ c σ M λx M1=>∃k,x=.bl k/\(if k=true then wE Φ a σ M1 Q else wE Φ b σ M1 Q):=congrArg (wE Φ c σ M) (funext λ_=>funext λ_=>We)
theorem JY{j:Nat}{e:IE}{es:IEs}:wE Φ (.call j e es) σ M Q=wE Φ e σ M λv M1=>wEs Φ es σ M1 λvs M2=>∃f sp,Φ[j]?=some (f,sp)/\sp (v::vs) M2 Q:=congrArg (wE Φ e σ M) (funext λ_=>funext λ_=>congrArg (wEs Φ es σ _) (funext λ_=>funext λ_=>Zpx))
end
mutual
theorem UK:∀(t:ITg) {v:MV} {σ:Sm} {Q Q':Sm->Prop},(∀σ,Q σ->Q' σ)->wTg t v σ Q->wTg t v σ Q'
 |.nm i,v,σ,Q,Q',hq,h=>by exact hq _ h
 |.tup ts,v,σ,Q,Q',hq,h=>by
  obtain⟨xs,e,h⟩:=h;exact⟨xs,e,mon_tgs ts hq h⟩
theorem mon_tgs:∀(t:ITgs) {v:List MV} {σ:Sm} {Q Q':Sm->Prop},(∀σ,Q σ->Q' σ)->wTgs t v σ Q->wTgs t v σ Q'
 |.nil,v,σ,Q,Q',hq,h=>by exact⟨h.1,hq _ h.2⟩
 |.cons t ts,v,σ,Q,Q',hq,h=>by
  obtain⟨x,r,e,h⟩:=h;exact⟨x,r,e,UK t (λσ' h'=>mon_tgs ts hq h') h⟩
end
theorem YS{c:Prop} [Decidable c] {A B A' B':Prop}(ha:A->A')(hb:B->B')(h:if c then A else B):if c then A' else B':=by
 split at h
 ·rw[if_pos (by assumption)];exact ha h
 ·rw[if_neg (by assumption)];exact hb h
mutual
theorem X7{Φ:List (Str×SpM)}(hΦ:∀(j:Nat) f sp,Φ[j]?=some (f,sp)->MonW sp):∀e:IE,MonE (wE Φ e)
 |.var i,σ,M,Q,Q',hq,h=>by rw[JV]at h ⊢;obtain⟨v,e,h⟩:=h;exact⟨v,e,hq _ _ h⟩
 |.int _,σ,M,Q,Q',hq,h=>by exact hq _ _ h
 |.str _,σ,M,Q,Q',hq,h=>by exact hq _ _ h
 |.bl _,σ,M,Q,Q',hq,h=>by exact hq _ _ h
 |.non,σ,M,Q,Q',hq,h=>by exact hq _ _ h
 |.glb _ _,σ,M,Q,Q',hq,h=>by exact hq _ _ h
 |.ty _,σ,M,Q,Q',hq,h=>by exact hq _ _ h
 |.bin op a b,σ,M,Q,Q',hq,h=>by
  exact X7 hΦ a (λx M1 h1=>X7 hΦ b (λy M2 h2=>Jv op hq h2) h1) h
 |.neg a,σ,M,Q,Q',hq,h=>by
  exact X7 hΦ a (λx M1 ⟨i,e,h1⟩=>⟨i,e,hq _ _ h1⟩) h
 |.not a,σ,M,Q,Q',hq,h=>by
  rw[EE]at h ⊢;exact X7 hΦ a (λx M1 ⟨i,e,h1⟩=>⟨i,e,hq _ _ h1⟩) h
 |.cmp op a b,σ,M,Q,Q',hq,h=>by
  exact X7 hΦ a (λx M1 h1=>X7 hΦ b (λy M2 h2=>Wc op hq h2) h1) h
 |.chn op op' a b c,σ,M,Q,Q',hq,h=>by
  rw[JW]at h ⊢;exact X7 hΦ a (λx M1 h1=>X7 hΦ b (λy M2 h2=>Wc op (λz M3 ⟨k,e,h3⟩=>⟨k,e,YS (X7 hΦ c λw M4 h4=>Wc op' hq h4) (hq _ _) h3⟩) h2) h1) h
 |.and a b,σ,M,Q,Q',hq,h=>by
  rw[EF]at h ⊢;exact X7 hΦ a (λx M1 ⟨c,e,h1⟩=>⟨c,e,YS (X7 hΦ b hq) (hq _ _) h1⟩) h
 |.or a b,σ,M,Q,Q',hq,h=>by
  rw[x_or]at h ⊢;exact X7 hΦ a (λx M1 ⟨c,e,h1⟩=>⟨c,e,YS (hq _ _) (X7 hΦ b hq) h1⟩) h
 |.ife c a b,σ,M,Q,Q',hq,h=>by
  rw[JX]at h ⊢;exact X7 hΦ c (λx M1 ⟨k,e,h1⟩=>⟨k,e,YS (X7 hΦ a hq) (X7 hΦ b hq) h1⟩) h
 |.tup es,σ,M,Q,Q',hq,h=>by
  exact mon_es hΦ es (λvs M1 ⟨e,h1⟩=>⟨e,hq _ _ h1⟩) h
 |.lst es,σ,M,Q,Q',hq,h=>by
  exact mon_es hΦ es (λvs M1 ⟨e,h1⟩=>⟨e,λp hp=>hq _ _ (h1 p hp)⟩) h
 |.dic,σ,M,Q,Q',hq,h=>by
  exact λp hp=>hq _ _ (h p hp)
 |.ix a b,σ,M,Q,Q',hq,h=>by
  exact X7 hΦ a (λx M1 h1=>X7 hΦ b (λy M2 h2=>JJ hq h2) h1) h
 |.sl a lo hi,σ,M,Q,Q',hq,h=>by
  exact X7 hΦ a (λx M1 h1=>mon_o hΦ lo (λy M2 h2=>mon_o hΦ hi (λz M3 h3=>JL hq h3) h2) h1) h
 |.call j e es,σ,M,Q,Q',hq,h=>by
  rw[JY]at h ⊢;exact X7 hΦ e (λx M1 h1=>mon_es hΦ es (λy M2 ⟨f,sp,e,h2⟩=>⟨f,sp,e,hΦ _ _ _ e hq h2⟩) h1) h
 |.bi f e es,σ,M,Q,Q',hq,h=>by
  exact X7 hΦ e (λx M1 h1=>mon_es hΦ es (λy M2 h2=>JN f hq h2) h1) h
 |.b2 f e,σ,M,Q,Q',hq,h=>by
  exact X7 hΦ e (λx M1 h1=>JP f hq h1) h
 |.mxd e,σ,M,Q,Q',hq,h=>by
  exact X7 hΦ e (λx M1 h1=>Znf hq h1) h
 |.st3 e,σ,M,Q,Q',hq,h=>by
  exact X7 hΦ e (λx M1 h1=>Zne hq h1) h
 |.mt m o es,σ,M,Q,Q',hq,h=>by
  exact X7 hΦ o (λx M1 ⟨h0,h1⟩=>⟨h0,mon_es hΦ es (λy M2 h2=>ED hq h2) h1⟩) h
 |.comp own fr src tg test elt,σ,M,Q,Q',hq,h=>by
  exact mon_sr hΦ src (λS M1 ⟨hz,h1⟩=>⟨hz,λD hD=>by
   obtain⟨J,j0,j1,j2,j3⟩:=h1 D hD;exact⟨J,j0,j1,j2,λys M2 hj=>hq _ _ (j3 ys M2 hj)⟩⟩) h
 |.fld c o f,σ,M,Q,Q',hq,h=>by
  exact X7 hΦ o (λx M1 ⟨a,fs,v,e,e2,e3,h1⟩=>⟨a,fs,v,e,e2,e3,hq _ _ h1⟩) h
 |.mcall j c m o es,σ,M,Q,Q',hq,h=>by
  exact X7 hΦ o (λx M1 ⟨a,fs,e,e2,e3,h1⟩=>⟨a,fs,e,e2,e3,mon_es hΦ es (λy M2 ⟨f,sp,e,h2⟩=>⟨f,sp,e,hΦ _ _ _ e hq h2⟩) h1⟩) h
 |.make j c e es,σ,M,Q,Q',hq,h=>by
  exact X7 hΦ e (λx M1 h1=>mon_es hΦ es (λy M2 ⟨f,sp,e,h2⟩=>⟨f,sp,e,λp hp=>hΦ _ _ _ e (λm M' z=>⟨z.1,hq _ _ z.2⟩) (h2 p hp)⟩) h1) h
 |.disp ps,σ,M,Q,Q',hq,h=>by
  exact λp hp=>mon_ps hΦ ps (λl M2 ⟨e,e2,h1⟩=>⟨e,e2,hq _ _ h1⟩) (h p hp)
theorem mon_ps{Φ:List (Str×SpM)}(hΦ:∀(j:Nat) f sp,Φ[j]?=some (f,sp)->MonW sp):∀(e:IPs) {σ M} {Q Q':List (Key×MV)->MH->Prop},(∀m M',Q m M'->Q' m M')->wPs Φ e σ M Q->wPs Φ e σ M Q'
 |.nil,σ,M,Q,Q',hq,h=>by exact hq _ _ h
 |.cons k v r,σ,M,Q,Q',hq,h=>by
  exact X7 hΦ k (λx M1 ⟨kk,e,h1⟩=>⟨kk,e,X7 hΦ v (λy M2 h2=>mon_ps hΦ r (λl M3 h3=>hq _ _ h3) h2) h1⟩) h
theorem mon_es{Φ:List (Str×SpM)}(hΦ:∀(j:Nat) f sp,Φ[j]?=some (f,sp)->MonW sp):∀e:IEs,MonA (wEs Φ e)
 |.nil,σ,M,Q,Q',hq,h=>by exact hq _ _ h
 |.cons e es,σ,M,Q,Q',hq,h=>by
  exact X7 hΦ e (λx M1 h1=>mon_es hΦ es (λy M2 h2=>hq _ _ h2) h1) h
theorem mon_o{Φ:List (Str×SpM)}(hΦ:∀(j:Nat) f sp,Φ[j]?=some (f,sp)->MonW sp):∀(e:IO) {σ M} {Q Q':Option Int->MH->Prop},(∀m M',Q m M'->Q' m M')->wO Φ e σ M Q->wO Φ e σ M Q'
 |.none,σ,M,Q,Q',hq,h=>by exact hq _ _ h
 |.some e,σ,M,Q,Q',hq,h=>by
  exact X7 hΦ e (λx M1 ⟨i,e,h1⟩=>⟨i,e,hq _ _ h1⟩) h
theorem mon_i{Φ:List (Str×SpM)}(hΦ:∀(j:Nat) f sp,Φ[j]?=some (f,sp)->MonW sp):∀(e:IO) {σ M} {Q Q':Bool->MH->Prop},(∀m M',Q m M'->Q' m M')->wI Φ e σ M Q->wI Φ e σ M Q'
 |.none,σ,M,Q,Q',hq,h=>by exact hq _ _ h
 |.some e,σ,M,Q,Q',hq,h=>by
  exact X7 hΦ e (λx M1 ⟨i,e,h1⟩=>⟨i,e,hq _ _ h1⟩) h
theorem mon_sr{Φ:List (Str×SpM)}(hΦ:∀(j:Nat) f sp,Φ[j]?=some (f,sp)->MonW sp):∀(e:ISr) {σ M} {Q Q':Src->MH->Prop},(∀m M',Q m M'->Q' m M')->wSr Φ e σ M Q->wSr Φ e σ M Q'
 |.seq e,σ,M,Q,Q',hq,h=>by
  exact X7 hΦ e (λx M1 h1=>by
   rcases h1 with⟨xs,e,h1⟩|⟨a,xs,e,e2,h1⟩|⟨a,xs,e,e2,h1⟩|⟨z,e,h1⟩
   ·exact .inl ⟨xs,e,hq _ _ h1⟩
   ·exact .inr (.inl ⟨a,xs,e,e2,hq _ _ h1⟩)
   ·exact .inr (.inr (.inl ⟨a,xs,e,e2,λo=>hq _ _ (h1 o)⟩))
   ·exact .inr (.inr (.inr ⟨z,e,hq _ _ h1⟩))) h
 |.rng e,σ,M,Q,Q',hq,h=>by
  exact X7 hΦ e (λx M1 ⟨j,e,a,b,h1⟩=>⟨j,e,a,b,hq _ _ h1⟩) h
 |.rng2 a b,σ,M,Q,Q',hq,h=>by
  exact X7 hΦ a (λx M1 h1=>X7 hΦ b (λy M2 ⟨i,j,e,e2,c,h2⟩=>⟨i,j,e,e2,c,hq _ _ h2⟩) h1) h
 |.rng3 a b c,σ,M,Q,Q',hq,h=>by
  exact X7 hΦ a (λx M1 h1=>X7 hΦ b (λy M2 h2=>X7 hΦ c (λz M3 ⟨i,j,e,e2,e3,c,h3⟩=>⟨i,j,e,e2,e3,c,hq _ _ h3⟩) h2) h1) h
end
end L2
namespace L2
open PySem PySem.Spec PyProof.Rows
structure GI where
 bl:List Str
 gl:List (Str×Int)
 fns:List Str
 mts:List (Nat×Str×Str):=[]
 mks:List (Nat×Str):=[]
 cls:List (Str×Str):=[]
def visB(sc:Scope)(x:Str):Bool:=match sc.names.lookup x with
 |some .local=>true|some .cell=>true|some .free=>true|_=>false
def locB(sc:Scope)(x:Str):Bool:=match sc.names.lookup x with
 |some .local=>true|some .cell=>true|_=>false
def glB(sc:Scope)(x:Str):Bool:=decide (sc.names.lookup x=some .globalImplicit)&& !(x==("__debug__":Str))&&decide (x≠"__name__")
def Wf(scope osc:Scope):Scope:={scope with names:=scope.names.map fun(n,k)=>if(k==.free&&osc.kind==.function&&osc.names.lookup n==some .cell)then(n,.cell)else(n,k)}
def BI.name:BI->String
 |.len=>"len"|.isinst=>"isinstance"|.max=>"max"|.min=>"min"|.sum=>"sum"|.abs=>"abs"|.int=>"int"|.list=>"list"|.tuple=>"tuple"|.dict=>"dict"|.sorted=>"sorted"|.dictL=>"dict"|.all=>"all"
def MT.name:MT->String
 |.dclear=>"clear"|.dget=>"get"|.dgetD=>"get"|.join=>"join"
 |.append=>"append"|.extend=>"extend"|.reverse=>"reverse"|.clear=>"clear"|.pop=>"pop"|.popAt=>"pop"|.remove=>"remove"
def A5:Expr->Bool
 |.Slice ..=>false|_=>true
def A6:Expr->Bool
 |.Set ..=>false|_=>true
def tok:IE->Bool
 |.ife ..=>false
 |.not a=>tok a
 |.and a b=>tok a&&tok b
 |.or a b=>tok a&&tok b
 |_=>true
def YT:Expr->Option Str|.Name x _=>some x|_=>none
def Wg:Expr->Option Const|.Constant c _ _=>some c|_=>none
def EG:Expr->Option (Expr×Ud×Expr)|.BinOp l o r _=>some (l,o,r)|_=>none
def asUn:Expr->Option (UnaryOp×Expr)|.UnaryOp o x _=>some (o,x)|_=>none
def CL:Expr->Option (Expr×List CmpOp×List Expr)|.Compare l o r _=>some (l,o,r)|_=>none
def CM:Expr->Option (BoolOp×List Expr×Pos)|.BoolOp o vs p=>some (o,vs,p)|_=>none
def asIf:Expr->Option (Expr×Expr×Expr)|.IfExp t x y _=>some (t,x,y)|_=>none
def A7:Expr->Option (List Expr)|.Tuple xs _ _=>some xs|_=>none
def EH:Expr->Option (List Expr)|.List xs _=>some xs|_=>none
def ZrW:Expr->Option (List (Option Expr)×List Expr)|.Dict ks vs _=>some (ks,vs)|_=>none
def A8:Expr->Option (Expr×Expr)|.Subscript x y _=>some (x,y)|_=>none
def asSl:Expr->Option (Option Expr×Option Expr×Option Expr)|.Slice l u s _=>some (l,u,s)|_=>none
def Zi:Expr->Option (Expr×List Expr×List Za×Pos)|.Call f xs ks p=>some (f,xs,ks,p)|_=>none
def Wh:Expr->Option (Expr×Str×Pos)|.Attribute o n p=>some (o,n,p)|_=>none
def asLC:Expr->Option (Expr×List Comprehension×Scope)|.ListComp e gs sc _=>some (e,gs,sc)|_=>none
def the1{α:Type}:List α->Option α|[x]=>some x|_=>none
def the3{α:Type}:List α->Option (α×α×α)|[x,y,z]=>some (x,y,z)|_=>none
def the2{α:Type}:List α->Option (α×α)|[x,y]=>some (x,y)|_=>none
def hd1{α:Type}:List α->Option (α×List α)|x::r=>some (x,r)|_=>none
def hd2{α:Type}:List α->Option (α×α×List α)|x::y::r=>some (x,y,r)|_=>none
def non0{α:Type}:List α->Bool|[]=>true|_=>false
theorem Xg{α:Type}{o:Option α}{p:α->Bool}(h:o.any p=true):∃x,o=some x/\p x=true:=by
 cases o with
 |none=>cases h
 |some x=>exact⟨x,rfl,h⟩
section
variable{e:Expr}
theorem Z7{x:Str}(h:YT e=some x):∃p,e=.Name x p:=by cases e<;>cases h;exact⟨_,rfl⟩
theorem CN{x:Const}(h:Wg e=some x):∃k p,e=.Constant x k p:=by cases e<;>cases h;exact⟨_,_,rfl⟩
theorem Zlg{x:Expr×Ud×Expr}(h:EG e=some x):∃p,e=.BinOp x.1 x.2.1 x.2.2 p:=by cases e<;>cases h;exact⟨_,rfl⟩
theorem JZ{x:UnaryOp×Expr}(h:asUn e=some x):∃p,e=.UnaryOp x.1 x.2 p:=by cases e<;>cases h;exact⟨_,rfl⟩
theorem K0{x:Expr×List CmpOp×List Expr}(h:CL e=some x):∃p,e=.Compare x.1 x.2.1 x.2.2 p:=by cases e<;>cases h;exact⟨_,rfl⟩
theorem K1{x:BoolOp×List Expr×Pos}(h:CM e=some x):e=.BoolOp x.1 x.2.1 x.2.2:=by cases e<;>cases h;rfl
theorem Zo9{x:Expr×Expr×Expr}(h:asIf e=some x):∃p,e=.IfExp x.1 x.2.1 x.2.2 p:=by cases e<;>cases h;exact⟨_,rfl⟩
theorem EI{x:List Expr}(h:A7 e=some x):∃k p,e=.Tuple x k p:=by cases e<;>cases h;exact⟨_,_,rfl⟩
theorem Zlb{x:List Expr}(h:EH e=some x):∃p,e=.List x p:=by cases e<;>cases h;exact⟨_,rfl⟩
theorem EJ{x:Expr×Expr}(h:A8 e=some x):∃p,e=.Subscript x.1 x.2 p:=by cases e<;>cases h;exact⟨_,rfl⟩
theorem Zo6{x:Option Expr×Option Expr×Option Expr}(h:asSl e=some x):∃p,e=.Slice x.1 x.2.1 x.2.2 p:=by cases e<;>cases h;exact⟨_,rfl⟩
theorem U5{x:Expr×List Expr×List Za×Pos}(h:Zi e=some x):e=.Call x.1 x.2.1 x.2.2.1 x.2.2.2:=by cases e<;>cases h;rfl
theorem CO{x:Expr×Str×Pos}(h:Wh e=some x):e=.Attribute x.1 x.2.1 x.2.2:=by cases e<;>cases h;rfl
theorem Zo8{x:Expr×List Comprehension×Scope}(h:asLC e=some x):∃p,e=.ListComp x.1 x.2.1 x.2.2 p:=by cases e<;>cases h;exact⟨_,rfl⟩
theorem ZK{α:Type}{l:List α}{x:α}(h:the1 l=some x):l=[x]:=by
 match l,h with
 |[_],h=>cases h;rfl
theorem EK{α:Type}{l:List α}{x:α×α}(h:the2 l=some x):l=[x.1,x.2]:=by
 match l,h with
 |[_,_],h=>cases h;rfl
theorem Zmg{α:Type}{l:List α}{x:α×α×α}(h:the3 l=some x):l=[x.1,x.2.1,x.2.2]:=by
 match l,h with
 |[_,_,_],h=>cases h;rfl
theorem Us{α:Type}{l:List α}{x:α×List α}(h:hd1 l=some x):l=x.1::x.2:=by
 match l,h with
 |_::_,h=>cases h;rfl
theorem K2{α:Type}{l:List α}{x:α×α×List α}(h:hd2 l=some x):l=x.1::x.2.1::x.2.2:=by
 match l,h with
 |_::_::_,h=>cases h;rfl
theorem Yo{α:Type}{l:List α}(h:non0 l=true):l=[]:=by
 match l,h with
 |[],_=>rfl
end
def K3(e:Expr):Bool:=(YT e).isSome||(Wg e).isSome||(EG e).isSome||(asUn e).isSome||(CL e).isSome||(CM e).isSome||(asIf e).isSome||(A7 e).isSome||(EH e).isSome||(ZrW e).isSome||(A8 e).isSome||(Zi e).isSome||(asLC e).isSome||(Wh e).isSome
mutual
def Zj(sc:Scope)(N:List Str)(lim:Nat)(all:Bool):ITg->Expr->Bool
 |.nm i,e=>(YT e).any λx=>decide (N[i]?=some x)&&decide (i<lim)&&(if all then locB sc x else decide (sc.names.lookup x=some .local))
 |.tup ts,e=>(A7 e).any λes=>chkTgs sc N lim all ts es
def chkTgs(sc:Scope)(N:List Str)(lim:Nat)(all:Bool):ITgs->List Expr->Bool
 |.nil,l=>non0 l
 |.cons t ts,l=>(hd1 l).any λq=>Zj sc N lim all t q.1&&chkTgs sc N lim all ts q.2
end
mutual
def chkE(G:GI):IE->Scope->List Str->Expr->Bool
 |.var i,sc,N,e=>(YT e).any fun x=>decide (N[i]?=some x)&&visB sc x&& !(x==("__debug__":Str))&& !(x==("__classdict__":Str))
 |.int i,_,_,e=>(Wg e).any λc=>decide (c=.int i)
 |.str x,_,_,e=>(Wg e).any λc=>decide (c=.str x)
 |.bl b,_,_,e=>(Wg e).any λc=>decide (c=.bool b)
 |.non,_,_,e=>(Wg e).any λc=>decide (c=.none)
 |.glb x i,sc,_,e=>(YT e).any λy=>decide (x=y)&&decide (G.gl.lookup x=some i)&&glB sc x
 |.ty c,sc,_,e=>(YT e).any λy=>decide (y=(c.name:Str))&&decide (c≠.none)&&G.bl.contains y&&glB sc y
 |.bin op a b,sc,N,e=>(EG e).any λq=>decide (op=q.2.1)&&chkE G a sc N q.1&&chkE G b sc N q.2.2
 |.neg a,sc,N,e=>(asUn e).any λq=>decide (q.1=.USub)&&chkE G a sc N q.2
 |.not a,sc,N,e=>(asUn e).any λq=>decide (q.1=.Not)&&chkE G a sc N q.2
 |.cmp op a b,sc,N,e=>(CL e).any λq=>(the1 q.2.1).any λo=>(the1 q.2.2).any λr=>decide (op=o)&&chkE G a sc N q.1&&chkE G b sc N r&& !behindInMarks op r
 |.chn op op' a b c,sc,N,e=>(CL e).any λq=>(the2 q.2.1).any λo=>(the2 q.2.2).any λr=>decide (op=o.1)&&decide (op'=o.2)&&chkE G a sc N q.1&&chkE G b sc N r.1&&chkE G c sc N r.2&& !lastMarks [op,op'] [r.1,r.2]
 |.and a b,sc,N,e=>(CM e).any λq=>(hd2 q.2.1).any λv=>decide (q.1=.And)&&chkE G a sc N v.1&&chkE G b sc N (if non0 v.2.2 then v.2.1 else .BoolOp .And (v.2.1::v.2.2) q.2.2)
 |.or a b,sc,N,e=>(CM e).any λq=>(hd2 q.2.1).any λv=>decide (q.1=.Or)&&chkE G a sc N v.1&&chkE G b sc N (if non0 v.2.2 then v.2.1 else .BoolOp .Or (v.2.1::v.2.2) q.2.2)
 |.ife c a b,sc,N,e=>(asIf e).any λq=>tok c&&chkE G c sc N q.1&&chkE G a sc N q.2.1&&chkE G b sc N q.2.2
 |.tup es,sc,N,e=>(A7 e).any λxs=>chkEs G es sc N xs
 |.lst es,sc,N,e=>(EH e).any λxs=>chkEs G es sc N xs
 |.dic,_,_,_=>false
 |.ix a b,sc,N,e=>(A8 e).any λq=>chkE G a sc N q.1&&chkE G b sc N q.2&&A5 q.2
 |.sl a lo hi,sc,N,e=>(A8 e).any λq=>(asSl q.2).any λs=>chkE G a sc N q.1&&chkO G lo sc N s.1&&chkO G hi sc N s.2.1&& !s.2.2.isSome
 |.call j f es,sc,N,e=>(Zi e).any λq=>(YT q.1).any λg=>(hd1 q.2.1).any λx=>non0 q.2.2.1&&decide (G.fns[j]?=some g)&&glB sc g&&chkE G f sc N x.1&&chkEs G es sc N x.2
 |.bi f a es,sc,N,e=>(Zi e).any λq=>(YT q.1).any λg=>(hd1 q.2.1).any λx=>non0 q.2.2.1&&decide (g=(f.name:Str))&&G.bl.contains g&&glB sc g&&chkE G a sc N x.1&&chkEs G es sc N x.2
 |.b2 f a,sc,N,e=>(Zi e).any λq=>(YT q.1).any λg=>(the1 q.2.1).any λy=>(Zi y).any λr=>(YT r.1).any λk=>(the1 r.2.1).any λx=>non0 q.2.2.1&&non0 r.2.2.1&&decide (g=(f.out:Str))&&decide (k=(f.inn:Str))&&G.bl.contains g&&G.bl.contains k&&glB sc g&&glB sc k&&chkE G a sc N x
 |.st3 a,_,_,_=>false
 |.mxd a,_,_,_=>false
 |.mt m o es,sc,N,e=>(Zi e).any λq=>(Wh q.1).any λa=>non0 q.2.2.1&&decide (a.2.1=(m.name:Str))&&(a.2.2.endLine==q.2.2.2.line)&&chkE G o sc N a.1&&chkEs G es sc N q.2.1&&decide (q.2.1.length<20)
 |.comp own fr src tg test elt,sc,N,e=>(asLC e).any λq=>(the1 q.2.1).any λg=>W8 sc q.2.2 N own fr&&A6 g.iter&&decide (nC own fr N).Nodup&&chkSr G src sc N g.iter&&Zj (Wf q.2.2 sc) (nC own fr N) own.length false tg g.target&&
   chkI G test (Wf q.2.2 sc) (nC own fr N) g.ifs&&chkE G elt (Wf q.2.2 sc) (nC own fr N) q.1&&decide (g.is_async=0)
 |.fld c o f,sc,N,e=>(Wh e).any λa=>decide (a.2.1=f)&&G.cls.contains (c,f)&&chkE G o sc N a.1
 |.mcall j c m o es,sc,N,e=>(Zi e).any λq=>(Wh q.1).any λa=>non0 q.2.2.1&&decide (a.2.1=m)&&G.mts.contains (j,c,m)&&chkE G o sc N a.1&&chkEs G es sc N q.2.1&&(a.2.2.endLine==q.2.2.2.line)&&decide (q.2.1.length<20)
 |.make j c a es,sc,N,e=>(Zi e).any λq=>(YT q.1).any λg=>(hd1 q.2.1).any λx=>non0 q.2.2.1&&decide (g=c)&&G.mks.contains (j,c)&&glB sc g&&chkE G a sc N x.1&&chkEs G es sc N x.2
 |.disp ps,_,_,_=>false
def A9(G:GI):IPs->Scope->List Str->List (Option Expr)->List Expr->Bool
 |.nil,_,_,l,r=>non0 l&&non0 r
 |.cons k v ps,sc,N,l,r=>(hd1 l).any λq=>(hd1 r).any λs=>q.1.any λx=>chkE G k sc N x&&chkE G v sc N s.1&&A9 G ps sc N q.2 s.2
def chkEs(G:GI):IEs->Scope->List Str->List Expr->Bool
 |.nil,_,_,l=>non0 l
 |.cons e es,sc,N,l=>(hd1 l).any λq=>chkE G e sc N q.1&&chkEs G es sc N q.2
def chkO(G:GI):IO->Scope->List Str->Option Expr->Bool
 |.none,_,_,o=>!o.isSome
 |.some e,sc,N,o=>o.any λx=>chkE G e sc N x
def chkI(G:GI):IO->Scope->List Str->List Expr->Bool
 |.none,_,_,l=>non0 l
 |.some e,sc,N,l=>(the1 l).any λx=>tok e&&chkE G e sc N x
def chkSr(G:GI):ISr->Scope->List Str->Expr->Bool
 |.seq a,sc,N,e=>chkE G a sc N e
 |.rng a,sc,N,e=>(Zi e).any fun q=>(YT q.1).any fun f=>(the1 q.2.1).any fun x=>non0 q.2.2.1&&decide (f=("range":Str))&&G.bl.contains f&&glB sc f&&chkE G a sc N x
 |.rng2 a b,sc,N,e=>(Zi e).any fun q=>(YT q.1).any fun f=>(the2 q.2.1).any fun x=>non0 q.2.2.1&&decide (f=("range":Str))&&G.bl.contains f&&glB sc f&&chkE G a sc N x.1&&chkE G b sc N x.2
 |.rng3 a b c,sc,N,e=>(Zi e).any fun q=>(YT q.1).any fun f=>(the3 q.2.1).any fun x=>non0 q.2.2.1&&decide (f=("range":Str))&&G.bl.contains f&&glB sc f&&chkE G a sc N x.1&&chkE G b sc N x.2.1&&chkE G c sc N x.2.2
end
def liSp(K:X5)(sp:SpM):Sp:=λvs H Q _=>∃ms M,RMs K H ms vs/\RH K M H/\sp ms M (Dn K H Q)
structure Cok (X:Cx) (G:GI) (Φ:List (Str×SpM)):Prop where
 room:X.A.units+70<cLine
 calm:X.calm=true
 nox:X.xe=λ_ _=>False
 blk:X.env.blockKind=.function
 nd:X.N.Nodup
 bls:∀x,G.bl.contains x=true->X.mg x=none
 gls:∀x i,G.gl.lookup x=some i->∃tk,X.mg x=some (.int i tk)
 fnn:∀(j:Nat) f,G.fns[j]?=some f->∃sp,Φ[j]?=some (f,sp)
 mon:∀(j:Nat) f sp,Φ[j]?=some (f,sp)->MonW sp
 fns:∀(j:Nat) f sp,G.fns[j]?=some f->Φ[j]?=some (f,sp)->∃k fa fd ps,Room k X.A/\FnOk X.prog X.w X.K X.mg X.base CX0 k fa fd ps (liSp X.K sp)/\X.mg f=some (.ref fa)/\Y5 X.K (.ref fa)=true/\Binds X.K fd ps []
 mts:∀(j:Nat) c m,G.mts.contains (j,c,m)=true->∃f sp,Φ[j]?=some (f,sp)/\∃k C fa fd ps,Room k X.A/\FnOk X.prog X.w X.K X.mg X.base CX0 k fa fd ps (liSp X.K sp)/\XF X.K Xv c=some (some (.ref C))/\Cls X.K C/\Meth X.K C m fa/\Binds X.K fd ps []
 mks:∀(j:Nat) c,G.mks.contains (j,c)=true->∃f sp,Φ[j]?=some (f,sp)/\∃k C fa fd ps,Room (k+1) X.A/\FnOk X.prog X.w X.K X.mg X.base CX0 k fa fd ps (liSp X.K sp)/\XF X.K Xv c=some (some (.ref C))/\X.mg c=some (.ref C)/\Mk X.K C fa/\Binds X.K fd ps []
 cls:∀c f,G.cls.contains (c,f)=true->∃C,XF X.K Xv c=some (some (.ref C))/\Cls X.K C/\NoAttr X.K C f
section
variable{X:Cx}{G:GI}{Φ:List (Str×SpM)}
theorem Zon{sc:Scope}{x:Str}(h:visB sc x=true):Vis sc x:=by
 unfold visB at h;unfold Vis;cases e:sc.names.lookup x with
 |none=>rw[e]at h;cases h
 |some k=>rw[e]at h;cases k<;>first|exact .inl rfl|exact .inr (.inl rfl)|exact .inr (.inr rfl)|cases h
theorem CP{sc:Scope}{x:Str}(h:locB sc x=true):Loc sc x:=by
 unfold locB at h;unfold Loc;cases e:sc.names.lookup x with
 |none=>rw[e]at h;cases h
 |some k=>rw[e]at h;cases k<;>first|exact .inl rfl|exact .inr rfl|cases h
theorem U6{x:Str}(h:glB X.env.scope x=true):Gl X x/\(x==("__debug__":Str))=false/\x≠"__name__":=by
 unfold glB at h;simp only[Y2,decide_eq_true_eq,Bool.not_eq_true']at h;exact⟨h.1.1,h.1.2,h.2⟩
theorem Zo1(f:BI):YE (f.name:Str)=some f.val:=by cases f<;>(show YE _=some _;decide+kernel)
theorem Zo0{c:Ty7}(h:c≠.none):YE (c.name:Str)=some (.type c.name):=by cases c<;>first|exact absurd rfl h|decide+kernel
theorem boot_range:YE ("range":Str)=some (.type "range"):=by decide+kernel
theorem ZhC:∀{ie:IE} {sc:Scope} {N:List Str} {e:Expr},chkE G ie sc N e=true->K3 e=true:=by
 intro ie sc N e h;cases ie
 all_goals
  first
   |exact absurd h XC
   |(replace h:=Xg h
     obtain⟨x,hx,_⟩:=h;simp only[K3,hx,Ed,C6,C5])
theorem XZ:∀{ie:IE} {sc:Scope} {N:List Str} {e:Expr} {es:List Expr} {env:Env},chkE G ie sc N e=true->XB (e::es) env=(false,eval e env)::XB es env:=by
 intro ie sc N e es env h;cases e<;>first|rfl|cases ZhC h
theorem Ut:∀{ies:IEs} {sc:Scope} {N:List Str} {es:List Expr} {env:Env} {pos:Pos},chkEs G ies sc N es=true->(XB es env).all (λx=>!x.1)=true
 |.nil,sc,N,es,_,_,h=>by
  cases Yo h
  rfl
 |.cons e es,sc,N,xs,env,pos,h=>by
  replace h:=Xg h;obtain⟨q,h1,h2⟩:=h;cases Us h1;rw[Y2]at h2;rw[XZ h2.1,UZ];exact Ut (pos:=pos) h2.2
theorem ZkD:∀{ie:IE} {sc:Scope} {N:List Str} {x:Str} {px p:Pos} {ks:List Za},chkE G ie sc N (.Call (.Name x px) [] ks p)=true->False:=by
 intro ie sc N x px p ks h;cases ie
 all_goals exact absurd h XC
theorem Aa{ie:IE}{sc:Scope}{N:List Str}{o:Expr}{nm:Str}{env:Env}(h:chkE G ie sc N o=true):Ux o nm env (eval o env)=eval o env:=by
 cases o<;>try rfl
 rename_i fn args kw pos
 cases fn<;>try rfl
 cases args with
 |cons a r=>rfl
 |nil=>exact(ZkD h).elim
theorem UL{pos:Pos}{l:List (Bool×Sem X0)}(h:l.all (λx=>!x.1)=true):(Y4 pos l).all (λx=>!x.1)=true/\(Y4 pos l).any (·.1)=false:=by
 induction l with
 |nil=>exact⟨rfl,rfl⟩
 |cons a r ih=>
  rw[UZ,Y2]at h;obtain⟨h1,h2⟩:=ih h.2;have e:a.1=false:=by simpa using h.1
  unfold Y4 at h1 h2 ⊢;rw[XD,UZ,ZV,h1,h2];obtain⟨b,t⟩:=a;cases e;exact⟨rfl,rfl⟩
end
def tCW2(own:List Str)(fr:List Nat)(g:TG)(tt:TT)(te:TE)(σ:St)(H1:Hp)(Q:VK)(J:It)(D:Addr):Prop:=∃W:Nat->Nat->List V->Hp->Prop,
 (∃m,W 0 m [] (upd H1 D (.lst [])))/\∀i m ys H2,W i m ys H2->
  ((J.stop i H2/\Q (.ref D) H2)\/(J.go i H2/\∃N:List V->Hp->Prop,(∀ys' H',N ys' H'->∃m',m'<m/\W (i+1) m' ys' H')/\∀x H3,J.yld i H2 x H3->g x (sC own fr σ) H3 λσ2 H4=>Keep (sC own fr σ) σ2/\tt σ2 H4 λb H5=>
   if b=true then te σ2 H5 λy H6=>∃zs,H6 D=some (.lst zs)/\zs.length<sizeLine/\N (zs++[y]) (upd H6 D (.lst (zs++[y])))else N ys H5))
def EL(own:List Str)(fr:List Nat)(wi:TI)(g:TG)(tt:TT)(te:TE):TE:=λσ H Q=>wi σ H λJ H1=>∀D,H1 D=none->tCW2 own fr g tt te σ H1 Q J D
section
variable{X:Cx}{pins:List (Addr×Obj)}{σ:St}{H1:Hp}{s2:X1}{tg elt iter:Expr}{ifs:List Expr}{scope:Scope}{pos:Pos}{own:List Str}{fr:List Nat}{g:TG}{tt:TT}{te:TE}
theorem K4{J:It}{fp:List Addr}{it:Addr}{tn:Nat->Heap->Prop}{RR:X0->Addr->Result->X1->Prop}{Q:VK}{E:X0->X1->Prop}(hc:X.calm=true)(ok:CompOk X.env.scope scope X.N fr)
  (hg:∀C fp s₃ H₃,PG (cxC X scope own fr C fp s₃ H₃) tg g) (ht:∀C fp s₃ H₃,PTs (cxC X scope own fr C fp s₃ H₃) ifs tt) (he:∀C fp s₃ H₃,PE (cxC X scope own fr C fp s₃ H₃) elt te)
  (I2:Inv X pins σ H1 s2) (T:Turn X.prog X.w X.K tg J fp it tn) (st:tn 0 s2.heap) (hf:∀b∈fp,FpOk X pins H1 b)
  (h:∀D,H1 D=none->tCW2 own fr g tt te σ H1 Q J D)
  (hRR:∀D C H' s',Inv X pins σ H' s'->(∃m,s'.heap.Ns C m)->H' C=none->C≠X.env.locals->X.s₀.heap.objs.size≤C->(∀x c,X.env.cells.lookup x=some c->c≠C)->(∀p∈X.pn++pins,p.1≠C)->Q (.ref D) H'->RR (.ref D) C (.ok .next) s'):
  X3 (X6 X.prog X.w) X.A (newList []) (λacc s₃=>X3 (X6 X.prog X.w) X.A (newFunctionEnv scope X.env.globals (clOf X.env.cells scope.names []) [] X.env.qual none .none (some X.env)) (λcenv s₄=>
   YY (X6 X.prog X.w) X.A (.compStart (.ListComp elt [⟨tg,iter,ifs,0⟩] scope pos) 0 (.ref it) acc {cenv with scope:=relabel scope X.env}) (RR acc cenv.locals) s₄) E s₃) E s2:=by
 have hD:H1 s2.heap.objs.size=none:=I2.hok.fresh (Xi _);obtain⟨W,⟨m0,w0⟩,step⟩:=h _ hD;refine Ug (wpAny_newFunctionEnv ok.nocell (by intro y hy;simp at hy) (λh4 ns4 sb4=>?_) ok.kind)
 dsimp only at ns4 sb4 ⊢;have I3:Inv X pins σ (upd H1 s2.heap.objs.size (.lst [])) {s2 with heap:=s2.heap.push {cls:=.type "list",dict:=none,data:=.seq ([]:List X0).toArray},toks:=s2.toks}:=
  I2.laid (λb u e=>Xu _ e) (Xi _) ⟨YO _,[],0,.nil,XS _ rfl⟩
 have fpo:∀b∈fp,∃o,s2.heap.get? b=some o:=λb hb=>let⟨o,e,_⟩:=T.obj 0 _ st b hb;⟨o,e⟩
 have fpD:∀b∈fp,b≠s2.heap.objs.size:=λb hb=>let⟨o,e⟩:=fpo b hb;XG (XA e)
 have hf3:∀b∈fp,FpOk X pins (upd H1 s2.heap.objs.size (.lst [])) b:=λb hb=>⟨by rw[XL (fpD b hb)];exact(hf b hb).1,(hf b hb).2⟩
 generalize hs3:({s2 with heap:=s2.heap.push {cls:=.type "list",dict:=none,data:=.seq ([]:List X0).toArray},toks:=s2.toks}:X1)=s3 at*;have e3:s2.heap.push {cls:=.type "list",dict:=none,data:=.seq ([]:List X0).toArray}=s3.heap:=by rw[<- hs3]
 rw[e3]at ns4 sb4 ⊢;have kp:∀b o,s3.heap.get? b=some o->h4.get? b=some o:=λb o e=>(sb4.2 b (XG (XA e))).trans (Xu _ e);have fpo3:∀b∈fp,∃o,s3.heap.get? b=some o:=λb hb=>let⟨o,e⟩:=fpo b hb;⟨o,by rw[<- e3];exact Xu _ e⟩
 have I4:=Zhw (own:=own) (scope:=scope) (fr:=fr) (tk:=s2.toks+0) ok I3 rfl hf3 fpo3 ns4 kp;have st4:tn 0 h4:=T.keep _ _ _ st λb hb o e=>kp b o (by rw[<- e3];exact Xu _ e)
 have fpC:∀b∈fp,b≠s3.heap.objs.size:=λb hb=>let⟨o,e⟩:=fpo3 b hb;XG (XA e)
 have stat:∀{H':Hp},(∀b∈fp,H' b=none)->∀b∈fp,FpOk (cxC X scope own fr s3.heap.objs.size fp s3 (upd H1 s2.heap.objs.size (.lst []))) pins H' b:=λhn b hb=>by
  refine⟨hn b hb,fpC b hb,λz=>?_,.inl hb,λx c e=>?_,(hf b hb).2.2.2.2.2⟩
  ·rcases Xr.mp (I3.stkSub b z)with z|z
   ·exact(hf b hb).2.1 z
   ·exact(hf b hb).2.2.1 z
  ·exact(hf b hb).2.2.2.2.1 x c ((WX _ _ _ _ _ e).elim (λz=>by simp at z) id)
 have loop:YY (X6 X.prog X.w) X.A (.compLoop (.ListComp elt [⟨tg,iter,ifs,0⟩] scope pos) 0 (.ref it) (.ref s2.heap.objs.size) (compEnvC scope (clOf X.env.cells scope.names []) s3.heap.objs.size X.env))
   (RR (.ref s2.heap.objs.size) s3.heap.objs.size) {s3 with heap:=h4,toks:=s2.toks+0}:=by
  refine ZeQ (λn s'=>∃i ys H',Inv (cxC X scope own fr s3.heap.objs.size fp s3 (upd H1 s2.heap.objs.size (.lst []))) pins (sC own fr σ) H' s'/\tn i s'.heap/\(∀b∈fp,H' b=none)/\W i n ys H') ?_ m0
   ⟨0,[],_,I4,st4,λb hb=>(hf3 b hb).1,w0⟩
  rintro n s5 ⟨i,ys,H5,I5,st5,fr5,w5⟩;have way:=step i n ys H5 w5;rcases way with⟨stop,q⟩|⟨go,N,hN,turn⟩
  ·refine thn (T.done (cxC X scope own fr s3.heap.objs.size fp s3 (upd H1 s2.heap.objs.size (.lst []))) rfl rfl rfl hc i pins s5 _ H5 _ I5 (stat fr5) st5 stop) λr s6 ⟨hr,I6⟩=>?_;subst hr;have J6:Inv X pins σ H5 s6:=I3.call' I6.os I6.base I6.hok I6.bare λb hb=>⟨(hf b hb).2.2.2.1,(hf b hb).2.1,(hf b hb).2.2.2.2.1,(hf b hb).2.2.2.2.2⟩;obtain⟨m6,ns6,_⟩:=I6.loc;refine hRR _ _ H5 s6 J6 ⟨m6,ns6⟩ I6.free (V5 I3.lt) I3.sz (λx c e=>?_) (λp hp=>?_) q
   ·obtain⟨v,z⟩:=I3.cell x c e;exact XG z.lt
   ·exact XG (XA (I3.pin p hp).1)
  ·refine thn (T.item (cxC X scope own fr s3.heap.objs.size fp s3 (upd H1 s2.heap.objs.size (.lst []))) rfl rfl rfl hc i pins s5 _ H5 _ I5 (stat fr5) st5 go) λr s6 ⟨u,hr,h6⟩=>?_;subst hr;refine thn h6 λ_ s7 ⟨x,H7,I7,r7,y7,st7,fr7⟩=>?_;have I7':=I7.pinned (stat fr7) (T.obj _ _ st7);refine thn (hg _ _ _ _ _ s7 _ H7 x u _ I7' r7 (turn x H7 y7)) λ_ s8 ⟨σ8,H8,I8,kp8,q8⟩=>?_;have again:∀{H9:Hp} {s9:X1},Inv (cxC X scope own fr s3.heap.objs.size fp s3 (upd H1 s2.heap.objs.size (.lst []))) (pins++W4 fp s7.heap) σ8 H9 s9->∀{ys'},(∃m',m'<n/\W (i+1) m' ys' H9)->
     ∃m,m<n/\∃i ys H',Inv (cxC X scope own fr s3.heap.objs.size fp s3 (upd H1 s2.heap.objs.size (.lst []))) pins (sC own fr σ) H' s9/\tn i s9.heap/\(∀b∈fp,H' b=none)/\W i m ys H':=fun{H9 s9} I9 {ys'} ⟨m',hm,w9⟩=>by
    refine⟨m',hm,i+1,ys',H9,(I9.unpinned).weak kp8.1 kp8.2,T.keep _ _ _ st7 λb hb o e=>(I9.pin (b,o) (ZT _ (ZT _ (Cy hb e)))).1,λb hb=>?_,w9⟩;obtain⟨o,e,d⟩:=T.obj _ _ st7 b hb;exact(I9.pin (b,o) (ZT _ (ZT _ (Cy hb e)))).2.1
   have fin:∀{ok:Bool} {s9:X1} {H9:Hp},Inv (cxC X scope own fr s3.heap.objs.size fp s3 (upd H1 s2.heap.objs.size (.lst []))) (pins++W4 fp s7.heap) σ8 H9 s9->
     (if ok=true then te σ8 H9 λy H6=>∃zs,H6 s2.heap.objs.size=some (.lst zs)/\zs.length<sizeLine/\N (zs++[y]) (upd H6 s2.heap.objs.size (.lst (zs++[y])))else N ys H9)->
     (if ok=true then X3 (X6 X.prog X.w) X.A (eval elt (compEnvC scope (clOf X.env.cells scope.names []) s3.heap.objs.size X.env)) (λx s₄=>
      X3 (X6 X.prog X.w) X.A (call (.builtin "list.append") [.ref s2.heap.objs.size,x]) (fun _ s₅=>∃m,m<n/\∃i ys H',Inv (cxC X scope own fr s3.heap.objs.size fp s3 (upd H1 s2.heap.objs.size (.lst []))) pins (sC own fr σ) H' s₅/\tn i s₅.heap/\(∀b∈fp,H' b=none)/\W i m ys H') (fun _ _=>False) s₄) (fun _ _=>False) s9
      else∃m,m<n/\∃i ys H',Inv (cxC X scope own fr s3.heap.objs.size fp s3 (upd H1 s2.heap.objs.size (.lst []))) pins (sC own fr σ) H' s9/\tn i s9.heap/\(∀b∈fp,H' b=none)/\W i m ys H'):=fun{ok s9 H9} I9 q9=>by
    cases ok with
    |false=>
     rw[if_neg XC]at q9 ⊢;exact again I9 (hN _ _ q9)
    |true=>
     rw[if_pos rfl]at q9 ⊢;refine thn (he _ _ _ _ _ s9 σ8 H9 _ I9 q9) λv s10 ⟨y,H10,I10,r10,zs,hl10,hz5,w10⟩=>?_;refine thn (IP (X:=cxC X scope own fr s3.heap.objs.size fp s3 (upd H1 s2.heap.objs.size (.lst []))) _ s10 σ8 H10 (.ref s2.heap.objs.size) [y] (.ref s2.heap.objs.size) [v] (λ_ H'=>H'=upd H10 s2.heap.objs.size (.lst (zs++[y]))) I10 rfl (.cons r10 .nil) ⟨_,zs,y,rfl,rfl,hl10,hz5,rfl⟩) λ_ s11 ⟨_,H11,I11,_,e11⟩=>?_;subst e11;exact again I11 (hN _ _ w10)
   rcases ht s3.heap.objs.size fp s3 (upd H1 s2.heap.objs.size (.lst []))with⟨e,et⟩|⟨c,e,hcT⟩
   ·subst e et;exact wpAny_tests_nil (fin (ok:=true) I8 q8)
   ·subst e;exact wpAny_tests_one (thn (hcT _ s8 σ8 H8 _ I8 q8) λb s9 ⟨H9,I9,q9⟩=>fin I9 q9)
 subst hs3;exact codeAny_compStart_list loop (T.self _ 0 _ _ _ st4 loop)
theorem Zkt(own:List Str)(fr:List Nat){wi:TI}(hx:∀e s,¬X.xe e s)(hc:X.calm=true)(ok:W8 X.env.scope scope X.N own fr=true)(hi:PI X tg iter wi)
  (hg:∀C fp s₃ H₃,PG (cxC X scope own fr C fp s₃ H₃) tg g) (ht:∀C fp s₃ H₃,PTs (cxC X scope own fr C fp s₃ H₃) ifs tt) (he:∀C fp s₃ H₃,PE (cxC X scope own fr C fp s₃ H₃) elt te)
  (hs:∀x,BF iter X.env x=pure x:=by intro _;rfl):
  PE X (.ListComp elt [⟨tg,iter,ifs,0⟩] scope pos) (EL own fr wi g tt te):=by
 have ok':=W9 ok;intro pins s σ H Q I h;rw[eval_ListComp];refine wpAny_comprehension_free (use:=none) (cl:=clOf X.env.cells scope.names []) rfl hs (J0 λy hy hk=>I.ok.has y.1 (ok'.has y hy hk)) ok'.kind ok'.names (thn (hi pins s σ H _ I h) λv s1 h1=>thn h1 λitv s2 h2=>?_);obtain⟨it,fp,tn,J,H2,e,I2,T,st2,f2,R⟩:=h2;subst e;refine K4 (RR:=λacc C=>compPost (X6 X.prog X.w) X.A X.xe none (EP X pins σ Q) acc C) (Q:=Q) hc ok' hg ht he I2 T st2 f2 R ?_;rintro D C H' s' I' ⟨m,ns⟩ c1 c2 c3 c4 c5 q;refine⟨m,ns,λh' sb=>⟨.ref D,H',?_,rfl,q⟩⟩;exact I'.turned (t':=s'.toks) (λb o hb e=>(sb.2 b hb).trans e) c1 c2 (.inr c3) c4 c5
theorem Zft(own:List Str)(fr:List Nat){i:Nat}{y:Str}{py spos:Pos}{wi:TI}(hN:X.N.Nodup)(hi:X.N[i]?=some y) (hy:Loc X.env.scope y) (hx:∀e s,¬X.xe e s) (hc:X.calm=true) (ok:W8 X.env.scope scope X.N own fr=true) (hit:PI X tg iter wi)
  (hg:∀C fp s₃ H₃,PG (cxC X scope own fr C fp s₃ H₃) tg g) (ht:∀C fp s₃ H₃,PTs (cxC X scope own fr C fp s₃ H₃) ifs tt) (he:∀C fp s₃ H₃,PE (cxC X scope own fr C fp s₃ H₃) elt te)
  (hsw:ZP (.ListComp elt [⟨tg,iter,ifs,0⟩] scope pos) (some (.Name y py)) spos.line X.env=pure true:=by rfl) (hs:∀x,BF iter X.env x=pure x:=by intro _;rfl)
  (hf:X.fn y=true\/X.env.scope.names.lookup y=some .local:=by first|exact .inl rfl|exact .inr rfl|assumption):
  PS X (.Assign [.Name y py] (.ListComp elt [⟨tg,iter,ifs,0⟩] scope pos) spos) (tAsg (EL own fr wi g tt te) (Cw i)):=by
 have ok':=W9 ok;intro pins s σ H D I h;rw[exec_Assign_Name_used _ _ _ _ hsw];refine X2 (wpAny_standAt (X2 ?_));show X3 _ X.A (do let _<- comprehension (.ListComp elt [⟨tg,iter,ifs,0⟩] scope pos) scope X.env _ (newList []) false (eval iter X.env) (some (assign (.Name y py) X.env))) _ _ s
 refine X2 (ZN (wpAny_comprehension_free (use:=some (assign (.Name y py) X.env)) (cl:=clOf X.env.cells scope.names []) (Q:=λ_ s'=>SP X pins D .next s') rfl hs (J0 λy hy hk=>I.ok.has y.1 (ok'.has y hy hk)) ok'.kind ok'.names
  (thn (hit pins s σ H _ I h) λv s1 h1=>thn h1 λitv s2 h2=>?_)) (λ_ s' hq=>X8 (X8 hq)) λ_ _ e=>e)
 obtain⟨it,fp,tn,J,H2,e,I2,T,st2,f2,R⟩:=h2;subst e;refine K4 (RR:=λacc C=>compPost (X6 X.prog X.w) X.A X.xe (some (assign (.Name y py) X.env)) (λ_ s'=>SP X pins D .next s') acc C) (Q:=λv H'=>D.nx (σ.set i (some v)) H') hc ok' hg ht he I2 T st2 f2 R ?_;rintro E C H' s' I' ⟨m,ns⟩ c1 c2 c3 c4 c5 q;show X3 _ X.A (assign (.Name y py) X.env (.ref E)) _ _ _;refine wpAny_assign_Name (HZ I' hN hi hy (v:=.ref E) (u:=.ref E) rfl (λs'' I'' sb=>?_) hf);obtain⟨a,sb,ha⟩:=sb;have hCa:C≠a:=by
  rcases ha with z|z
  ·rw[z];exact c2
  ·exact λe=>c4 _ _ z e.symm
 refine⟨m,ns.sameBut sb hCa,λh' sb'=>⟨_,H',?_,q⟩⟩;exact I''.turned (t':=s''.toks) (λb o hb e=>(sb'.2 b hb).trans e) c1 c2 (.inr c3) c4 c5
end
section
variable{G:GI}{sc:Scope}{N:List Str}{e:Expr}
theorem Xe{a b:Bool}(h:(a&&b)=true):a=true/\b=true:=by rwa [Y2]at h
theorem XQ{p:Prop} [Decidable p] (h:decide p=true):p:=of_decide_eq_true h
theorem not_of{b:Bool}(h:(!b)=true):b=false:=by cases b with|false=>rfl|true=>cases h
theorem Znp{i:Nat}(h:chkE G (.var i) sc N e=true):∃x p,e=.Name x p/\N[i]?=some x/\visB sc x=true/\(x==("__debug__":Str))=false/\(x==("__classdict__":Str))=false:=by
 replace h:=Xg h;obtain⟨x,h1,h⟩:=h;obtain⟨p,rfl⟩:=Z7 h1;replace h:=Xe h;obtain⟨h,h5⟩:=h;replace h:=Xe h;obtain⟨h,h4⟩:=h;replace h:=Xe h;obtain⟨h2,h3⟩:=h;exact⟨x,p,rfl,XQ h2,h3,not_of h4,not_of h5⟩
theorem Znx{i:Int}(h:chkE G (.int i) sc N e=true):∃k p,e=.Constant (.int i) k p:=by
 replace h:=Xg h;obtain⟨x,h1,h⟩:=h;obtain⟨k,p,rfl⟩:=CN h1;exact⟨k,p,by rw[XQ h]⟩
theorem Znr{i:Str}(h:chkE G (.str i) sc N e=true):∃k p,e=.Constant (.str i) k p:=by
 replace h:=Xg h;obtain⟨x,h1,h⟩:=h;obtain⟨k,p,rfl⟩:=CN h1;exact⟨k,p,by rw[XQ h]⟩
theorem ZpY{i:Bool}(h:chkE G (.bl i) sc N e=true):∃k p,e=.Constant (.bool i) k p:=by
 replace h:=Xg h;obtain⟨x,h1,h⟩:=h;obtain⟨k,p,rfl⟩:=CN h1;exact⟨k,p,by rw[XQ h]⟩
theorem Znu(h:chkE G .non sc N e=true):∃k p,e=.Constant .none k p:=by
 replace h:=Xg h;obtain⟨x,h1,h⟩:=h;obtain⟨k,p,rfl⟩:=CN h1;exact⟨k,p,by rw[XQ h]⟩
theorem Znz{x:Str}{i:Int}(h:chkE G (.glb x i) sc N e=true):∃p,e=.Name x p/\G.gl.lookup x=some i/\glB sc x=true:=by
 replace h:=Xg h;obtain⟨y,h1,h⟩:=h;obtain⟨p,rfl⟩:=Z7 h1;replace h:=Xe h;obtain⟨h,h4⟩:=h;replace h:=Xe h;obtain⟨h2,h3⟩:=h;obtain rfl:=XQ h2;exact⟨p,rfl,XQ h3,h4⟩
theorem ZpT{c:Ty7}(h:chkE G (.ty c) sc N e=true):∃p,e=.Name (c.name:Str) p/\c≠.none/\G.bl.contains (c.name:Str)=true/\glB sc (c.name:Str)=true:=by
 replace h:=Xg h;obtain⟨y,h1,h⟩:=h;obtain⟨p,rfl⟩:=Z7 h1;replace h:=Xe h;obtain⟨h,h5⟩:=h;replace h:=Xe h;obtain⟨h,h4⟩:=h;replace h:=Xe h;obtain⟨h2,h3⟩:=h;obtain rfl:=XQ h2;exact⟨p,rfl,XQ h3,h4,h5⟩
theorem ZnD{op:Ud}{a b:IE}(h:chkE G (.bin op a b) sc N e=true):∃l r p,e=.BinOp l op r p/\chkE G a sc N l=true/\chkE G b sc N r=true:=by
 replace h:=Xg h;obtain⟨⟨l,o,r⟩,h1,h⟩:=h;obtain⟨p,rfl⟩:=Zlg h1;replace h:=Xe h;obtain⟨h,h4⟩:=h;replace h:=Xe h;obtain⟨h2,h3⟩:=h;obtain rfl:=XQ h2;exact⟨l,r,p,rfl,h3,h4⟩
theorem Znv{a:IE}(h:chkE G (.neg a) sc N e=true):∃l p,e=.UnaryOp .USub l p/\chkE G a sc N l=true:=by
 replace h:=Xg h;obtain⟨⟨o,l⟩,h1,h⟩:=h;obtain⟨p,rfl⟩:=JZ h1;replace h:=Xe h;obtain⟨h2,h3⟩:=h;obtain rfl:=XQ h2;exact⟨l,p,rfl,h3⟩
theorem Znt{a:IE}(h:chkE G (.not a) sc N e=true):∃l p,e=.UnaryOp .Not l p/\chkE G a sc N l=true:=by
 replace h:=Xg h;obtain⟨⟨o,l⟩,h1,h⟩:=h;obtain⟨p,rfl⟩:=JZ h1;replace h:=Xe h;obtain⟨h2,h3⟩:=h;obtain rfl:=XQ h2;exact⟨l,p,rfl,h3⟩
theorem ZnB{op:CmpOp}{a b:IE}(h:chkE G (.cmp op a b) sc N e=true):∃l r p,e=.Compare l [op] [r] p/\chkE G a sc N l=true/\chkE G b sc N r=true/\behindInMarks op r=false:=by
 replace h:=Xg h;obtain⟨⟨l,os,rs⟩,h1,h⟩:=h;obtain⟨p,rfl⟩:=K0 h1;replace h:=Xg h;obtain⟨o,h2,h⟩:=h;replace h:=Xg h;obtain⟨r,h3,h⟩:=h;obtain rfl:=ZK h2;obtain rfl:=ZK h3;replace h:=Xe h;obtain⟨h,h7⟩:=h;replace h:=Xe h;obtain⟨h,h6⟩:=h;replace h:=Xe h;obtain⟨h4,h5⟩:=h;obtain rfl:=XQ h4;exact⟨l,r,p,rfl,h5,h6,not_of h7⟩
theorem ZnC{op op':CmpOp}{a b c:IE}(h:chkE G (.chn op op' a b c) sc N e=true):∃l m r p,e=.Compare l [op,op'] [m,r] p/\chkE G a sc N l=true/\chkE G b sc N m=true/\chkE G c sc N r=true/\lastMarks [op,op'] [m,r]=false:=by
 replace h:=Xg h;obtain⟨⟨l,os,rs⟩,h1,h⟩:=h;obtain⟨p,rfl⟩:=K0 h1;replace h:=Xg h;obtain⟨⟨o,o'⟩,h2,h⟩:=h;replace h:=Xg h;obtain⟨⟨m,r⟩,h3,h⟩:=h;obtain rfl:=EK h2;obtain rfl:=EK h3;replace h:=Xe h;obtain⟨h,h9⟩:=h;replace h:=Xe h;obtain⟨h,h8⟩:=h;replace h:=Xe h;obtain⟨h,h7⟩:=h;replace h:=Xe h;obtain⟨h,h6⟩:=h;replace h:=Xe h;obtain⟨h4,h5⟩:=h;obtain rfl:=XQ h4;obtain rfl:=XQ h5;exact⟨l,m,r,p,rfl,h6,h7,h8,not_of h9⟩
theorem ZnE{a b:IE}(h:chkE G (.and a b) sc N e=true):∃l r rest p,e=.BoolOp .And (l::r::rest) p/\chkE G a sc N l=true/\((rest=[]/\chkE G b sc N r=true)\/chkE G b sc N (.BoolOp .And (r::rest) p)=true):=by
 replace h:=Xg h;obtain⟨⟨o,vs,p⟩,h1,h⟩:=h;obtain rfl:=K1 h1;replace h:=Xg h;obtain⟨⟨l,r,rest⟩,h2,h⟩:=h;obtain rfl:=K2 h2;replace h:=Xe h;obtain⟨h,h4⟩:=h;replace h:=Xe h;obtain⟨h2,h3⟩:=h;obtain rfl:=XQ h2;refine⟨l,r,rest,p,rfl,h3,?_⟩;cases rest with
 |nil=>exact .inl ⟨rfl,h4⟩
 |cons _ _=>exact .inr h4
theorem ZpV{a b:IE}(h:chkE G (.or a b) sc N e=true):∃l r rest p,e=.BoolOp .Or (l::r::rest) p/\chkE G a sc N l=true/\((rest=[]/\chkE G b sc N r=true)\/chkE G b sc N (.BoolOp .Or (r::rest) p)=true):=by
 replace h:=Xg h;obtain⟨⟨o,vs,p⟩,h1,h⟩:=h;obtain rfl:=K1 h1;replace h:=Xg h;obtain⟨⟨l,r,rest⟩,h2,h⟩:=h;obtain rfl:=K2 h2;replace h:=Xe h;obtain⟨h,h4⟩:=h;replace h:=Xe h;obtain⟨h2,h3⟩:=h;obtain rfl:=XQ h2;refine⟨l,r,rest,p,rfl,h3,?_⟩;cases rest with
 |nil=>exact .inl ⟨rfl,h4⟩
 |cons _ _=>exact .inr h4
theorem Zny{a b c:IE}(h:chkE G (.ife c a b) sc N e=true):∃t x y p,e=.IfExp t x y p/\tok c=true/\chkE G c sc N t=true/\chkE G a sc N x=true/\chkE G b sc N y=true:=by
 replace h:=Xg h;obtain⟨⟨t,x,y⟩,h1,h⟩:=h;obtain⟨p,rfl⟩:=Zo9 h1;replace h:=Xe h;obtain⟨h,h5⟩:=h;replace h:=Xe h;obtain⟨h,h4⟩:=h;replace h:=Xe h;obtain⟨h2,h3⟩:=h;exact⟨t,x,y,p,rfl,h2,h3,h4,h5⟩
theorem Znq{es:IEs}(h:chkE G (.tup es) sc N e=true):∃xs k p,e=.Tuple xs k p/\chkEs G es sc N xs=true:=by
 replace h:=Xg h;obtain⟨xs,h1,h⟩:=h;obtain⟨k,p,rfl⟩:=EI h1;exact⟨xs,k,p,rfl,h⟩
theorem Znw{es:IEs}(h:chkE G (.lst es) sc N e=true):∃xs p,e=.List xs p/\chkEs G es sc N xs=true:=by
 replace h:=Xg h;obtain⟨xs,h1,h⟩:=h;obtain⟨p,rfl⟩:=Zlb h1;exact⟨xs,p,rfl,h⟩
theorem ZpX{a b:IE}(h:chkE G (.ix a b) sc N e=true):∃x y p,e=.Subscript x y p/\chkE G a sc N x=true/\chkE G b sc N y=true/\A5 y=true:=by
 replace h:=Xg h;obtain⟨⟨x,y⟩,h1,h⟩:=h;obtain⟨p,rfl⟩:=EJ h1;replace h:=Xe h;obtain⟨h,h4⟩:=h;replace h:=Xe h;obtain⟨h2,h3⟩:=h;exact⟨x,y,p,rfl,h2,h3,h4⟩
theorem ZpU{a:IE}{lo hi:IO}(h:chkE G (.sl a lo hi) sc N e=true):∃x l u p p2,e=.Subscript x (.Slice l u none p2) p/\chkE G a sc N x=true/\chkO G lo sc N l=true/\chkO G hi sc N u=true:=by
 replace h:=Xg h;obtain⟨⟨x,y⟩,h1,h⟩:=h;obtain⟨p,rfl⟩:=EJ h1;replace h:=Xg h;obtain⟨⟨l,u,st⟩,h2,h⟩:=h;obtain⟨p2,rfl⟩:=Zo6 h2;replace h:=Xe h;obtain⟨h,h6⟩:=h;replace h:=Xe h;obtain⟨h,h5⟩:=h;replace h:=Xe h;obtain⟨h3,h4⟩:=h;cases st with
 |some _=>cases h6
 |none=>exact⟨x,l,u,p,p2,rfl,h3,h4,h5⟩
theorem ZkQ{j:Nat}{a:IE}{es:IEs}(h:chkE G (.call j a es) sc N e=true):∃f p x xs p2,e=.Call (.Name f p) (x::xs) [] p2/\G.fns[j]?=some f/\glB sc f=true/\chkE G a sc N x=true/\chkEs G es sc N xs=true:=by
 replace h:=Xg h;obtain⟨⟨f,l,ks,p2⟩,h1,h⟩:=h;obtain rfl:=U5 h1;replace h:=Xg h;obtain⟨g,h2,h⟩:=h;obtain⟨p,rfl⟩:=Z7 h2;replace h:=Xg h;obtain⟨⟨x,xs⟩,h3,h⟩:=h;obtain rfl:=Us h3;replace h:=Xe h;obtain⟨h,h8⟩:=h;replace h:=Xe h;obtain⟨h,h7⟩:=h;replace h:=Xe h;obtain⟨h,h6⟩:=h;replace h:=Xe h;obtain⟨h4,h5⟩:=h;obtain rfl:=Yo h4;exact⟨g,p,x,xs,p2,rfl,XQ h5,h6,h7,h8⟩
theorem ZpZ{f:BI}{a:IE}{es:IEs}(h:chkE G (.bi f a es) sc N e=true):∃p x xs p2,e=.Call (.Name (f.name:Str) p) (x::xs) [] p2/\G.bl.contains (f.name:Str)=true/\glB sc (f.name:Str)=true/\chkE G a sc N x=true/\chkEs G es sc N xs=true:=by
 replace h:=Xg h;obtain⟨⟨f',l,ks,p2⟩,h1,h⟩:=h;obtain rfl:=U5 h1;replace h:=Xg h;obtain⟨g,h2,h⟩:=h;obtain⟨p,rfl⟩:=Z7 h2;replace h:=Xg h;obtain⟨⟨x,xs⟩,h3,h⟩:=h;obtain rfl:=Us h3;replace h:=Xe h;obtain⟨h,h9⟩:=h;replace h:=Xe h;obtain⟨h,h8⟩:=h;replace h:=Xe h;obtain⟨h,h7⟩:=h;replace h:=Xe h;obtain⟨h,h6⟩:=h;replace h:=Xe h;obtain⟨h4,h5⟩:=h;obtain rfl:=Yo h4;obtain rfl:=XQ h5;exact⟨p,x,xs,p2,rfl,h6,h7,h8,h9⟩
theorem Zq0{f:B2}{a:IE}(h:chkE G (.b2 f a) sc N e=true):∃p p' x p2 p2',e=.Call (.Name (f.out:Str) p) [.Call (.Name (f.inn:Str) p') [x] [] p2'] [] p2/\G.bl.contains (f.out:Str)=true/\G.bl.contains (f.inn:Str)=true/\glB sc (f.out:Str)=true/\glB sc (f.inn:Str)=true/\chkE G a sc N x=true:=by
 replace h:=Xg h;obtain⟨⟨f',l,ks,p2⟩,h1,h⟩:=h;obtain rfl:=U5 h1;replace h:=Xg h;obtain⟨g,h2,h⟩:=h;obtain⟨p,rfl⟩:=Z7 h2;replace h:=Xg h;obtain⟨y,h3,h⟩:=h;obtain rfl:=ZK h3;replace h:=Xg h;obtain⟨⟨f'',l',ks',p2'⟩,h4,h⟩:=h;obtain rfl:=U5 h4;replace h:=Xg h;obtain⟨k,h5,h⟩:=h;obtain⟨p',rfl⟩:=Z7 h5;replace h:=Xg h;obtain⟨x,h6,h⟩:=h;obtain rfl:=ZK h6;simp only[Y2]at h;obtain⟨⟨⟨⟨⟨⟨⟨⟨a1,a2⟩,a3⟩,a4⟩,a5⟩,a6⟩,a7⟩,a8⟩,a9⟩:=h;obtain rfl:=Yo a1;obtain rfl:=Yo a2;obtain rfl:=XQ a3;obtain rfl:=XQ a4;exact⟨p,p',x,p2,p2',rfl,a5,a6,a7,a8,a9⟩
theorem ZpW{m:MT}{o:IE}{es:IEs}(h:chkE G (.mt m o es) sc N e=true):∃ob ap args cp,e=.Call (.Attribute ob (m.name:Str) ap) args [] cp/\(ap.endLine==cp.line)=true/\chkE G o sc N ob=true/\chkEs G es sc N args=true/\args.length<20:=by
 replace h:=Xg h;obtain⟨⟨f',args,ks,cp⟩,h1,h⟩:=h;obtain rfl:=U5 h1;replace h:=Xg h;obtain⟨⟨ob,nm,ap⟩,h2,h⟩:=h;obtain rfl:=CO h2;replace h:=Xe h;obtain⟨h,h8⟩:=h;replace h:=Xe h;obtain⟨h,h7⟩:=h;replace h:=Xe h;obtain⟨h,h6⟩:=h;replace h:=Xe h;obtain⟨h,h5⟩:=h;replace h:=Xe h;obtain⟨h3,h4⟩:=h;obtain rfl:=Yo h3;obtain rfl:=XQ h4;exact⟨ob,ap,args,cp,rfl,h5,h6,h7,XQ h8⟩
theorem K5{own:List Str}{fr:List Nat}{src:ISr}{tg:ITg}{test:IO}{elt:IE}(h:chkE G (.comp own fr src tg test elt) sc N e=true):∃x t it ifs scope p,e=.ListComp x [⟨t,it,ifs,0⟩] scope p/\W8 sc scope N own fr=true/\A6 it=true/\
  (nC own fr N).Nodup/\chkSr G src sc N it=true/\Zj (Wf scope sc) (nC own fr N) own.length false tg t=true/\chkI G test (Wf scope sc) (nC own fr N) ifs=true/\chkE G elt (Wf scope sc) (nC own fr N) x=true:=by
 replace h:=Xg h;obtain⟨⟨x,gs,scope⟩,h1,h⟩:=h;obtain⟨p,rfl⟩:=Zo8 h1;replace h:=Xg h;obtain⟨⟨t,it,ifs,k⟩,h2,h⟩:=h;obtain rfl:=ZK h2;replace h:=Xe h;obtain⟨h,h9⟩:=h;replace h:=Xe h;obtain⟨h,h8⟩:=h;replace h:=Xe h;obtain⟨h,h7⟩:=h;replace h:=Xe h;obtain⟨h,h6⟩:=h;replace h:=Xe h;obtain⟨h,h5⟩:=h;replace h:=Xe h;obtain⟨h,h4⟩:=h;replace h:=Xe h;obtain⟨h2,h3⟩:=h;obtain rfl:=XQ h9;exact⟨x,t,it,ifs,scope,p,rfl,h2,h3,XQ h4,h5,h6,h7,h8⟩
theorem ZnA{c f:Str}{o:IE}(h:chkE G (.fld c o f) sc N e=true):∃ob p,e=.Attribute ob f p/\G.cls.contains (c,f)=true/\chkE G o sc N ob=true:=by
 replace h:=Xg h;obtain⟨⟨ob,nm,p⟩,h1,h⟩:=h;obtain rfl:=CO h1;replace h:=Xe h;obtain⟨h,h4⟩:=h;replace h:=Xe h;obtain⟨h2,h3⟩:=h;obtain rfl:=XQ h2;exact⟨ob,p,rfl,h3,h4⟩
theorem ZiW{j:Nat}{c m:Str}{o:IE}{es:IEs}(h:chkE G (.mcall j c m o es) sc N e=true):∃ob ap args cp,e=.Call (.Attribute ob m ap) args [] cp/\G.mts.contains (j,c,m)=true/\chkE G o sc N ob=true/\chkEs G es sc N args=true/\(ap.endLine==cp.line)=true/\args.length<20:=by
 replace h:=Xg h;obtain⟨⟨f',args,ks,cp⟩,h1,h⟩:=h;obtain rfl:=U5 h1;replace h:=Xg h;obtain⟨⟨ob,nm,ap⟩,h2,h⟩:=h;obtain rfl:=CO h2;simp only[Y2]at h;obtain⟨⟨⟨⟨⟨⟨a1,a2⟩,a3⟩,a4⟩,a5⟩,a6⟩,a7⟩:=h;obtain rfl:=Yo a1;obtain rfl:=XQ a2;exact⟨ob,ap,args,cp,rfl,a3,a4,a5,a6,XQ a7⟩
theorem ZkP{j:Nat}{c:Str}{a:IE}{es:IEs}(h:chkE G (.make j c a es) sc N e=true):∃p x xs p2,e=.Call (.Name c p) (x::xs) [] p2/\G.mks.contains (j,c)=true/\glB sc c=true/\chkE G a sc N x=true/\chkEs G es sc N xs=true:=by
 replace h:=Xg h;obtain⟨⟨f',l,ks,p2⟩,h1,h⟩:=h;obtain rfl:=U5 h1;replace h:=Xg h;obtain⟨g,h2,h⟩:=h;obtain⟨p,rfl⟩:=Z7 h2;replace h:=Xg h;obtain⟨⟨x,xs⟩,h3,h⟩:=h;obtain rfl:=Us h3;simp only[Y2]at h;obtain⟨⟨⟨⟨⟨a1,a2⟩,a3⟩,a4⟩,a5⟩,a6⟩:=h;obtain rfl:=Yo a1;obtain rfl:=XQ a2;exact⟨p,x,xs,p2,rfl,a3,a4,a5,a6⟩
theorem Zhl{ks:List (Option Expr)}{vs:List Expr}(h:A9 G .nil sc N ks vs=true):ks=[]/\vs=[]:=by
 replace h:=Xe h;exact⟨Yo h.1,Yo h.2⟩
theorem ZfU{k v:IE}{ps:IPs}{ks:List (Option Expr)}{vs:List Expr}(h:A9 G (.cons k v ps) sc N ks vs=true):∃x ks' y vs',ks=some x::ks'/\vs=y::vs'/\chkE G k sc N x=true/\chkE G v sc N y=true/\A9 G ps sc N ks' vs'=true:=by
 replace h:=Xg h;obtain⟨⟨o,ks'⟩,h1,h⟩:=h;replace h:=Xg h;obtain⟨⟨y,vs'⟩,h2,h⟩:=h;replace h:=Xg h;obtain⟨x,h3,h⟩:=h;replace h:=Xe h;obtain⟨h,h6⟩:=h;replace h:=Xe h;obtain⟨h4,h5⟩:=h;dsimp only at h3;subst h3;exact⟨x,ks',y,vs',Us h1,Us h2,h4,h5,h6⟩
theorem EM{l:List Expr}(h:chkEs G .nil sc N l=true):l=[]:=by
 exact Yo h
theorem EN{a:IE}{es:IEs}{l:List Expr}(h:chkEs G (.cons a es) sc N l=true):∃x xs,l=x::xs/\chkE G a sc N x=true/\chkEs G es sc N xs=true:=by
 replace h:=Xg h;obtain⟨⟨x,xs⟩,h1,h⟩:=h;exact⟨x,xs,Us h1,Xe h⟩
theorem Zhn{o:Option Expr}(h:chkO G .none sc N o=true):o=none:=by
 cases o with
 |none=>rfl
 |some _=>cases h
theorem Zhm{a:IE}{o:Option Expr}(h:chkO G (.some a) sc N o=true):∃x,o=some x/\chkE G a sc N x=true:=by
 exact Xg h
theorem Zhp{l:List Expr}(h:chkI G .none sc N l=true):l=[]:=by
 exact Yo h
theorem Zho{a:IE}{l:List Expr}(h:chkI G (.some a) sc N l=true):∃x,l=[x]/\tok a=true/\chkE G a sc N x=true:=by
 replace h:=Xg h;obtain⟨x,h1,h⟩:=h;exact⟨x,ZK h1,Xe h⟩
theorem Zns{a:IE}(h:chkSr G (.rng a) sc N e=true):∃p x p2,e=.Call (.Name ("range":Str) p) [x] [] p2/\G.bl.contains ("range":Str)=true/\glB sc ("range":Str)=true/\chkE G a sc N x=true:=by
 replace h:=Xg h;obtain⟨⟨f',l,ks,p2⟩,h1,h⟩:=h;obtain rfl:=U5 h1;replace h:=Xg h;obtain⟨g,h2,h⟩:=h;obtain⟨p,rfl⟩:=Z7 h2;replace h:=Xg h;obtain⟨x,h3,h⟩:=h;obtain rfl:=ZK h3;replace h:=Xe h;obtain⟨h,h8⟩:=h;replace h:=Xe h;obtain⟨h,h7⟩:=h;replace h:=Xe h;obtain⟨h,h6⟩:=h;replace h:=Xe h;obtain⟨h4,h5⟩:=h;obtain rfl:=Yo h4;obtain rfl:=XQ h5;exact⟨p,x,p2,rfl,h6,h7,h8⟩
theorem ZkO{a b:IE}(h:chkSr G (.rng2 a b) sc N e=true):∃p x y p2,e=.Call (.Name ("range":Str) p) [x,y] [] p2/\G.bl.contains ("range":Str)=true/\glB sc ("range":Str)=true/\chkE G a sc N x=true/\chkE G b sc N y=true:=by
 replace h:=Xg h;obtain⟨⟨f',l,ks,p2⟩,h1,h⟩:=h;obtain rfl:=U5 h1;replace h:=Xg h;obtain⟨g,h2,h⟩:=h;obtain⟨p,rfl⟩:=Z7 h2;replace h:=Xg h;obtain⟨⟨x,y⟩,h3,h⟩:=h;obtain rfl:=EK h3;replace h:=Xe h;obtain⟨h,h9⟩:=h;replace h:=Xe h;obtain⟨h,h8⟩:=h;replace h:=Xe h;obtain⟨h,h7⟩:=h;replace h:=Xe h;obtain⟨h,h6⟩:=h;replace h:=Xe h;obtain⟨h4,h5⟩:=h;obtain rfl:=Yo h4;obtain rfl:=XQ h5;exact⟨p,x,y,p2,rfl,h6,h7,h8,h9⟩
theorem ZkN{a b c:IE}(h:chkSr G (.rng3 a b c) sc N e=true):∃p x y z p2,e=.Call (.Name ("range":Str) p) [x,y,z] [] p2/\G.bl.contains ("range":Str)=true/\glB sc ("range":Str)=true/\chkE G a sc N x=true/\chkE G b sc N y=true/\chkE G c sc N z=true:=by
 replace h:=Xg h;obtain⟨⟨f',l,ks,p2⟩,h1,h⟩:=h;obtain rfl:=U5 h1;replace h:=Xg h;obtain⟨g,h2,h⟩:=h;obtain⟨p,rfl⟩:=Z7 h2;replace h:=Xg h;obtain⟨⟨x,y,z⟩,h3,h⟩:=h;obtain rfl:=Zmg h3;replace h:=Xe h;obtain⟨h,h10⟩:=h;replace h:=Xe h;obtain⟨h,h9⟩:=h;replace h:=Xe h;obtain⟨h,h8⟩:=h;replace h:=Xe h;obtain⟨h,h7⟩:=h;replace h:=Xe h;obtain⟨h,h6⟩:=h;replace h:=Xe h;obtain⟨h4,h5⟩:=h;obtain rfl:=Yo h4;obtain rfl:=XQ h5;exact⟨p,x,y,z,p2,rfl,h6,h7,h8,h9,h10⟩
theorem EO{lim:Nat}{all:Bool}{i:Nat}(h:Zj sc N lim all (.nm i) e=true):∃x p,e=.Name x p/\N[i]?=some x/\i<lim/\(if all then locB sc x else decide (sc.names.lookup x=some .local))=true:=by
 replace h:=Xg h;obtain⟨x,h1,h⟩:=h;obtain⟨p,rfl⟩:=Z7 h1;replace h:=Xe h;obtain⟨h,h4⟩:=h;replace h:=Xe h;obtain⟨h2,h3⟩:=h;exact⟨x,p,rfl,XQ h2,XQ h3,h4⟩
theorem EQ{lim:Nat}{all:Bool}{ts:ITgs}(h:Zj sc N lim all (.tup ts) e=true):∃es k p,e=.Tuple es k p/\chkTgs sc N lim all ts es=true:=by
 replace h:=Xg h;obtain⟨es,h1,h⟩:=h;obtain⟨k,p,rfl⟩:=EI h1;exact⟨es,k,p,rfl,h⟩
theorem ZfT{lim:Nat}{all:Bool}{l:List Expr}(h:chkTgs sc N lim all .nil l=true):l=[]:=by
 exact Yo h
theorem K6{lim:Nat}{all:Bool}{t:ITg}{ts:ITgs}{l:List Expr}(h:chkTgs sc N lim all (.cons t ts) l=true):∃x xs,l=x::xs/\Zj sc N lim all t x=true/\chkTgs sc N lim all ts xs=true:=by
 replace h:=Xg h;obtain⟨⟨x,xs⟩,h1,h⟩:=h;exact⟨x,xs,Us h1,Xe h⟩
end
def liT(K:X5)(t:TEm):TT:=λσ H Q=>∃σm M,RS K H σm σ/\RH K M H/\t σm M (λm M'=>∃b,m=.bl b/\∀H',Kp H H'->RH K M' H'->Q b H')
def liO(K:X5)(t:Sm->MH->(Option Int->MH->Prop)->Prop):TO:=λσ H Q=>∃σm M,RS K H σm σ/\RH K M H/\t σm M (λo M'=>∀H',Kp H H'->RH K M' H'->Q o H')
section
variable{K:X5}
theorem ER{t:TEm}(m:MonE t){σ:St}{H:Hp}{Q:Bool->Hp->Prop}(h:liT K t σ H Q):liE K t σ H λx H'=>∃c,x=.bl c/\Q c H':=by
 obtain⟨σm,M,rs,rh,h⟩:=h;refine⟨σm,M,rs,rh,m (λx M1 ⟨b,e,h1⟩=>?_) h⟩;subst e;intro v H1 k1 r1 rh1;cases r1;exact⟨b,rfl,h1 H1 k1 rh1⟩
theorem K7{t:TEm}(m:MonE t){σm:Sm}{M:MH}{H H1:Hp}{Q:Bool->Hp->Prop}(k:Kp H H1)(h:t σm M λx M'=>∃b,x=.bl b/\∀H',Kp H H'->RH K M' H'->Q b H'):
  t σm M λx M'=>∃b,x=.bl b/\∀H',Kp H1 H'->RH K M' H'->Q b H':=
 m (λx M' ⟨b,e,q⟩=>⟨b,e,λH' k'=>q H' (k.trans k')⟩) h
theorem Znj{te:TEm}{t:TAm}(me:MonE te)(mt:MonA t){σ:St}{H:Hp}{Q:List V->Hp->Prop}(h:liA K (λσ M Q=>te σ M λv M1=>t σ M1 λvs M2=>Q (v::vs) M2) σ H Q):W7 (liE K te) (liA K t) σ H Q:=by
 obtain⟨σm,M,rs,rh,h⟩:=h;refine⟨σm,M,rs,rh,me (λx M1 h1=>?_) h⟩;intro v H1 k1 r1 rh1;refine⟨σm,M1,rs.mono k1,rh1,mt (λms M2 h2=>?_) h1⟩;intro vs H2 k2 r2 rh2;exact h2 (v::vs) H2 (k1.trans k2) (.cons (r1.mono k2) r2) rh2
end
def ES(X:Cx)(H:Hp):Src->It->Prop
 |.tup xs,J=>(∃a vs,H a=some (.tup vs)/\RMs X.K H xs vs/\J=Itt X.K a)\/∃a vs,FrL X.K H a vs/\RMs X.K H xs vs/\J=Itl X.K a
 |.lst a _,J=>J=Itl X.K a
 |.rng lo n,J=>J=Itr lo n
 |.rst lo st n,J=>J=Itrs lo st n
 |.dic a o _,J=>J=Itd a o/\∀o' u',X.H₀ a≠some (.frz o' u')
 |.str x,J=>J=Its x
theorem CQ{X:Cx}{H0 H:Hp}{M:MH}{S:Src}{J:It}(s:ES X H0 S J)(rh:RH X.K M H)(ok:S.okT M):∃H',Thw X H H'/\Kp H H'/\RH X.K (S.thaw M) H':=by
 cases S with
 |tup xs=>exact⟨H,.inl rfl,Kp.refl _,rh⟩
 |lst a xs=>exact⟨H,.inl rfl,Kp.refl _,rh⟩
 |rng a xs=>exact⟨H,.inl rfl,Kp.refl _,rh⟩
 |rst a b xs=>exact⟨H,.inl rfl,Kp.refl _,rh⟩
 |str x=>exact⟨H,.inl rfl,Kp.refl _,rh⟩
 |dic a o kvs=>
  obtain⟨vs,e,r,nd⟩:=rh.fdic ok;have k:=Kp.upd e rfl (.dK vs);exact⟨_,.inr ⟨a,o,.dK vs,e,trivial,s.2,rfl⟩,k,rh.put k (o:=.dic kvs) ⟨r.mono k,nd⟩⟩
theorem K8{M:MH}{S:Src}(ok:S.ok M):S.okT M:=by
 cases S<;>first|trivial|exact ok
theorem K9{K:X5}{H:Hp}{k:Key}{v:V}:∀{m:List (Key×MV)} {vs:List (Key×V)} {i:Nat},RKs K H m vs->vs[i]?=some (k,v)->∃x,m[i]?=some (k,x)/\RM K H x v
 |_,_,_,.nil,h=>by cases h
 |_,_,0,.cons r _,h=>by cases h;exact⟨_,rfl,r⟩
 |_,_,i+1,.cons _ t,h=>K9 (i:=i) t h
theorem Ka{X:Cx}{H0 H:Hp}{M:MH}{S:Src}{J:It}(s:ES X H0 S J)(k:Kp H0 H)(rh:RH X.K M H)(ok:S.ok M):
  (∀i,i<S.len->J.go i H/\∀x H',J.yld i H x H'->H'=H/\∃m,S.items[i]?=some m/\RM X.K H m x)/\∀i,S.len≤i->J.stop i H:=by
 have seqL:∀{a:Addr} {xs:List MV} {vs:List V},SqL X.K H a vs->RMs X.K H xs vs->(∀i,i<xs.length->(Itl X.K a).go i H/\∀x H',(Itl X.K a).yld i H x H'->H'=H/\∃m,xs[i]?=some m/\RM X.K H m x)/\∀i,xs.length≤i->(Itl X.K a).stop i H:=by
  intro a xs vs hs r;refine⟨λi hi=>⟨⟨vs,_,hs,Xd (by rw[<- r.length];exact hi)⟩,λx H' y=>?_⟩,λi hi=>⟨vs,hs,by rw[<- r.length];exact hi⟩⟩
  exact⟨y.1,r.get' (y.2 vs hs)⟩
 cases S with
 |tup xs=>
  rcases s with⟨a,vs,h,r,rfl⟩|⟨a,vs,h,r,rfl⟩
  ·have h:=SqT.of (K:=X.K) (k _ _ h rfl);have r:=r.mono k;refine⟨λi hi=>⟨⟨vs,_,h,Xd (by rw[<- r.length];exact hi)⟩,λx H' y=>?_⟩,λi hi=>⟨vs,h,by rw[<- r.length];exact hi⟩⟩
   exact⟨y.1,r.get' (y.2 vs h)⟩
  ·refine seqL (FrL.sq ?_) (r.mono k);rcases h with⟨o,h⟩|h
   ·exact .inl ⟨o,k _ _ h rfl⟩
   ·exact .inr h
 |lst a xs=>
  cases s;obtain⟨vs,h,r⟩:=rh.lst ok;exact seqL (SqL.of h) r
 |rng lo n=>
  cases s;refine⟨λi hi=>⟨hi,λx H' y=>⟨y.1,.int (lo+(i:Nat)),?_,?_⟩⟩,λi hi=>hi⟩
  ·show((Xx n).map _)[i]?=_;rw[Xw,Xd (by simpa using(show i<n from hi))]
   simp
  ·rw[y.2];exact .int _
 |rst lo st n=>
  cases s;refine⟨λi hi=>⟨hi,λx H' y=>⟨y.1,.int (lo+(i:Nat)*st),?_,?_⟩⟩,λi hi=>hi⟩
  ·show((Xx n).map _)[i]?=_;rw[Xw,Xd (by simpa using(show i<n from hi))]
   simp
  ·rw[y.2];exact .int _
 |str z=>
  cases s;refine⟨λi hi=>⟨hi,λx H' y=>?_⟩,λi hi=>hi⟩;obtain⟨e,c,hc,rfl⟩:=y;refine⟨e,.str ⟨#[c]⟩,?_,.str _⟩;show(z.cps.toList.map _)[i]?=_;rw[Xw,Hh,hc]
  rfl
 |dic a o kvs=>
  obtain⟨rfl,_⟩:=s;obtain⟨vs,e,r,nd⟩:=rh.fdic ok;refine⟨λi hi=>⟨⟨vs,e,by rw[<- r.length];exact hi⟩,λx H' y=>?_⟩,λi hi=>⟨vs,e,by rw[<- r.length];exact hi⟩⟩
  obtain⟨rfl,y⟩:=y;obtain⟨kk,v,hv,rfl⟩:=y vs e;obtain⟨x,hx,_⟩:=K9 r hv;refine⟨rfl,kM kk,?_,?_⟩
  ·show(kvs.map λp=>kM p.1)[i]?=_;rw[Xw,hx];rfl
  ·cases kk with
   |inl i=>exact .int i
   |inr x=>exact .str x
def liSr(X:Cx)(t:TSm):TI:=λσ H R=>∃σm M,RS X.K H σm σ/\RH X.K M H/\t σm M (λS M'=>∀J H',Kp H H'->RH X.K M' H'->ES X H' S J->R J H')
section
variable{X:Cx}{tg:Expr}
theorem PI.weak{e:Expr}{t t':TI}(h:PI X tg e t)(i:∀σ H R,t' σ H R->t σ H R):PI X tg e t':=λpins s σ H R I q=>h pins s σ H R I (i _ _ _ q)
end
mutual
def gOf(K:X5):ITg->TG
 |.nm i=>Cw i
 |.tup ts=>gTup K (ITgs.len ts) (gsOf K ts)
def gsOf(K:X5):ITgs->TGs
 |.nil=>gNil
 |.cons t ts=>Id (gOf K t) (gsOf K ts)
def ITgs.len:ITgs->Nat
 |.nil=>0
 |.cons _ ts=>ts.len+1
end
mutual
theorem sTg{X:Cx}{lim:Nat}{all:Bool}(hc:X.calm=true)(hN:X.N.Nodup)(hf:all=true->∀x,X.fn x=true):∀(t:ITg) {e:Expr},Zj X.env.scope X.N lim all t e=true->PG X e (gOf X.K t)
 |.nm i,e,h=>by
  obtain⟨x,p,rfl,h1,h2,h3⟩:=EO h;cases all with
  |true=>
   rw[if_pos rfl]at h3;exact Ic hN h1 (CP h3) (.inl (hf rfl _))
  |false=>
   rw[if_neg XC,decide_eq_true_eq]at h3;exact Ic hN h1 (.inl h3) (.inr h3)
 |.tup ts,e,h=>by
  obtain⟨es,k,p,rfl,h⟩:=EQ h;obtain⟨h1,h2,h3⟩:=sTgs hc hN hf ts h;exact Sn hc h1 h2 h3
theorem sTgs{X:Cx}{lim:Nat}{all:Bool}(hc:X.calm=true)(hN:X.N.Nodup)(hf:all=true->∀x,X.fn x=true):∀(t:ITgs) {es:List Expr},chkTgs X.env.scope X.N lim all t es=true->PGs X es (gsOf X.K t)/\(ZQ es X.env).length=t.len/\(ZQ es X.env).findIdx? (·.1)=none
 |.nil,l,h=>by
  cases ZfT h;rw[gsOf,ITgs.len];exact⟨Sk,rfl,rfl⟩
 |.cons t ts,l,h=>by
  obtain⟨e,es,rfl,ha,hb⟩:=K6 h;obtain⟨h1,h2,h3⟩:=sTgs hc hN hf ts hb;have h4:=sTg hc hN hf t ha;have e1:ZQ (e::es) X.env=(false,assign e X.env)::ZQ es X.env:=by
   cases t with
   |nm i=>obtain⟨x,p,rfl,_⟩:=EO ha;rfl
   |tup ts=>obtain⟨x,k,p,rfl,_⟩:=EQ ha;rfl
  rw[gsOf,ITgs.len];refine⟨Sl h4 h1 (by rw[e1];rfl),by rw[e1,Yu,h2],?_⟩
  rw[e1,List.findIdx?_cons,if_neg XC,h3]
  rfl
end
theorem RMs.len_tgs{K:X5}:∀{ts:ITgs} {xs:List MV} {σ:Sm} {P:Sm->Prop},wTgs ts xs σ P->xs.length=ts.len
 |.nil,xs,σ,P,h=>by rw[h.1,ITgs.len];rfl
 |.cons t ts,xs,σ,P,h=>by
  obtain⟨v,r,rfl,h⟩:=h;rw[Yu,ITgs.len];have aux:∀(t:ITg) {v:MV} {σ:Sm},wTg t v σ (λσ'=>wTgs ts r σ' P)->∃σ',wTgs ts r σ' P:=by
   have both:(∀(t:ITg) {v:MV} {σ:Sm} {P:Sm->Prop},wTg t v σ P->∃σ',P σ')/\(∀(t:ITgs) {v:List MV} {σ:Sm} {P:Sm->Prop},wTgs t v σ P->∃σ',P σ'):=by
    refine⟨λt=>?_,λt=>?_⟩
    ·exact ITg.rec (motive_1:=λt=>∀{v:MV} {σ:Sm} {P:Sm->Prop},wTg t v σ P->∃σ',P σ') (motive_2:=λt=>∀{v:List MV} {σ:Sm} {P:Sm->Prop},wTgs t v σ P->∃σ',P σ')
      (λi v σ P h=>⟨_,h⟩) (λts ih v σ P h=>by obtain⟨xs,_,h⟩:=h;exact ih h)
      (fun{v σ P} h=>⟨_,h.2⟩) (λt ts i1 i2 v σ P h=>by obtain⟨x,r,_,h⟩:=h;obtain⟨σ',h⟩:=i1 h;exact i2 h) t
    ·exact ITgs.rec (motive_1:=λt=>∀{v:MV} {σ:Sm} {P:Sm->Prop},wTg t v σ P->∃σ',P σ') (motive_2:=λt=>∀{v:List MV} {σ:Sm} {P:Sm->Prop},wTgs t v σ P->∃σ',P σ')
      (λi v σ P h=>⟨_,h⟩) (λts ih v σ P h=>by obtain⟨xs,_,h⟩:=h;exact ih h)
      (fun{v σ P} h=>⟨_,h.2⟩) (λt ts i1 i2 v σ P h=>by obtain⟨x,r,_,h⟩:=h;obtain⟨σ',h⟩:=i1 h;exact i2 h) t
   exact λt {v σ} h=>both.1 t h
  obtain⟨σ',h'⟩:=aux t h;rw[RMs.len_tgs (K:=K) h']
mutual
theorem CS{K:X5}{H:Hp}{lim:Nat}{sc:Scope}{N:List Str}{all:Bool}{Ψ:St->Prop}(hΨ:∀σ i v,i<lim->Ψ σ->Ψ (σ.set i (some v))):∀(t:ITg) {e:Expr} {mv:MV} {v:V} {σm:Sm} {σ:St} {P:Sm->Prop} {Q:St->Hp->Prop},Zj sc N lim all t e=true->
  RM K H mv v->RS K H σm σ->Ψ σ->wTg t mv σm P->(∀σm' σ',P σm'->RS K H σm' σ'->Ψ σ'->Q σ' H)->gOf K t v σ H Q
 |.nm i,e,mv,v,σm,σ,P,Q,hc,r,rs,ps,h,hq=>by
  obtain⟨x,p,rfl,_,hl,_⟩:=EO hc;exact hq _ _ h (rs.set r i) (hΨ _ _ _ hl ps)
 |.tup ts,e,mv,v,σm,σ,P,Q,hc,r,rs,ps,h,hq=>by
  obtain⟨es,k,p,rfl,hc⟩:=EQ hc;obtain⟨xs,rfl,h⟩:=h;cases r with
  |tup h1 q1=>
   exact⟨_,_,rfl,SqT.of h1,by rw[<- q1.length];exact RMs.len_tgs (K:=K) h,tgs_ok hΨ ts hc q1 rs ps h hq⟩
theorem tgs_ok{K:X5}{H:Hp}{lim:Nat}{sc:Scope}{N:List Str}{all:Bool}{Ψ:St->Prop}(hΨ:∀σ i v,i<lim->Ψ σ->Ψ (σ.set i (some v))):∀(t:ITgs) {es:List Expr} {mvs:List MV} {vs:List V} {σm:Sm} {σ:St} {P:Sm->Prop} {Q:St->Hp->Prop},chkTgs sc N lim all t es=true->
  RMs K H mvs vs->RS K H σm σ->Ψ σ->wTgs t mvs σm P->(∀σm' σ',P σm'->RS K H σm' σ'->Ψ σ'->Q σ' H)->gsOf K t vs σ H Q
 |.nil,es,mvs,vs,σm,σ,P,Q,hc,r,rs,ps,h,hq=>by
  obtain⟨rfl,h⟩:=h;cases r;rw[gsOf];exact⟨rfl,hq _ _ h rs ps⟩
 |.cons t ts,es,mvs,vs,σm,σ,P,Q,hc,r,rs,ps,h,hq=>by
  obtain⟨e,es,rfl,hc1,hc2⟩:=K6 hc;obtain⟨x,rr,rfl,h⟩:=h;cases r with
  |cons r1 r2=>
   rw[gsOf];exact⟨_,_,rfl,CS hΨ t hc1 r1 rs ps h λσm' σ' h' rs' ps'=>tgs_ok hΨ ts hc2 r2 rs' ps' h' hq⟩
end
theorem Zqz{K:X5}{H:Hp}{own:List Str}{fr:List Nat}{σm:Sm}{σ:St}(rs:RS K H σm σ):RS K H (sCm own fr σm) (sC own fr σ):=by
 refine⟨by simp[sCm,sC],λi m e=>?_⟩
 unfold sCm at e;unfold sC;by_cases hi:i<own.length
 ·rw[Uh (by simpa using hi),Xw]at e
  cases q:own[i]? with
  |none=>rw[q]at e;cases e
  |some z=>rw[q]at e;cases e
 ·rw[ZS (by simpa using hi),Xa,Xw]at e
  rw[ZS (by simpa using hi),Xa,Xw]
  cases q:fr[i - own.length]? with
  |none=>rw[q]at e;cases e
  |some j=>
   rw[q]at e;have e':σm.getD j none=some m:=YD e;have e2:σm[j]?=some (some m):=by
    rw[Yr]at e';cases q2:σm[j]? with
    |none=>rw[q2]at e';cases e'
    |some o=>rw[q2]at e';rw[show o=some m from e']
   obtain⟨v,hv,r⟩:=rs.2 j m e2;refine⟨v,?_,r⟩;show some (σ.getD j none)=_;rw[Yr,hv]
   rfl
theorem ZkL{own:List Str}{fr:List Nat}{σ σ':St}{i:Nat}{v:V}(hi:i<own.length)(k:Keep (sC own fr σ) σ'):Keep (sC own fr σ) (σ'.set i (some v)):=by
 refine⟨by rw[UD];exact k.1,λj w h=>?_⟩
 by_cases hij:i=j
 ·subst hij;exfalso;unfold sC at h;rw[Uh (by simpa using hi),Xw]at h
  cases q:own[i]? with
  |none=>rw[q]at h;cases h
  |some z=>rw[q]at h;cases h
 ·rw[VF,if_neg hij];exact k.2 j w h
theorem Zkm{y:Expr}(h:A5 y=true):IH y:=by
 intro o i;cases y<;>first|rfl|cases h
theorem ET{it:Expr}(h:A6 it=true)(env:Env):∀x,BF it env x=pure x:=by
 intro x;cases it<;>first|rfl|cases h
theorem Cok.comp{X:Cx}{G:GI}{Φ:List (Str×SpM)}(c:Cok X G Φ){scope:Scope}{own:List Str}{fr:List Nat}{C:Addr}{fp:List Addr}{s₃:X1}{H₃:Hp}(hk:scope.kind=.function)(nd:(nC own fr X.N).Nodup):Cok (cxC X scope own fr C fp s₃ H₃) G Φ:=
 ⟨c.room,c.calm,rfl,(by show(if scope.kind.isAnnotationScope then HU else scope.kind)=.function;rw[hk];rfl),nd,c.bls,c.gls,c.fnn,c.mon,c.fns,c.mts,c.mks,c.cls⟩
def ttOf(K:X5)(Φ:List (Str×SpM)):IO->TT
 |.none=>tAll
 |.some e=>liT K (wE Φ e)
theorem Kb{X:Cx}{Φ:List (Str×SpM)}(hΦ:∀(j:Nat) f sp,Φ[j]?=some (f,sp)->MonW sp) {own:List Str} {fr:List Nat} {src:ISr} {tg:ITg} {test:IO} {elt:IE} {sc:Scope} {N:List Str} {t:Expr}
  (h5:Zj sc N own.length false tg t=true) {σ:St} {H:Hp} {Q:VK} (hw:liE X.K (wE Φ (.comp own fr src tg test elt)) σ H Q):EL own fr (liSr X (wSr Φ src)) (gOf X.K tg) (ttOf X.K Φ test) (liE X.K (wE Φ elt)) σ H (λv H'=>∃H2,Thw X H' H2/\Q v H2):=by
 obtain⟨σm,M,rs,rh,hw⟩:=hw;refine⟨σm,M,rs,rh,mon_sr hΦ src (λS M1 ⟨hz,q⟩=>?_) hw⟩;intro J H1 k1 rh1 sit D hD;obtain⟨Jm,j0,j1,j2,j3⟩:=q D (rh1.free hD);refine⟨λi m ys H2=>m=S.len - i/\i≤S.len/\Kp H1 H2/\∃mys M2,RH X.K M2 H2/\Jm i mys M2,⟨S.len,rfl,YO _,Kp.new hD _,[],_,rh1.put (Kp.new hD (.lst [])) (o:=.lst []) RMs.nil,j0⟩,?_⟩;rintro i m ys H2 ⟨rfl,hi,k2,mys,M2,rh2,hj⟩;obtain⟨d1,d2,d3⟩:=j1 i mys M2 hj;obtain⟨goes,stops⟩:=Ka sit k2 rh2 d3;by_cases hlt:i<S.len
 ·obtain⟨go,yld⟩:=goes i hlt;refine .inr ⟨go,λys' H'=>Kp H1 H'/\∃mys M',RH X.K M' H'/\Jm (i+1) mys M',λys' H' ⟨a,mys',M',b,c⟩=>⟨S.len - (i+1),by lia,rfl,hlt,a,mys',M',b,c⟩,λx H3 y=>?_⟩
  obtain⟨e3,m,hm,rm⟩:=yld x H3 y;subst e3;have ht:=j2 i m mys M2 hm hj;refine CS (Ψ:=Keep (sC own fr σ)) (lim:=own.length) (λσ' i v hi k=>ZkL hi k) tg h5 rm (Zqz (rs.mono (k1.trans k2))) ⟨rfl,λ_ _ h=>h⟩ ht λσm' σ' hP rs' keep=>⟨keep,?_⟩;have eltp:∀{M4:MH} {H5:Hp},Kp H3 H5->RH X.K M4 H5->(wE Φ elt σm' M4 λy M5=>M5 D=some (.lst mys)/\Jm (i+1) (mys++[y]) (updM M5 D (.lst (mys++[y]))))->
    liE X.K (wE Φ elt) σ' H5 λy H6=>∃zs,H6 D=some (.lst zs)/\zs.length<sizeLine/\Kp H1 (upd H6 D (.lst (zs++[y])))/\∃mys M',RH X.K M' (upd H6 D (.lst (zs++[y])))/\Jm (i+1) mys M':=fun{M4 H5} k5 rh5 q=>by
   refine⟨σm',M4,rs'.mono k5,rh5,X7 hΦ elt (λy M5 ⟨hd,hj'⟩=>?_) q⟩;intro v H6 k6 r6 rh6;obtain⟨zs,e,rz⟩:=rh6.lst hd;have ku:=Kp.upd e rfl (.lst (zs++[v]));exact⟨zs,e,by rw[<- rz.length];lia,k2.trans (k5.trans (k6.trans ku)),_,_,rh6.put ku (o:=.lst (mys++[y])) ((rz.append (.cons r6 .nil)).mono ku),hj'⟩
  cases test with
  |none=>
   rw[wI]at hP;rw[if_pos rfl]at hP;rw[ttOf];refine Zqf ?_;dsimp only;rw[if_pos rfl];exact eltp (Kp.refl _) rh2 hP
  |some e=>
   refine⟨σm',M2,rs',rh2,X7 hΦ e (λv M4 ⟨b,eb,q⟩=>⟨b,eb,λH5 k5 rh5=>YS (λq=>eltp k5 rh5 q) (λq=>⟨k2.trans k5,_,_,rh5,q⟩) q⟩) hP⟩
 ·refine .inl ⟨stops i (by lia),?_⟩
  have e:i=S.len:=by lia
  subst e;obtain⟨H',th,k3,rh3⟩:=CQ sit rh2 (K8 d3);exact⟨H',th,j3 mys M2 hj _ _ (k1.trans (k2.trans k3)) (.ref D) rh3⟩
theorem Kc{K:X5}{Φ:List (Str×SpM)}(hΦ:∀(j:Nat) f sp,Φ[j]?=some (f,sp)->MonW sp) {op op':CmpOp} {a b d:IE} {σ:St} {H:Hp} {Q:VK} (hw:liE K (wE Φ (.chn op op' a b d)) σ H Q):
  Ei (li2 K (wCmp op)) (li2 K (wCmp op')) (liE K (wE Φ a)) (liE K (wE Φ b)) (liE K (wE Φ d)) σ H Q:=by
 obtain⟨σm,M,rs,rh,hw⟩:=hw;rw[JW]at hw;refine⟨σm,M,rs,rh,X7 hΦ a (λx M1 q1=>?_) hw⟩;intro v H1 k1 r1 rh1;refine⟨σm,M1,rs.mono k1,rh1,X7 hΦ b (λy M2 q2=>?_) q1⟩;intro u H2 k2 r2 rh2;refine⟨x,y,M2,r1.mono k2,r2,rh2,Wc op (λz M3 ⟨k,e,q3⟩=>?_) q2⟩;subst e;intro z H3 k3 r3 rh3;cases r3;refine⟨k,rfl,YS (λq=>?_) (λq=>?_) q3⟩
 ·refine⟨σm,M3,rs.mono (k1.trans (k2.trans k3)),rh3,X7 hΦ d (λw M4 q4=>?_) q⟩;intro w' H4 k4 r4 rh4;exact⟨y,w,M4,r2.mono (k3.trans k4),r4,rh4,Wc op' (λm M' hq=>hq.on (k1.trans (k2.trans (k3.trans k4)))) q4⟩
 ·exact q _ _ (k1.trans (k2.trans k3)) (.bl _) rh3
theorem Kd{o:Expr}{m:Str}{apos pos:Pos}{args:List Expr}{env:Env}(hb:Ux o m env (eval o env)=eval o env)(hf:methodCallForm (args.length+([]:List Za).length) (Y4 pos (XB args env)) (Ue pos (Uf [] env))=true)(hl:(apos.endLine==pos.line)=true):
  eval (.Call (.Attribute o m apos) args [] pos) env=(do
   let ov<- eval o env
   standAt apos.atName
   let(f,first)<- Z9 [ov] (getMethod ov m (do return(<- importBound o env).getD true))
   callWith pos f first (Y4 pos (XB args env)) (Ue pos (Uf [] env))):=by
 rw[arm_eval_Call,hb];unfold methodCall calleeOf methodCallPos;rw[hf,hl];simp only[if_true,VO,DZ,pure_bind]
def trOf(K:X5)(Φ:List (Str×SpM)):IPs->List (TE×TE)
 |.nil=>[]
 |.cons k v r=>(liE K (wE Φ k),liE K (wE Φ v))::trOf K Φ r
def aob:IE->Bool
 |.and ..=>true
 |.or ..=>true
 |_=>false
structure Snd (X:Cx) (Φ:List (Str×SpM)) (ie:IE) (e:Expr):Prop where
 pe:PE X e (liE X.K (wE Φ ie))
 pt:tok ie=true->PT X e (liT X.K (wE Φ ie))
 pw:tok ie=true->aob ie=true->PW X e (liT X.K (wE Φ ie))
theorem Snd.plain{X:Cx}{G:GI}{Φ:List (Str×SpM)}{ie:IE}{e:Expr}(c:Cok X G Φ)(pe:PE X e (liE X.K (wE Φ ie)))(he:∀whole,isTrue e X.env whole=(do let v<- whole;standAt e.pos;Z9 [v] (truthy v)))(na:aob ie=false):Snd X Φ ie e:=
 ⟨pe,λ_=>(S5 pe he).weak λσ H Q h=>ER (t:=wE Φ ie) (X7 c.mon ie) h,λ_ h=>by rw[na]at h;cases h⟩
mutual
theorem sE{G:GI}{Φ:List (Str×SpM)}:∀(ie:IE) {X:Cx} {e:Expr},Cok X G Φ->chkE G ie X.env.scope X.N e=true->Snd X Φ ie e
 |.var i,X,e,c,h=>by
  obtain⟨x,p,rfl,h1,h2,h3,h4⟩:=Znp h;refine .plain c ?_ (λ_=>rfl) rfl;refine(Ia h1 (Zon h2) h3 h4).weak λσ H Q hw=>?_;obtain⟨σm,M,rs,rh,hw⟩:=hw;rw[JV]at hw;obtain⟨v,e,q⟩:=hw;obtain⟨u,hu,r⟩:=rs.2 i v e;exact⟨u,hu,q _ _ (Kp.refl _) r rh⟩
 |.int i,X,e,c,h=>by
  obtain⟨k,p,rfl⟩:=Znx h;refine .plain c ?_ (λ_=>rfl) rfl;refine pe_int.weak λσ H Q hw=>?_;obtain⟨σm,M,rs,rh,hw⟩:=hw;exact hw _ _ (Kp.refl _) (.int i) rh
 |.str i,X,e,c,h=>by
  obtain⟨k,p,rfl⟩:=Znr h;refine .plain c ?_ (λ_=>rfl) rfl;refine pe_str.weak λσ H Q hw=>?_;obtain⟨σm,M,rs,rh,hw⟩:=hw;exact hw _ _ (Kp.refl _) (.str i) rh
 |.bl i,X,e,c,h=>by
  obtain⟨k,p,rfl⟩:=ZpY h;refine .plain c ?_ (λ_=>rfl) rfl;refine pe_bl.weak λσ H Q hw=>?_;obtain⟨σm,M,rs,rh,hw⟩:=hw;exact hw _ _ (Kp.refl _) (.bl i) rh
 |.non,X,e,c,h=>by
  obtain⟨k,p,rfl⟩:=Znu h;refine .plain c ?_ (λ_=>rfl) rfl;refine pe_non.weak λσ H Q hw=>?_;obtain⟨σm,M,rs,rh,hw⟩:=hw;exact hw _ _ (Kp.refl _) .non rh
 |.glb x i,X,e,c,h=>by
  obtain⟨p,rfl,h1,h2⟩:=Znz h;obtain⟨g1,g2,g3⟩:=U6 h2;obtain⟨tk,hm⟩:=c.gls x i h1;refine .plain c ?_ (λ_=>rfl) rfl;refine(S3 (v:=.int i) g1 hm ⟨tk,rfl⟩ g2).weak λσ H Q hw=>?_;obtain⟨σm,M,rs,rh,hw⟩:=hw;exact hw _ _ (Kp.refl _) (.int i) rh
 |.ty t,X,e,c,h=>by
  obtain⟨p,rfl,h0,h1,h2⟩:=ZpT h;obtain⟨g1,g2,g3⟩:=U6 h2;refine .plain c ?_ (λ_=>rfl) rfl;refine(S4 (v:=.ty t.name) g1 (c.bls _ h1) (Zo0 h0) rfl g3 g2).weak λσ H Q hw=>?_;obtain⟨σm,M,rs,rh,hw⟩:=hw;exact hw _ _ (Kp.refl _) (.ty t) rh
 |.bin op a b,X,e,c,h=>by
  obtain⟨l,r,p,rfl,h1,h2⟩:=ZnD h;refine .plain c ?_ (λ_=>rfl) rfl;refine(SE (Zpt op) (sE a c h1).pe (sE b c h2).pe).weak λσ H Q hw=>?_;have:wE Φ (.bin op a b)=λσ M Q=>wE Φ a σ M λx M1=>wE Φ b σ M1 λy M2=>wBin op x y M2 Q:=rfl;rw[this]at hw;exact Ey (ta:=wE Φ a) (tb:=wE Φ b) (w:=wBin op) (X7 c.mon a) (X7 c.mon b) (Jv op) hw
 |.neg a,X,e,c,h=>by
  obtain⟨l,p,rfl,h1⟩:=Znv h;refine .plain c ?_ (λ_=>rfl) rfl;refine(SF SO (sE a c h1).pe).weak λσ H Q hw=>?_;obtain⟨σm,M,rs,rh,hw⟩:=hw;refine⟨σm,M,rs,rh,X7 c.mon a (λx M1 ⟨i,e,q⟩=>?_) hw⟩;subst e;intro v H1 k1 r1 rh1;cases r1;exact⟨i,rfl,q _ _ k1 (.int _) rh1⟩
 |.not a,X,e,c,h=>by
  obtain⟨l,p,rfl,h1⟩:=Znt h;have ih:=sE a c h1;refine⟨(Sb ih.pe).weak λσ H Q hw=>?_,λht=>(S6 (ih.pt ht)).weak λσ H Q hw=>?_,λ_ z=>by cases z⟩
  ·obtain⟨σm,M,rs,rh,hw⟩:=hw;rw[EE]at hw;refine⟨σm,M,rs,rh,X7 c.mon a (λx M1 ⟨i,e,q⟩=>?_) hw⟩;subst e;intro v H1 k1 r1 rh1;cases r1;exact⟨i,rfl,q _ _ k1 (.bl _) rh1⟩
  ·obtain⟨σm,M,rs,rh,hw⟩:=hw;rw[EE]at hw;refine⟨σm,M,rs,rh,X7 c.mon a (λx M1 ⟨i,e,b,e2,q⟩=>⟨i,e,λH' k rh'=>?_⟩) hw⟩;cases e2;exact q H' k rh'
 |.cmp op a b,X,e,c,h=>by
  obtain⟨l,r,p,rfl,h1,h2,h3⟩:=ZnB h;have rd:∀σ H Q,liE X.K (wE Φ (.cmp op a b)) σ H Q->tOp (li2 X.K (wCmp op)) (liE X.K (wE Φ a)) (liE X.K (wE Φ b)) σ H Q:=λσ H Q hw=>by
   have:wE Φ (.cmp op a b)=λσ M Q=>wE Φ a σ M λx M1=>wE Φ b σ M1 λy M2=>wCmp op x y M2 Q:=rfl;rw[this]at hw;exact Ey (ta:=wE Φ a) (tb:=wE Φ b) (w:=wCmp op) (X7 c.mon a) (X7 c.mon b) (Wc op) hw
  refine⟨(SY (Wd c.room op) (sE a c h1).pe (sE b c h2).pe h3).weak rd,λ_=>(SZ (Wd c.room op) (sE a c h1).pe (sE b c h2).pe h3).weak λσ H Q hw=>?_,λ_ z=>by cases z⟩
  exact rd σ H _ (ER (t:=wE Φ (.cmp op a b)) (X7 c.mon _) hw)
 |.chn op op' a b d,X,e,c,h=>by
  obtain⟨l,m,r,p,rfl,h1,h2,h3,h4⟩:=ZnC h;refine⟨(T0 (Wd c.room op) (Wd c.room op') (sE a c h1).pe (sE b c h2).pe (sE d c h3).pe h4).weak λσ H Q hw=>Kc c.mon hw,
   λ_=>(T1 (Wd c.room op) (Wd c.room op') (sE a c h1).pe (sE b c h2).pe (sE d c h3).pe h4).weak λσ H Q hw=>?_,λ_ z=>by cases z⟩
  exact Kc c.mon (ER (t:=wE Φ (.chn op op' a b d)) (X7 c.mon _) hw)
 |.and a b,X,e,c,h=>by
  obtain⟨l,r,rest,p,rfl,h1,h2⟩:=ZnE h;have ih:=sE a c h1;have hb:PE X (.BoolOp .And (r::rest) p) (liE X.K (wE Φ b)):=by
   rcases h2 with⟨rfl,h2⟩|h2
   ·exact Ib (sE b c h2).pe
   ·exact(sE b c h2).pe
  have hw':tok (.and a b)=true->PW X (.BoolOp .And (l::r::rest) p) (liT X.K (wE Φ (.and a b))):=λht=>by
   have ht:(tok a&&tok b)=true:=ht;rw[Y2]at ht;have hb2:PW X (.BoolOp .And (r::rest) p) (liT X.K (wE Φ b)):=by
    rcases h2 with⟨rfl,h2⟩|h2
    ·exact pw_and1 ((sE b c h2).pt ht.2)
    ·refine(sE b c h2).pw ht.2 ?_;cases b<;>first|rfl|exact absurd h2 XC
   refine(pw_and (ih.pt ht.1) hb2).weak λσ H Q hw=>?_;obtain⟨σm,M,rs,rh,hw⟩:=hw;rw[EF]at hw;refine⟨σm,M,rs,rh,X7 c.mon a (λx M1 ⟨k,e,q⟩=>⟨k,e,λH1 k1 rh1=>?_⟩) hw⟩;refine YS (λq=>⟨σm,M1,rs.mono k1,rh1,K7 (t:=wE Φ b) (X7 c.mon b) k1 q⟩) (λq=>let⟨b,e,q⟩:=q;MV.noConfusion e λeb=>eb▸q H1 k1 rh1) q
  refine⟨(S9 ih.pe hb).weak λσ H Q hw=>?_,λht=>(hw' ht).pt,λht _=>hw' ht⟩;obtain⟨σm,M,rs,rh,hw⟩:=hw;rw[EF]at hw;refine⟨σm,M,rs,rh,X7 c.mon a (λx M1 ⟨k,e,q⟩=>?_) hw⟩;subst e;intro v H1 k1 r1 rh1;cases r1;refine⟨k,rfl,YS (λq=>⟨σm,M1,rs.mono k1,rh1,X7 c.mon b (λm M' hq=>hq.on k1) q⟩) (λq=>q _ _ k1 (.bl _) rh1) q⟩
 |.or a b,X,e,c,h=>by
  obtain⟨l,r,rest,p,rfl,h1,h2⟩:=ZpV h;have ih:=sE a c h1;have hb:PE X (.BoolOp .Or (r::rest) p) (liE X.K (wE Φ b)):=by
   rcases h2 with⟨rfl,h2⟩|h2
   ·exact Ib (sE b c h2).pe
   ·exact(sE b c h2).pe
  have hw':tok (.or a b)=true->PW X (.BoolOp .Or (l::r::rest) p) (liT X.K (wE Φ (.or a b))):=λht=>by
   have ht:(tok a&&tok b)=true:=ht;rw[Y2]at ht;have hb2:PW X (.BoolOp .Or (r::rest) p) (liT X.K (wE Φ b)):=by
    rcases h2 with⟨rfl,h2⟩|h2
    ·exact pw_or1 ((sE b c h2).pt ht.2)
    ·refine(sE b c h2).pw ht.2 ?_;cases b<;>first|rfl|exact absurd h2 XC
   refine(pw_or (ih.pt ht.1) hb2).weak λσ H Q hw=>?_;obtain⟨σm,M,rs,rh,hw⟩:=hw;rw[x_or]at hw;refine⟨σm,M,rs,rh,X7 c.mon a (λx M1 ⟨k,e,q⟩=>⟨k,e,λH1 k1 rh1=>?_⟩) hw⟩;refine YS (λq=>let⟨b,e,q⟩:=q;MV.noConfusion e λeb=>eb▸q H1 k1 rh1) (λq=>⟨σm,M1,rs.mono k1,rh1,K7 (t:=wE Φ b) (X7 c.mon b) k1 q⟩) q
  refine⟨(Sa ih.pe hb).weak λσ H Q hw=>?_,λht=>(hw' ht).pt,λht _=>hw' ht⟩;obtain⟨σm,M,rs,rh,hw⟩:=hw;rw[x_or]at hw;refine⟨σm,M,rs,rh,X7 c.mon a (λx M1 ⟨k,e,q⟩=>?_) hw⟩;subst e;intro v H1 k1 r1 rh1;cases r1;refine⟨k,rfl,YS (λq=>q _ _ k1 (.bl _) rh1) (λq=>⟨σm,M1,rs.mono k1,rh1,X7 c.mon b (λm M' hq=>hq.on k1) q⟩) q⟩
 |.ife d a b,X,e,c,h=>by
  obtain⟨t,x,y,p,rfl,h0,h1,h2,h3⟩:=Zny h;refine⟨(Sc ((sE d c h1).pt h0) (sE a c h2).pe (sE b c h3).pe).weak λσ H Q hw=>?_,λz=>(by cases z),λz _=>(by cases z)⟩
  obtain⟨σm,M,rs,rh,hw⟩:=hw;rw[JX]at hw;refine⟨σm,M,rs,rh,X7 c.mon d (λx M1 ⟨k,e,q⟩=>⟨k,e,λH1 k1 rh1=>?_⟩) hw⟩;exact YS (λq=>⟨σm,M1,rs.mono k1,rh1,X7 c.mon a (λm M' hq=>hq.on k1) q⟩) (λq=>⟨σm,M1,rs.mono k1,rh1,X7 c.mon b (λm M' hq=>hq.on k1) q⟩) q
 |.tup es,X,e,c,h=>by
  obtain⟨xs,k,p,rfl,h1⟩:=Znq h;refine .plain c ?_ (λ_=>rfl) rfl;refine(Tk (sA es c h1)).weak λσ H Q hw=>?_;obtain⟨σm,M,rs,rh,hw⟩:=hw;refine⟨σm,M,rs,rh,mon_es c.mon es (λms M1 ⟨hz,q⟩=>?_) hw⟩;intro vs H1 k1 r1 rh1;refine⟨by rw[<- r1.length];exact hz,λp hp=>?_⟩
  have k2:=Kp.new hp (.tup vs);exact q _ _ (k1.trans k2) (.tup Zh (r1.mono k2)) (rh1.kept hp _)
 |.lst es,X,e,c,h=>by
  obtain⟨xs,p,rfl,h1⟩:=Znw h;refine .plain c ?_ (λ_=>rfl) rfl;refine(Tl (sA es c h1)).weak λσ H Q hw=>?_;obtain⟨σm,M,rs,rh,hw⟩:=hw;refine⟨σm,M,rs,rh,mon_es c.mon es (λms M1 ⟨hz,q⟩=>?_) hw⟩;intro vs H1 k1 r1 rh1;refine⟨by rw[<- r1.length];exact hz,λp hp=>?_⟩
  have k2:=Kp.new hp (.lst vs);exact q p (rh1.free hp) _ _ (k1.trans k2) (.ref p) (rh1.put k2 (r1.mono k2))
 |.dic,X,e,c,h=>absurd h XC
 |.ix a b,X,e,c,h=>by
  obtain⟨l,r,p,rfl,h1,h2,h3⟩:=ZpX h;refine .plain c ?_ (λ_=>rfl) rfl;refine(TQ (ZpR (by have:=c.room;lia)) (sE a c h1).pe (sE b c h2).pe (Zkm h3)).weak λσ H Q hw=>?_
  have:wE Φ (.ix a b)=λσ M Q=>wE Φ a σ M λx M1=>wE Φ b σ M1 λy M2=>wIx x y M2 Q:=rfl;rw[this]at hw;exact Ey (ta:=wE Φ a) (tb:=wE Φ b) (w:=wIx) (X7 c.mon a) (X7 c.mon b) JJ hw
 |.sl a lo hi,X,e,c,h=>by
  obtain⟨x,l,u,p,p2,rfl,h1,h2,h3⟩:=ZpU h;refine .plain c ?_ (λ_=>rfl) rfl;refine(TK Zow (sE a c h1).pe (sO lo c h2) (sO hi c h3)).weak λσ H Q hw=>?_;obtain⟨σm,M,rs,rh,hw⟩:=hw;refine⟨σm,M,rs,rh,X7 c.mon a (λx M1 q1=>?_) hw⟩;intro v H1 k1 r1 rh1;refine⟨σm,M1,rs.mono k1,rh1,mon_o c.mon lo (λl M2 q2=>?_) q1⟩;intro H2 k2 rh2;refine⟨σm,M2,rs.mono (k1.trans k2),rh2,mon_o c.mon hi (λu M3 q3=>?_) q2⟩;intro H3 k3 rh3;exact⟨x,M3,r1.mono (k2.trans k3),rh3,JL (λm M' hq=>hq.on (k1.trans (k2.trans k3))) q3⟩
 |.call j a es,X,e,c,h=>by
  obtain⟨f,p,x,xs,p2,rfl,h1,h2,h3,h4⟩:=ZkQ h;obtain⟨g1,g2,g3⟩:=U6 h2;obtain⟨sp,hj⟩:=c.fnn j f h1;obtain⟨k,fa,fd,ps,hr,F,hm,hk,hb⟩:=c.fns j f sp h1 hj;have ha:PA X (x::xs) (W7 (liE X.K (wE Φ a)) (liA X.K (wEs Φ es))):=U0 (sE a c h3).pe (sA es c h4) (XZ h3);refine .plain c ?_ (λ_=>rfl) rfl;refine(Tp (E:=E0) F hr g1 hm hk hb .nil CC ha g2 (XZ h3) (UL (Ut (pos:=p2) h4)).2).weak λσ H Q hw=>?_;obtain⟨σm,M,rs,rh,hw⟩:=hw;rw[JY]at hw;refine⟨σm,M,rs,rh,X7 c.mon a (λv M1 q1=>?_) hw⟩;intro u H1 k1 r1 rh1;refine⟨σm,M1,rs.mono k1,rh1,mon_es c.mon es (λvs M2 ⟨f',sp',e,q2⟩=>?_) q1⟩;rw[hj]at e;cases e;intro us H2 k2 r2 rh2;refine⟨v::vs,M2,?_,rh2,c.mon j f sp hj (λm M' hq=>hq.on (k1.trans k2)) q2⟩;rw[WD];exact .cons (r1.mono k2) r2
 |.bi f a es,X,e,c,h=>by
  obtain⟨p,x,xs,p2,rfl,h1,h2,h3,h4⟩:=ZpZ h;obtain⟨g1,g2,g3⟩:=U6 h2;have ha:PA X (x::xs) (W7 (liE X.K (wE Φ a)) (liA X.K (wEs Φ es))):=U0 (sE a c h3).pe (sA es c h4) (XZ h3);have hv:=Zo1 f;have hcall:=ZnY (X:=X) c.calm f;have hp:PE X (.Call (.Name (f.name:Str) p) (x::xs) [] p2) (tCB (liW X.K (wBi f)) (W7 (liE X.K (wE Φ a)) (liA X.K (wEs Φ es)))):=by
   cases hf:f.val<;>rw[hf]at hv hcall<;>first
    |exact Tw hcall g1 (c.bls _ h1) hv ha g3 g2 (XZ h3) (UL (Ut (pos:=p2) h4)).2
    |exact Tx hcall g1 (c.bls _ h1) hv ha g3 g2 (XZ h3) (UL (Ut (pos:=p2) h4)).2
    |(cases f<;>cases hf)
  refine .plain c ?_ (λ_=>rfl) rfl;refine hp.weak λσ H Q hw=>?_;obtain⟨σm,M,rs,rh,hw⟩:=hw;refine⟨σm,M,rs,rh,X7 c.mon a (λv M1 q1=>?_) hw⟩;intro u H1 k1 r1 rh1;refine⟨σm,M1,rs.mono k1,rh1,mon_es c.mon es (λvs M2 q2=>?_) q1⟩;intro us H2 k2 r2 rh2;exact⟨v::vs,M2,.cons (r1.mono k2) r2,rh2,JN f (λm M' hq=>hq.on (k1.trans k2)) q2⟩
 |.b2 f a,X,e,c,h=>by
  obtain⟨p,p',x,p2,p2',rfl,h1,h2,h3,h4,h5⟩:=Zq0 h;obtain⟨g1,g2,g3⟩:=U6 h3;obtain⟨k1,k2,k3⟩:=U6 h4;have hv:YE (f.out:Str)=some f.outV:=by cases f<;>decide+kernel
  have hv':YE (f.inn:Str)=some (.type f.inn):=by cases f<;>decide+kernel
  have hp:PE X (.Call (.Name (f.out:Str) p) [.Call (.Name (f.inn:Str) p') [x] [] p2'] [] p2) (λσ H Q=>liE X.K (wE Φ a) σ H λv H1=>li1 X.K (wB2 f) v H1 Q):=by
   have hc:=ZnZ (X:=X) c.calm f;cases f with
   |lrng=>exact Zis (p:=p) (p':=p') (pos:=p2) (pos':=p2') hc g1 (c.bls _ h1) hv k1 (c.bls _ h2) hv' (sE a c h5).pe g3 g2 k3 k2 (XZ h5)
   |ssrt=>exact Ew (p:=p) (p':=p') (pos:=p2) (pos':=p2') hc g1 (c.bls _ h1) hv k1 (c.bls _ h2) hv' (sE a c h5).pe g3 g2 k3 k2 (XZ h5)
   |lset=>exact Ew (p:=p) (p':=p') (pos:=p2) (pos':=p2') hc g1 (c.bls _ h1) hv k1 (c.bls _ h2) hv' (sE a c h5).pe g3 g2 k3 k2 (XZ h5)
   |tset=>exact Ew (p:=p) (p':=p') (pos:=p2) (pos':=p2') hc g1 (c.bls _ h1) hv k1 (c.bls _ h2) hv' (sE a c h5).pe g3 g2 k3 k2 (XZ h5)
  refine .plain c ?_ (λ_=>rfl) rfl;refine hp.weak λσ H Q hw=>?_;obtain⟨σm,M,rs,rh,hw⟩:=hw;refine⟨σm,M,rs,rh,X7 c.mon a (λv M1 q1=>?_) hw⟩;intro u H1 k1 r1 rh1;exact⟨v,M1,r1,rh1,JP f (λm M' hq=>hq.on k1) q1⟩
 |.st3 a,X,e,c,h=>absurd h XC
 |.mxd a,X,e,c,h=>absurd h XC
 |.mt m o es,X,e,c,h=>by
  obtain⟨ob,ap,args,cp,rfl,h1,h2,h3,h4⟩:=ZpW h;have slot:PySem.Slot m.ty (m.name:Str) m.id/\typeOf (.builtin m.id)=pure (.type "method_descriptor"):=by
   cases m
   ·exact⟨PySem.F.slot_list_append,PySem.F.type_list_append⟩
   ·exact⟨PySem.F.slot_list_extend,PySem.F.type_list_extend⟩
   ·exact⟨PySem.F.slot_list_reverse,PySem.F.type_list_reverse⟩
   ·exact⟨PySem.F.slot_list_clear,PySem.F.type_list_clear⟩
   ·exact⟨HE,HF⟩
   ·exact⟨HE,HF⟩
   ·exact⟨PySem.F.slot_dict_clear,PySem.F.type_dict_clear⟩
   ·exact⟨HG,HH⟩
   ·exact⟨HG,HH⟩
   ·exact⟨PySem.F.slot_str_join,PySem.F.type_str_join⟩
   ·exact⟨PySem.F.slot_list_remove,PySem.F.type_list_remove⟩
  have plain:PlainAttrs m.ty:=by
   cases m<;>first|exact PySem.F.plainAttrs_list|exact PySem.F.plainAttrs_dict|exact PySem.F.plainAttrs_str
  have hu1:X.A.units+1<cLine:=by have:=c.room;lia
  have tyL:∀{H1:Hp} {M1:MH} {mx:MV} {v:V},RH X.K M1 H1->RM X.K H1 mx v->mtOk m mx M1->tyV X.K m.ty v H1:=by
   intro H1 M1 mx v rh r hm;cases m
   case join=>
    obtain⟨z,rfl⟩:=hm;cases r;exact rfl
   case dclear|dget|dgetD=>
    obtain⟨a,kvs,rfl,hm⟩:=hm;cases r;obtain⟨vs,e,_⟩:=rh.dic hm;exact .inr (.inr (.inl ⟨rfl,.inl ⟨vs,e⟩⟩))
   all_goals
    obtain⟨a,xs,rfl,hm⟩:=hm;cases r;obtain⟨vs,e,_⟩:=rh.lst hm;exact .inl ⟨rfl,vs,SqL.of e⟩
  refine .plain c ?_ (λ_=>rfl) rfl;cases args with
  |nil=>
   refine(Zpj plain slot.1 slot.2 (JS hu1 m) (sE o c h2).pe (Aa h2) h1).weak λσ H Q hw=>?_;obtain⟨σm,M,rs,rh,hw⟩:=hw;refine⟨σm,M,rs,rh,X7 c.mon o (λv M1 ⟨q0,q1⟩=>?_) hw⟩;intro u H1 k1 r1 rh1;cases es with
   |cons _ _=>exact absurd h3 XC
   |nil=>
    exact⟨tyL rh1 r1 q0,v,[],M1,r1,.nil,rh1,ED (λm M' hq=>hq.on k1) q1⟩
  |cons x xs=>
   cases es with
   |nil=>cases EM h3
   |cons a es=>
    have h3':=h3;obtain⟨x',xs',e',h3⟩:=EN h3;cases e';have ha:=sA (.cons a es) c h3';have hall:=UL (pos:=cp) (Ut (env:=X.env) (pos:=cp) h3');refine(Zrq plain slot.1 slot.2 (JS hu1 m) (sE o c h2).pe ha (Aa h2) ?_ h1 (XZ h3.1) (UL (Ut (pos:=cp) h3.2)).2).weak λσ H Q hw=>?_
    ·rw[hall.1];simp only[C4,Y2,decide_eq_true_eq];refine⟨rfl,?_⟩;simp at h4 ⊢;lia
    obtain⟨σm,M,rs,rh,hw⟩:=hw;refine⟨σm,M,rs,rh,X7 c.mon o (λv M1 ⟨q0,q1⟩=>?_) hw⟩;intro u H1 k1 r1 rh1;refine⟨tyL rh1 r1 q0,σm,M1,rs.mono k1,rh1,mon_es c.mon (.cons a es) (λvs M2 q2=>?_) q1⟩;intro us H2 k2 r2 rh2;exact⟨v,vs,M2,r1.mono k2,r2,rh2,ED (λm M' hq=>hq.on (k1.trans k2)) q2⟩
 |.comp own fr src tg test elt,X,e,c,h=>by
  obtain⟨x,t,it,ifs,scope,p,rfl,h1,h2,h3,h4,h5,h6,h7⟩:=K5 h;refine .plain c ?_ (λ_=>rfl) rfl;refine(Zkt own fr (g:=gOf X.K tg) (te:=liE X.K (wE Φ elt)) (λe s h=>by rw[c.nox]at h;exact h) c.calm h1 (sSr src (tg:=t) c h4) (λC fp s₃ H₃=>sTg (X:=cxC X scope own fr C fp s₃ H₃) (lim:=own.length) (all:=false) c.calm h3 (λz=>by cases z) tg h5) (tt:=ttOf X.K Φ test) (λC fp s₃ H₃=>sI (X:=cxC X scope own fr C fp s₃ H₃) test (c.comp (W9 h1).kind h3) h6)
   (λC fp s₃ H₃=>(sE (X:=cxC X scope own fr C fp s₃ H₃) elt (c.comp (W9 h1).kind h3) h7).pe) (ET h2 _)).thaw.weak λσ H Q hw=>?_
  exact Kb c.mon h5 hw
 |.fld cn o f,X,e,c,h=>by
  obtain⟨ob,p,rfl,h1,h2⟩:=ZnA h;obtain⟨C,hC,cl,na⟩:=c.cls cn f h1;refine .plain c ?_ (λ_=>rfl) rfl;refine(Tf (sE o c h2).pe (Aa h2)).weak λσ H Q hw=>?_;obtain⟨σm,M,rs,rh,hw⟩:=hw;refine⟨σm,M,rs,rh,X7 c.mon o (λv M1 ⟨a,fs,y,e,e2,e3,q⟩=>?_) hw⟩;subst e;intro u H1 k1 r1 rh1;cases r1;obtain⟨C',dx,vs,g1,g2,g3⟩:=rh1.ins e2;rw[hC]at g2;cases g2;rcases CJ (f:=f) g3 with⟨z1,z2⟩|⟨x',u',z1,z2,r'⟩
  ·rw[e3]at z1;cases z1
  ·rw[e3]at z1;cases z1;exact⟨a,C,dx,vs,u',rfl,g1,cl,na,z2,q _ _ k1 r' rh1⟩
 |.mcall j cn m o es,X,e,c,h=>by
  obtain⟨ob,ap,args,cp,rfl,h1,h2,h3,h8,h9⟩:=ZiW h;have hform:methodCallForm (args.length+([]:List Za).length) (Y4 cp (XB args X.env)) (Ue cp (Uf [] X.env))=true:=by
   unfold methodCallForm;have e0:Ue cp (Uf [] X.env)=[]:=rfl;rw[(UL (Ut (pos:=cp) h3)).1,e0];simp only[C4,Y2,decide_eq_true_eq];refine⟨rfl,?_⟩;simp at h9 ⊢;lia
  obtain⟨fn,sp,hj,k,C,fa,fd,ps,hr,F,hC,cl,hm,hb⟩:=c.mts j cn m h1;refine .plain c ?_ (λ_=>rfl) rfl;cases args with
  |nil=>
   refine(Tr (E:=E0) (sE o c h2).pe cl hm F hr hb .nil CC (Kd (Aa h2) hform h8)).weak λσ H Q hw=>?_;obtain⟨σm,M,rs,rh,hw⟩:=hw;refine⟨σm,M,rs,rh,X7 c.mon o (λv M1 ⟨a,fs,e,e2,e3,q⟩=>?_) hw⟩;subst e;intro u H1 k1 r1 rh1;cases r1;obtain⟨C',dx,vs,g1,g2,g3⟩:=rh1.ins e2;rw[hC]at g2;cases g2;have hn:vs.lookup m=none:=by
    rcases CJ (f:=m) g3 with⟨_,z2⟩|⟨x',u',z1,_⟩
    ·exact z2
    ·rw[e3]at z1;cases z1
   cases es with
   |cons _ _=>exact absurd h3 XC
   |nil=>
    obtain⟨f',sp',e4,q2⟩:=q;rw[hj]at e4;cases e4;exact⟨a,dx,vs,rfl,g1,hn,[.ref a],M1,.cons (.ref a) .nil,rh1,c.mon j fn sp hj (λm M' hq=>hq.on k1) q2⟩
  |cons x xs=>
   cases es with
   |nil=>cases EM h3
   |cons a0 es=>
    have h3':=h3;obtain⟨x',xs',e',h4,h5⟩:=EN h3;cases e';refine(Tq (E:=E0) (sE o c h2).pe cl hm F hr hb .nil CC (sA (.cons a0 es) c h3') (XZ h4) (UL (Ut (pos:=cp) h5)).2 (Kd (Aa h2) hform h8)).weak λσ H Q hw=>?_;obtain⟨σm,M,rs,rh,hw⟩:=hw;refine⟨σm,M,rs,rh,X7 c.mon o (λv M1 ⟨a,fs,e,e2,e3,q⟩=>?_) hw⟩;subst e;intro u H1 k1 r1 rh1;cases r1;obtain⟨C',dx,vs,g1,g2,g3⟩:=rh1.ins e2;rw[hC]at g2;cases g2;have hn:vs.lookup m=none:=by
     rcases CJ (f:=m) g3 with⟨_,z2⟩|⟨x',u',z1,_⟩
     ·exact z2
     ·rw[e3]at z1;cases z1
    refine⟨a,dx,vs,rfl,g1,hn,σm,M1,rs.mono k1,rh1,mon_es c.mon (.cons a0 es) (λws M2 ⟨f',sp',e4,q2⟩=>?_) q⟩;rw[hj]at e4;cases e4;intro us H2 k2 r2 rh2;refine⟨.ref a::ws,M2,?_,rh2,c.mon j fn sp hj (λm M' hq=>hq.on (k1.trans k2)) q2⟩;rw[WD];exact .cons (.ref a) r2
 |.make j cn a es,X,e,c,h=>by
  obtain⟨p,x,xs,p2,rfl,h1,h2,h3,h4⟩:=ZkP h;obtain⟨g1,g2,g3⟩:=U6 h2;obtain⟨fn,sp,hj,k,C,fa,fd,ps,hr,F,hC,hm,mk,hb⟩:=c.mks j cn h1;have ha:PA X (x::xs) (W7 (liE X.K (wE Φ a)) (liA X.K (wEs Φ es))):=U0 (sE a c h3).pe (sA es c h4) (XZ h3);refine .plain c ?_ (λ_=>rfl) rfl;refine(Tt (E:=E0) mk F hr g1 hm hb .nil CC ha g2 (XZ h3) (UL (Ut (pos:=p2) h4)).2).weak λσ H Q hw=>?_;obtain⟨σm,M,rs,rh,hw⟩:=hw;refine⟨σm,M,rs,rh,X7 c.mon a (λv M1 q1=>?_) hw⟩;intro u H1 k1 r1 rh1;refine⟨σm,M1,rs.mono k1,rh1,mon_es c.mon es (λvs M2 ⟨f',sp',e,q2⟩=>?_) q1⟩;rw[hj]at e;cases e;intro us H2 k2 r2 rh2;intro q dx hq hdx ne;have kk:Kp H2 (upd (upd H2 dx (.own q)) q (.ins C dx [])):=(Kp.new hdx _).trans (Kp.new (by rw[XL ne.symm];exact hq) _)
  refine⟨.ref q::v::vs,updM M2 q (.ins cn []),?_,?_,c.mon j fn sp hj (λm M' ⟨z,hq'⟩=>?_) (q2 q (rh2.free hq))⟩
  ·rw[WD];exact .cons (.ref q) (.cons ((r1.mono k2).mono kk) (r2.mono kk))
  ·have k3:=Kp.new (H:=H2) hdx (.own q);have rh3:RH X.K M2 (upd H2 dx (.own q)):=rh2.kept hdx _;exact rh3.put (Kp.new (by rw[XL ne.symm];exact hq) _) (o:=.ins cn []) ⟨hC,.nil⟩
  ·subst z;intro v' H' k' r' rh';cases r';exact⟨rfl,hq' _ _ ((k1.trans k2).trans (kk.trans k')) (.ref q) rh'⟩
 |.disp ps,X,e,c,h=>absurd h XC
theorem sP{G:GI}{Φ:List (Str×SpM)}:∀(ps:IPs) {X:Cx} {pos:Pos} {ks:List (Option Expr)} {vs:List Expr},Cok X G Φ->A9 G ps X.env.scope X.N ks vs=true->PPs X pos ks vs (trOf X.K Φ ps)
 |.nil,X,pos,ks,vs,c,h=>by
  obtain⟨rfl,rfl⟩:=Zhl h;exact ZmH
 |.cons k v r,X,pos,ks,vs,c,h=>by
  obtain⟨x,ks',y,vs',rfl,rfl,h1,h2,h3⟩:=ZfU h;exact Zkl (sE k c h1).pe (sE v c h2).pe (sP r c h3)
theorem sA{G:GI}{Φ:List (Str×SpM)}:∀(ies:IEs) {X:Cx} {es:List Expr},Cok X G Φ->chkEs G ies X.env.scope X.N es=true->PA X es (liA X.K (wEs Φ ies))
 |.nil,X,es,c,h=>by
  cases es with
  |cons _ _=>cases EM h
  |nil=>
   refine pa_nil.weak λσ H Q hw=>?_;obtain⟨σm,M,rs,rh,hw⟩:=hw;exact hw _ _ (Kp.refl _) .nil rh
 |.cons a as,X,es,c,h=>by
  cases es with
  |nil=>cases h
  |cons x xs=>
   obtain⟨x',xs',e',h⟩:=EN h;cases e';refine(U0 (sE a c h.1).pe (sA as c h.2) (XZ h.1)).weak λσ H Q hw=>?_;have:wEs Φ (.cons a as)=λσ M Q=>wE Φ a σ M λv M1=>wEs Φ as σ M1 λvs M2=>Q (v::vs) M2:=rfl;rw[this]at hw;exact Znj (te:=wE Φ a) (t:=wEs Φ as) (X7 c.mon a) (mon_es c.mon as) hw
theorem sO{G:GI}{Φ:List (Str×SpM)}:∀(io:IO) {X:Cx} {e:Option Expr},Cok X G Φ->chkO G io X.env.scope X.N e=true->PO X e (liO X.K (wO Φ io))
 |.none,X,e,c,h=>by
  cases e with
  |some _=>cases Zhn h
  |none=>
   intro pins s σ H Q I hw;refine TH pins s σ H Q I ?_;obtain⟨σm,M,rs,rh,hw⟩:=hw;exact hw _ (Kp.refl _) rh
 |.some a,X,e,c,h=>by
  cases e with
  |none=>exact absurd h XC
  |some x=>
   obtain⟨x',e',h⟩:=Zhm h;cases e';intro pins s σ H Q I hw;refine TJ (sE a c h).pe pins s σ H Q I ?_;obtain⟨σm,M,rs,rh,hw⟩:=hw;refine⟨σm,M,rs,rh,X7 c.mon a (λv M1 ⟨i,e,q⟩=>?_) hw⟩;subst e;intro u H1 k1 r1 rh1;cases r1;exact⟨i,rfl,q H1 k1 rh1⟩
theorem sI{G:GI}{Φ:List (Str×SpM)}:∀(io:IO) {X:Cx} {es:List Expr},Cok X G Φ->chkI G io X.env.scope X.N es=true->PTs X es (ttOf X.K Φ io)
 |.none,X,es,c,h=>by
  cases es with
  |cons _ _=>cases Zhp h
  |nil=>exact .inl ⟨rfl,rfl⟩
 |.some a,X,es,c,h=>by
  obtain⟨x,rfl,h1,h2⟩:=Zho h;exact .inr ⟨x,rfl,(sE a c h2).pt h1⟩
theorem sSr{G:GI}{Φ:List (Str×SpM)}:∀(s:ISr) {X:Cx} {tg e:Expr},Cok X G Φ->chkSr G s X.env.scope X.N e=true->PI X tg e (liSr X (wSr Φ s))
 |.seq a,X,tg,e,c,h=>by
  refine(ZmN (sE a c h).pe).weak λσ H R hw=>?_;obtain⟨σm,M,rs,rh,hw⟩:=hw;refine⟨σm,M,rs,rh,X7 c.mon a (λv M1 q=>?_) hw⟩;intro u H1 k1 r1 rh1;rcases q with⟨xs,e,q⟩|⟨b,xs,e,hb,q⟩|⟨b,kvs,e,hb,q⟩|⟨z,e,q⟩
  ·rcases e with e|e
   ·subst e;cases r1 with
    |tup h1 q1=>exact .inl ⟨_,rfl,.inr (.inl ⟨_,SqT.of h1,q _ _ k1 rh1 (.inl ⟨_,_,h1,q1,rfl⟩)⟩)⟩
   ·subst e;cases r1 with
    |frl h1 q1=>exact .inl ⟨_,rfl,.inl ⟨_,h1.sq,q _ _ k1 rh1 (.inr ⟨_,_,h1,q1,rfl⟩)⟩⟩
  ·subst e;cases r1;obtain⟨vs,e2,_⟩:=rh1.lst hb;exact .inl ⟨_,rfl,.inl ⟨_,SqL.of e2,q _ _ k1 rh1 rfl⟩⟩
  ·subst e;cases r1;obtain⟨vs,e2,r2,nd⟩:=rh1.dic hb;refine .inl ⟨_,rfl,.inr (.inr ⟨vs,e2,λo nf=>?_⟩)⟩;have k:=Kp.upd e2 rfl (.frz o (.dK vs));exact q o _ _ (k1.trans k) (rh1.put k (o:=.fdic o kvs) ⟨rfl,r2.mono k,nd⟩) ⟨rfl,nf⟩
  ·subst e;cases r1;exact .inr ⟨z,rfl,q _ _ k1 rh1 rfl⟩
 |.rng a,X,tg,e,c,h=>by
  obtain⟨p,x,p2,rfl,h2,h3,h4⟩:=Zns h;refine(Sz (U6 h3).1 (c.bls _ h2) (U0 (sE a c h4).pe pa_nil (XZ h4)) (XZ h4)).weak λσ H R hw=>?_;obtain⟨σm,M,rs,rh,hw⟩:=hw;refine⟨σm,M,rs,rh,X7 c.mon a (λv M1 ⟨j,e,q1,q2,q⟩=>?_) hw⟩;subst e;intro u H1 k1 r1 rh1;cases r1;exact⟨j,rfl,q1,q2,q _ _ k1 rh1 rfl⟩
 |.rng2 a b,X,tg,e,c,h=>by
  obtain⟨p,x,y,p2,rfl,h2,h3,h4,h5⟩:=ZkO h;refine(SA (U6 h3).1 (c.bls _ h2) (U0 (sE a c h4).pe (U0 (sE b c h5).pe pa_nil (XZ h5)) (XZ h4)) (by rw[XZ h4,XZ h5];rfl) (XZ h5)).weak λσ H R hw=>?_
  obtain⟨σm,M,rs,rh,hw⟩:=hw;refine⟨σm,M,rs,rh,X7 c.mon a (λv M1 q1=>?_) hw⟩;intro u H1 k1 r1 rh1;refine⟨σm,M1,rs.mono k1,rh1,X7 c.mon b (λw M2 ⟨i,j,e1,e2,hb,q⟩=>?_) q1⟩;subst e1 e2;intro u2 H2 k2 r2 rh2;cases r1;cases r2;exact⟨i,j,rfl,hb,q _ _ (k1.trans k2) rh2 rfl⟩
 |.rng3 a b d,X,tg,e,c,h=>by
  obtain⟨p,x,y,z,p2,rfl,h2,h3,h4,h5,h6⟩:=ZkN h;refine(Zin (U6 h3).1 (c.bls _ h2) (U0 (sE a c h4).pe (U0 (sE b c h5).pe (U0 (sE d c h6).pe pa_nil (XZ h6)) (XZ h5)) (XZ h4)) (by rw[XZ h4,XZ h5,XZ h6];rfl) (by rw[XZ h5,XZ h6];rfl)).weak λσ H R hw=>?_
  obtain⟨σm,M,rs,rh,hw⟩:=hw;refine⟨σm,M,rs,rh,X7 c.mon a (λv M1 q1=>?_) hw⟩;intro u H1 k1 r1 rh1;refine⟨σm,M1,rs.mono k1,rh1,X7 c.mon b (λw M2 q2=>?_) q1⟩;intro u2 H2 k2 r2 rh2;refine⟨σm,M2,rs.mono (k1.trans k2),rh2,X7 c.mon d (λw2 M3 ⟨i,j,e1,e2,e3,hb,q⟩=>?_) q2⟩;subst e1 e2 e3;intro u3 H3 k3 r3 rh3;cases r1;cases r2;cases r3;exact⟨i,j,rfl,hb,q _ _ (k1.trans (k2.trans k3)) rh3 rfl⟩
end
end L2
namespace L2
set_option genInjectivity false
open PySem PySem.Spec PyProof.Rows
mutual
inductive IS where
 |pass|brk|cnt|never
 |ret (e:IE)|retN
 |set (i:Nat) (e:IE)
 |asg (t:ITgs) (e:IE)
 |put (o i e:IE)
 |fset (c:Str) (o:IE) (f:Str) (e:IE)
 |expr (e:IE)
 |ite (c:IE) (a b:ISs)
 |for_ (t:ITg) (s:ISr) (b:ISs)
 |while_ (c:IE) (b:ISs)
inductive ISs where|nil|cons (s:IS) (r:ISs)
end
structure EndM where
 nx:Sm->MH->Prop
 rt:QM
 bk:Sm->MH->Prop:=λ_ _=>False
 ct:Sm->MH->Prop:=λ_ _=>False
mutual
def wS(Φ:List (Str×SpM)):IS->EndM->Sm->MH->Prop
 |.pass,D,σ,M=>D.nx σ M
 |.brk,D,σ,M=>D.bk σ M
 |.cnt,D,σ,M=>D.ct σ M
 |.never,_,_,_=>False
 |.ret e,D,σ,M=>wE Φ e σ M D.rt
 |.retN,D,_,M=>D.rt .non M
 |.set i e,D,σ,M=>wE Φ e σ M λv M1=>D.nx (σ.set i (some v)) M1
 |.asg t e,D,σ,M=>wE Φ e σ M λv M1=>∃xs,v=.tup xs/\wTgs t xs σ λσ'=>D.nx σ' M1
 |.put o i e,D,σ,M=>wE Φ e σ M λv M1=>wE Φ o σ M1 λx M2=>wE Φ i σ M2 λy M3=>wPut x y v M3 λM4=>D.nx σ M4
 |.fset c o f e,D,σ,M=>wE Φ e σ M λv M1=>wE Φ o σ M1 λx M2=>∃a fs,x=.ref a/\M2 a=some (.ins c fs)/\fs.length<1000/\D.nx σ (updM M2 a (.ins c (putM fs f v)))
 |.expr e,D,σ,M=>wE Φ e σ M λ_ M1=>D.nx σ M1
 |.ite c a b,D,σ,M=>wE Φ c σ M λx M1=>onB x λk=>(if k=true then wSs Φ a D σ M1 else wSs Φ b D σ M1)
 |.for_ t s b,D,σ,M=>wSr Φ s σ M λS M1=>∃J:Nat->Sm->MH->Prop,J 0 σ M1/\(∀i σ M,J i σ M->S.ok M)/\
   (∀i x σ M,S.items[i]?=some x->J i σ M->wTg t x σ λσ2=>wSs Φ b {nx:=J (i+1),rt:=λv M=>S.okT M/\D.rt v (S.thaw M),bk:=λσ M=>S.okT M/\D.nx σ (S.thaw M),ct:=J (i+1)} σ2 M)/\∀σ M,J S.len σ M->D.nx σ (S.thaw M)
 |.while_ c b,D,σ,M=>∃J:Nat->Sm->MH->Prop,(∃m,J m σ M)/\∀m σ M,J m σ M->wE Φ c σ M λx M1=>∃k,x=.bl k/\
   (if k=true then wSs Φ b {nx:=λσ' M'=>∃m',m'<m/\J m' σ' M',rt:=D.rt,bk:=D.nx,ct:=λσ' M'=>∃m',m'<m/\J m' σ' M'} σ M1 else D.nx σ M1)
def wSs(Φ:List (Str×SpM)):ISs->EndM->Sm->MH->Prop
 |.nil,D,σ,M=>D.nx σ M
 |.cons s r,D,σ,M=>wS Φ s {nx:=λσ M=>wSs Φ r D σ M,rt:=D.rt,bk:=D.bk,ct:=D.ct} σ M
end
theorem Ke{Φ:List (Str×SpM)}{c:IE}{a b:ISs}{D:EndM}{σ:Sm}{M:MH}:wS Φ (.ite c a b) D σ M=wE Φ c σ M λx M1=>∃k,x=.bl k/\(if k=true then wSs Φ a D σ M1 else wSs Φ b D σ M1):=by rw[wS];simp only[We]
structure EndM.Le (D D':EndM):Prop where
 nx:∀σ M,D.nx σ M->D'.nx σ M
 rt:∀v M,D.rt v M->D'.rt v M
 bk:∀σ M,D.bk σ M->D'.bk σ M
 ct:∀σ M,D.ct σ M->D'.ct σ M
mutual
theorem Kf{Φ:List (Str×SpM)}(hΦ:∀(j:Nat) f sp,Φ[j]?=some (f,sp)->MonW sp):∀(s:IS) {D D':EndM} {σ:Sm} {M:MH},D.Le D'->wS Φ s D σ M->wS Φ s D' σ M
 |.pass,D,D',σ,M,l,h=>by exact l.nx _ _ h
 |.brk,D,D',σ,M,l,h=>by exact l.bk _ _ h
 |.cnt,D,D',σ,M,l,h=>by exact l.ct _ _ h
 |.never,D,D',σ,M,l,h=>h.elim
 |.ret e,D,D',σ,M,l,h=>by exact X7 hΦ e l.rt h
 |.retN,D,D',σ,M,l,h=>by exact l.rt _ _ h
 |.set i e,D,D',σ,M,l,h=>by exact X7 hΦ e (λv M1 h1=>l.nx _ _ h1) h
 |.asg t e,D,D',σ,M,l,h=>by exact X7 hΦ e (λv M1 ⟨xs,e,h1⟩=>⟨xs,e,mon_tgs t (λσ' h2=>l.nx _ _ h2) h1⟩) h
 |.put o i e,D,D',σ,M,l,h=>by
  exact X7 hΦ e (λv M1 h1=>X7 hΦ o (λx M2 h2=>X7 hΦ i (λy M3 h3=>JT (λM4 h4=>l.nx _ _ h4) h3) h2) h1) h
 |.fset c o f e,D,D',σ,M,l,h=>by
  exact X7 hΦ e (λv M1 h1=>X7 hΦ o (λx M2 ⟨a,fs,e1,e2,e3,h2⟩=>⟨a,fs,e1,e2,e3,l.nx _ _ h2⟩) h1) h
 |.expr e,D,D',σ,M,l,h=>by exact X7 hΦ e (λv M1 h1=>l.nx _ _ h1) h
 |.ite c a b,D,D',σ,M,l,h=>by
  rw[Ke]at h ⊢;exact X7 hΦ c (λx M1 ⟨k,e,h1⟩=>⟨k,e,YS (mon_ss hΦ a l) (mon_ss hΦ b l) h1⟩) h
 |.for_ t s b,D,D',σ,M,l,h=>by
  refine mon_sr hΦ s (λS M1 ⟨J,j0,j1,j2,j3⟩=>⟨J,j0,j1,λi x σ M hx hj=>?_,λσ M hj=>l.nx _ _ (j3 σ M hj)⟩) h;exact UK t (λσ2 h2=>by refine mon_ss hΦ b ?_ h2;exact⟨λ_ _ z=>z,λ_ _ z=>⟨z.1,l.rt _ _ z.2⟩,λ_ _ z=>⟨z.1,l.nx _ _ z.2⟩,λ_ _ z=>z⟩) (j2 i x σ M hx hj)
 |.while_ c b,D,D',σ,M,l,h=>by
  obtain⟨J,j0,j1⟩:=h;refine⟨J,j0,λm σ M hj=>X7 hΦ c (λx M1 ⟨k,e,h1⟩=>⟨k,e,YS (λz=>by refine mon_ss hΦ b ?_ z;exact⟨λ_ _ z=>z,l.rt,l.nx,λ_ _ z=>z⟩) (l.nx _ _) h1⟩) (j1 m σ M hj)⟩
theorem mon_ss{Φ:List (Str×SpM)}(hΦ:∀(j:Nat) f sp,Φ[j]?=some (f,sp)->MonW sp):∀(s:ISs) {D D':EndM} {σ:Sm} {M:MH},D.Le D'->wSs Φ s D σ M->wSs Φ s D' σ M
 |.nil,D,D',σ,M,l,h=>by exact l.nx _ _ h
 |.cons s r,D,D',σ,M,l,h=>by
  refine Kf hΦ s ?_ h;exact⟨λσ M h1=>mon_ss hΦ r l h1,l.rt,l.bk,l.ct⟩
end
def Kg:Expr->Bool
 |.Tuple ..=>false|_=>true
def Ac:Expr->Bool
 |.ListComp ..=>false|.SetComp ..=>false|.DictComp ..=>false|_=>true
def Kh:Stmt->Option (Option Expr)|.Return v _=>some v|_=>none
def Ad:Stmt->Option (List Expr×Expr)|.Assign ts v _=>some (ts,v)|_=>none
def asEx:Stmt->Option Expr|.Expr v _=>some v|_=>none
def Ki:Stmt->Option (Expr×List Stmt×List Stmt)|.If t x y _=>some (t,x,y)|_=>none
def Kj:Stmt->Option (Expr×Expr×List Stmt×List Stmt)|.For t i b r _=>some (t,i,b,r)|_=>none
def asWh:Stmt->Option (Expr×List Stmt×List Stmt)|.While t b r _=>some (t,b,r)|_=>none
section
variable{e:Stmt}
theorem Zla{x:Option Expr}(h:Kh e=some x):∃p,e=.Return x p:=by cases e<;>cases h;exact⟨_,rfl⟩
theorem CT{x:List Expr×Expr}(h:Ad e=some x):∃p,e=.Assign x.1 x.2 p:=by cases e<;>cases h;exact⟨_,rfl⟩
theorem Zoa{x:Expr}(h:asEx e=some x):∃p,e=.Expr x p:=by cases e<;>cases h;exact⟨_,rfl⟩
theorem Zlc{x:Expr×List Stmt×List Stmt}(h:Ki e=some x):∃p,e=.If x.1 x.2.1 x.2.2 p:=by cases e<;>cases h;exact⟨_,rfl⟩
theorem Zld{x:Expr×Expr×List Stmt×List Stmt}(h:Kj e=some x):∃p,e=.For x.1 x.2.1 x.2.2.1 x.2.2.2 p:=by cases e<;>cases h;exact⟨_,rfl⟩
theorem Zo5{x:Expr×List Stmt×List Stmt}(h:asWh e=some x):∃p,e=.While x.1 x.2.1 x.2.2 p:=by cases e<;>cases h;exact⟨_,rfl⟩
end
mutual
def chkS(G:GI)(sc:Scope)(N:List Str):IS->Stmt->Bool
 |.pass,_=>false
 |.brk,_=>false
 |.cnt,_=>false
 |.never,_=>true
 |.ret e,s=>(Kh s).any λo=>o.any λx=>chkE G e sc N x
 |.retN,_=>false
 |.set i e,s=>(Ad s).any λq=>(the1 q.1).any λt=>(YT t).any λx=>decide (N[i]?=some x)&&locB sc x&&chkE G e sc N q.2
 |.asg t e,s=>(Ad s).any λq=>(the1 q.1).any λg=>(A7 g).any λes=>chkTgs sc N N.length true t es&&chkE G e sc N q.2&&Kg q.2
 |.put o i e,s=>(Ad s).any λq=>(the1 q.1).any λt=>(A8 t).any λa=>chkE G o sc N a.1&&chkE G i sc N a.2&&A5 a.2&&chkE G e sc N q.2
 |.fset c o f e,s=>(Ad s).any λq=>(the1 q.1).any λt=>(Wh t).any λa=>decide (a.2.1=f)&&G.cls.contains (c,f)&&chkE G o sc N a.1&&chkE G e sc N q.2
 |.expr e,s=>(asEx s).any λv=>chkE G e sc N v&&Ac v
 |.ite c a b,s=>(Ki s).any λq=>tok c&&chkE G c sc N q.1&&chkSs G sc N a q.2.1&&chkSs G sc N b q.2.2
 |.for_ t r b,s=>(Kj s).any λq=>Zj sc N N.length true t q.1&&chkSr G r sc N q.2.1&&A6 q.2.1&&chkSs G sc N b q.2.2.1&&non0 q.2.2.2
 |.while_ c b,s=>(asWh s).any λq=>tok c&&chkE G c sc N q.1&&chkSs G sc N b q.2.1&&non0 q.2.2
def chkSs(G:GI)(sc:Scope)(N:List Str):ISs->List Stmt->Bool
 |.nil,l=>non0 l
 |.cons s r,l=>(hd1 l).any λq=>chkS G sc N s q.1&&chkSs G sc N r q.2
end
def liD(K:X5)(H:Hp)(D:Ends):EndM where
 nx:=λσm M=>∀σ H',Kp H H'->RS K H' σm σ->RH K M H'->D.nx σ H'
 rt:=Dn K H D.rt
 bk:=λσm M=>∀σ H',Kp H H'->RS K H' σm σ->RH K M H'->D.bk σ H'
 ct:=λσm M=>∀σ H',Kp H H'->RS K H' σm σ->RH K M H'->D.ct σ H'
theorem liD.on{K:X5}{H H1:Hp}{D:Ends}(k:Kp H H1):(liD K H D).Le (liD K H1 D):=
 ⟨λ_ _ h σ H' k'=>h σ H' (k.trans k'),λ_ _ h=>h.on k,λ_ _ h σ H' k'=>h σ H' (k.trans k'),λ_ _ h σ H' k'=>h σ H' (k.trans k')⟩
def liSt(K:X5)(t:EndM->Sm->MH->Prop):TS:=λD σ H=>∃σm M,RS K H σm σ/\RH K M H/\t (liD K H D) σm M
theorem ZhW{e:Expr}{x:Str}{p:Pos}{ln:Nat}{env:Env}(h:Ac e=true):ZP e (some (.Name x p)) ln env=pure false:=by cases e<;>first|rfl|cases h
theorem ZhV{e:Expr}{ln:Nat}{env:Env}(h:Ac e=true):ZP e none ln env=pure false:=by cases e<;>first|rfl|cases h
theorem Zk4{e:Expr}{es:List Expr}{k:Nat}{p:Pos}{ln:Nat}{env:Env}:ZP e (some (.Tuple es k p)) ln env=pure false:=by cases e<;>rfl
theorem Zk6{e a:Expr}{f:Str}{p:Pos}{ln:Nat}{env:Env}:ZP e (some (.Attribute a f p)) ln env=pure false:=by cases e<;>rfl
theorem Zk5{e a b:Expr}{p:Pos}{ln:Nat}{env:Env}:ZP e (some (.Subscript a b p)) ln env=pure false:=by cases e<;>rfl
theorem ZhX{elt:Expr}{gs:List Comprehension}{scope:Scope}{pos p:Pos}{x:Str}{ln:Nat}{env:Env}:∃b:Bool,ZP (.ListComp elt gs scope pos) (some (.Name x p)) ln env=pure b:=⟨_,rfl⟩
theorem ZnS{G:GI}{ie:IE}{sc:Scope}{N:List Str}{e:Expr}(h:chkE G ie sc N e=true):Ac e=true\/∃own fr src tg test elt,ie=.comp own fr src tg test elt:=by
 cases e<;>first
  |exact .inl rfl
  |(cases ie<;>first
    |exact .inr ⟨_,_,_,_,_,_,rfl⟩
    |exact absurd h XC)
section
variable{G:GI}{sc:Scope}{N:List Str}{st:Stmt}
theorem ZkS{e:IE}(h:chkS G sc N (.ret e) st=true):∃x p,st=.Return (some x) p/\chkE G e sc N x=true:=by
 replace h:=Xg h;obtain⟨o,h1,h⟩:=h;obtain⟨p,rfl⟩:=Zla h1;replace h:=Xg h;obtain⟨x,rfl,h⟩:=h;exact⟨x,p,rfl,h⟩
theorem ZkR{i:Nat}{e:IE}(h:chkS G sc N (.set i e) st=true):∃x px v p,st=.Assign [.Name x px] v p/\N[i]?=some x/\locB sc x=true/\chkE G e sc N v=true:=by
 replace h:=Xg h;obtain⟨⟨ts,v⟩,h1,h⟩:=h;obtain⟨p,rfl⟩:=CT h1;replace h:=Xg h;obtain⟨t,h2,h⟩:=h;obtain rfl:=ZK h2;replace h:=Xg h;obtain⟨x,h3,h⟩:=h;obtain⟨px,rfl⟩:=Z7 h3;replace h:=Xe h;obtain⟨h,h6⟩:=h;replace h:=Xe h;obtain⟨h4,h5⟩:=h;exact⟨x,px,v,p,rfl,XQ h4,h5,h6⟩
theorem ZkW{t:ITgs}{e:IE}(h:chkS G sc N (.asg t e) st=true):∃es k pt v p,st=.Assign [.Tuple es k pt] v p/\chkTgs sc N N.length true t es=true/\chkE G e sc N v=true/\Kg v=true:=by
 replace h:=Xg h;obtain⟨⟨ts,v⟩,h1,h⟩:=h;obtain⟨p,rfl⟩:=CT h1;replace h:=Xg h;obtain⟨g,h2,h⟩:=h;obtain rfl:=ZK h2;replace h:=Xg h;obtain⟨es,h3,h⟩:=h;obtain⟨k,pt,rfl⟩:=EI h3;replace h:=Xe h;obtain⟨h,h6⟩:=h;replace h:=Xe h;obtain⟨h4,h5⟩:=h;exact⟨es,k,pt,v,p,rfl,h4,h5,h6⟩
theorem ZkT{o i e:IE}(h:chkS G sc N (.put o i e) st=true):∃a b pt v p,st=.Assign [.Subscript a b pt] v p/\chkE G o sc N a=true/\chkE G i sc N b=true/\A5 b=true/\chkE G e sc N v=true:=by
 replace h:=Xg h;obtain⟨⟨ts,v⟩,h1,h⟩:=h;obtain⟨p,rfl⟩:=CT h1;replace h:=Xg h;obtain⟨g,h2,h⟩:=h;obtain rfl:=ZK h2;replace h:=Xg h;obtain⟨⟨a,b⟩,h3,h⟩:=h;obtain⟨pt,rfl⟩:=EJ h3;replace h:=Xe h;obtain⟨h,h7⟩:=h;replace h:=Xe h;obtain⟨h,h6⟩:=h;replace h:=Xe h;obtain⟨h4,h5⟩:=h;exact⟨a,b,pt,v,p,rfl,h4,h5,h6,h7⟩
theorem ZiY{c f:Str}{o e:IE}(h:chkS G sc N (.fset c o f e) st=true):∃a pt v p,st=.Assign [.Attribute a f pt] v p/\G.cls.contains (c,f)=true/\chkE G o sc N a=true/\chkE G e sc N v=true:=by
 replace h:=Xg h;obtain⟨⟨ts,v⟩,h1,h⟩:=h;obtain⟨p,rfl⟩:=CT h1;replace h:=Xg h;obtain⟨g,h2,h⟩:=h;obtain rfl:=ZK h2;replace h:=Xg h;obtain⟨⟨a,nm,pt⟩,h3,h⟩:=h;obtain rfl:=CO h3;simp only[Y2]at h;obtain⟨⟨⟨a1,a2⟩,a3⟩,a4⟩:=h;obtain rfl:=XQ a1;exact⟨a,pt,v,p,rfl,a2,a3,a4⟩
theorem ZiZ{e:IE}(h:chkS G sc N (.expr e) st=true):∃v p,st=.Expr v p/\chkE G e sc N v=true/\Ac v=true:=by
 replace h:=Xg h;obtain⟨v,h1,h⟩:=h;obtain⟨p,rfl⟩:=Zoa h1;exact⟨v,p,rfl,Xe h⟩
theorem ZkU{c:IE}{a b:ISs}(h:chkS G sc N (.ite c a b) st=true):∃t x y p,st=.If t x y p/\tok c=true/\chkE G c sc N t=true/\chkSs G sc N a x=true/\chkSs G sc N b y=true:=by
 replace h:=Xg h;obtain⟨⟨t,x,y⟩,h1,h⟩:=h;obtain⟨p,rfl⟩:=Zlc h1;replace h:=Xe h;obtain⟨h,h5⟩:=h;replace h:=Xe h;obtain⟨h,h4⟩:=h;replace h:=Xe h;obtain⟨h2,h3⟩:=h;exact⟨t,x,y,p,rfl,h2,h3,h4,h5⟩
theorem ZkV{t:ITg}{s:ISr}{b:ISs}(h:chkS G sc N (.for_ t s b) st=true):∃tg it body p,st=.For tg it body [] p/\Zj sc N N.length true t tg=true/\chkSr G s sc N it=true/\A6 it=true/\chkSs G sc N b body=true:=by
 replace h:=Xg h;obtain⟨⟨tg,it,body,els⟩,h1,h⟩:=h;obtain⟨p,rfl⟩:=Zld h1;replace h:=Xe h;obtain⟨h,h6⟩:=h;replace h:=Xe h;obtain⟨h,h5⟩:=h;replace h:=Xe h;obtain⟨h,h4⟩:=h;replace h:=Xe h;obtain⟨h2,h3⟩:=h;obtain rfl:=Yo h6;exact⟨tg,it,body,p,rfl,h2,h3,h4,h5⟩
theorem Zhr{c:IE}{b:ISs}(h:chkS G sc N (.while_ c b) st=true):∃t body p,st=.While t body [] p/\tok c=true/\chkE G c sc N t=true/\chkSs G sc N b body=true:=by
 replace h:=Xg h;obtain⟨⟨tg,body,els⟩,h1,h⟩:=h;obtain⟨p,rfl⟩:=Zo5 h1;replace h:=Xe h;obtain⟨h,h5⟩:=h;replace h:=Xe h;obtain⟨h,h4⟩:=h;replace h:=Xe h;obtain⟨h2,h3⟩:=h;obtain rfl:=Yo h5;exact⟨tg,body,p,rfl,h2,h3,h4⟩
theorem ZiX{sts:List Stmt}(h:chkSs G sc N .nil sts=true):sts=[]:=by
 exact Yo h
theorem Zhq{s:IS}{r:ISs}{sts:List Stmt}(h:chkSs G sc N (.cons s r) sts=true):∃x xs,sts=x::xs/\chkS G sc N s x=true/\chkSs G sc N r xs=true:=by
 replace h:=Xg h;obtain⟨⟨x,xs⟩,h1,h⟩:=h;exact⟨x,xs,Us h1,Xe h⟩
end
mutual
theorem sS{G:GI}{Φ:List (Str×SpM)}:∀(is:IS) {X:Cx} {st:Stmt},Cok X G Φ->(∀x,X.fn x=true)->chkS G X.env.scope X.N is st=true->PS X st (liSt X.K (wS Φ is))
 |.pass,X,st,c,hf,h=>absurd h XC
 |.brk,X,st,c,hf,h=>absurd h XC
 |.cnt,X,st,c,hf,h=>absurd h XC
 |.never,X,st,c,hf,h=>by
  refine ps_never.weak λD σ H hw=>?_;obtain⟨σm,M,rs,rh,hw⟩:=hw;exact hw
 |.ret e,X,st,c,hf,h=>by
  obtain⟨v,p,rfl,h⟩:=ZkS h;refine(Sh (sE e c h).pe).weak λD σ H hw=>?_;obtain⟨σm,M,rs,rh,hw⟩:=hw;exact⟨σm,M,rs,rh,hw⟩
 |.retN,X,st,c,hf,h=>absurd h XC
 |.set i e,X,st,c,hf,h=>by
   obtain⟨x,px,v,p,rfl,h1,h2,h3⟩:=ZkR h;have rd:∀D σ H,liSt X.K (wS Φ (.set i e)) D σ H->liE X.K (wE Φ e) σ H λv H1=>D.nx (σ.set i (some v)) H1:=λD σ H hw=>by
    obtain⟨σm,M,rs,rh,hw⟩:=hw;refine⟨σm,M,rs,rh,X7 c.mon e (λv M1 q=>?_) hw⟩;intro u H1 k1 r1 rh1;exact q _ _ k1 ((rs.mono k1).set r1 i) rh1
   rcases ZnS h3 with hn|⟨own,fr,src,tg,test,elt,rfl⟩
   ·exact(Ig c.nd h1 (CP h2) (sE e c h3).pe (ZhW hn) (.inl (hf _))).weak rd
   ·obtain⟨y,t,it,ifs,scope,p3,rfl,i1,i2,i3,i4,i5,i6,i7⟩:=K5 h3;obtain⟨b,hb⟩:=ZhX (elt:=y) (gs:=[⟨t,it,ifs,0⟩]) (scope:=scope) (pos:=p3) (p:=px) (x:=x) (ln:=p.line) (env:=X.env);cases b with
    |false=>exact(Ig c.nd h1 (CP h2) (sE _ c h3).pe hb (.inl (hf _))).weak rd
    |true=>
     refine(Zft own fr (g:=gOf X.K tg) (te:=liE X.K (wE Φ elt)) (tt:=ttOf X.K Φ test) c.nd h1 (CP h2) (λe s h=>by rw[c.nox]at h;exact h) c.calm i1 (sSr src (tg:=t) c i4)
      (λC fp s₃ H₃=>sTg (X:=cxC X scope own fr C fp s₃ H₃) (lim:=own.length) (all:=false) c.calm i3 (λz=>by cases z) tg i5) (λC fp s₃ H₃=>sI (X:=cxC X scope own fr C fp s₃ H₃) test (c.comp (W9 i1).kind i3) i6)
      (λC fp s₃ H₃=>(sE (X:=cxC X scope own fr C fp s₃ H₃) elt (c.comp (W9 i1).kind i3) i7).pe) hb (ET i2 _) (.inl (hf _))).thaw.weak λD σ H hw=>?_
     exact Kb c.mon i5 (rd D σ H hw)
 |.asg t e,X,st,c,hf,h=>by
   obtain⟨es,k,pt,v,p,rfl,h1,h2,h3⟩:=ZkW h;have hT:Zj X.env.scope X.N X.N.length true (.tup t) (.Tuple es k pt)=true:=h1;refine(Ie (sE e c h2).pe (sTg (lim:=X.N.length) (all:=true) c.calm c.nd (λ_=>hf) (.tup t) hT) (Zk4 (e:=v) (es:=es) (k:=k) (p:=pt) (ln:=p.line) (env:=X.env)) (by cases v<;>first|rfl|cases h3) rfl).weak λD σ H hw=>?_
   obtain⟨σm,M,rs,rh,hw⟩:=hw;refine⟨σm,M,rs,rh,X7 c.mon e (λv M1 ⟨xs,e,q⟩=>?_) hw⟩;intro u H1 k1 r1 rh1;refine CS (Ψ:=λ_=>True) (lim:=X.N.length) (λ_ _ _ _ z=>z) (.tup t) hT r1 (rs.mono k1) trivial (P:=λσ'=>(liD X.K H D).nx σ' M1) ⟨xs,e,q⟩ λσm' σ' q' rs' _=>?_;exact q' _ _ k1 rs' rh1
 |.put o i e,X,st,c,hf,h=>by
   obtain⟨a,b,pt,v,p,rfl,h1,h2,h3,h4⟩:=ZkT h;have hg:PG X (.Subscript a b pt) (gSub (liE X.K (wE Φ o)) (liE X.K (wE Φ i)) (JU X.K)):=So (sE o c h1).pe (sE i c h2).pe (Zmm (by have:=c.room;lia)) (by intro v;cases b<;>first|rfl|cases h3)
   refine(Ie (sE e c h4).pe hg (Zk5 (e:=v) (a:=a) (b:=b) (p:=pt) (ln:=p.line) (env:=X.env)) rfl rfl).weak λD σ H hw=>?_;obtain⟨σm,M,rs,rh,hw⟩:=hw;refine⟨σm,M,rs,rh,X7 c.mon e (λv M1 q1=>?_) hw⟩;intro u H1 k1 r1 rh1;refine⟨σm,M1,rs.mono k1,rh1,X7 c.mon o (λx M2 q2=>?_) q1⟩;intro u2 H2 k2 r2 rh2;refine⟨σm,M2,rs.mono (k1.trans k2),rh2,X7 c.mon i (λy M3 q3=>?_) q2⟩;intro u3 H3 k3 r3 rh3;refine⟨x,y,v,M3,r2.mono k3,r3,r1.mono (k2.trans k3),rh3,JT (λM4 q4=>?_) q3⟩;intro H4 k4 rh4;have kk:=k1.trans (k2.trans (k3.trans k4));exact q4 _ _ kk (rs.mono kk) rh4
 |.fset cn o f e,X,st,c,hf,h=>by
  obtain⟨a,pt,v,p,rfl,h1,h2,h3⟩:=ZiY h;obtain⟨C,hC,cl,na⟩:=c.cls cn f h1;refine(Tg (sE o c h2).pe (sE e c h3).pe Zk6).weak λD σ H hw=>?_;obtain⟨σm,M,rs,rh,hw⟩:=hw;refine⟨σm,M,rs,rh,X7 c.mon e (λv M1 q1=>?_) hw⟩;intro u H1 k1 r1 rh1;refine⟨σm,M1,rs.mono k1,rh1,X7 c.mon o (λx M2 ⟨b,fs,e1,e2,e3,q2⟩=>?_) q1⟩;subst e1;intro u2 H2 k2 r2 rh2;cases r2;obtain⟨C',dx,vs,g1,g2,g3⟩:=rh2.ins e2;rw[hC]at g2;cases g2;have k3:=Kp.upd g1 rfl (.ins C dx (putF f u vs));have kk:=k1.trans (k2.trans k3);refine⟨b,C,dx,vs,rfl,g1,cl,na,by rw[<- g3.length];exact e3,?_⟩
  exact q2 _ _ kk (rs.mono kk) (rh2.put k3 (o:=.ins cn (putM fs f v)) ⟨hC,(Ju (r1.mono k2) g3).mono k3⟩)
 |.expr e,X,st,c,hf,h=>by
  obtain⟨v,p,rfl,h1,h2⟩:=ZiZ h;refine(Sg (sE e c h1).pe (ZhV h2)).weak λD σ H hw=>?_;obtain⟨σm,M,rs,rh,hw⟩:=hw;refine⟨σm,M,rs,rh,X7 c.mon e (λv M1 q=>?_) hw⟩;intro u H1 k1 r1 rh1;exact q _ _ k1 (rs.mono k1) rh1
 |.ite d a b,X,st,c,hf,h=>by
  obtain⟨t,x,y,p,rfl,h1,h2,h3,h4⟩:=ZkU h;refine(Si ((sE d c h2).pt h1) (sSs a c hf h3) (sSs b c hf h4)).weak λD σ H hw=>?_;obtain⟨σm,M,rs,rh,hw⟩:=hw;rw[Ke]at hw;refine⟨σm,M,rs,rh,X7 c.mon d (λx M1 ⟨k,e,q⟩=>⟨k,e,λH1 k1 rh1=>?_⟩) hw⟩;exact YS (λq=>⟨σm,M1,rs.mono k1,rh1,mon_ss c.mon a (liD.on k1) q⟩) (λq=>⟨σm,M1,rs.mono k1,rh1,mon_ss c.mon b (liD.on k1) q⟩) q
 |.for_ t s b,X,st,c,hf,h=>by
   obtain⟨tg,it,body,p,rfl,h1,h2,h3,h4⟩:=ZkV h;refine(SD (by rw[c.nox];exact PassesOwn.never) c.calm (sSr s (tg:=tg) c h2) (sTg (lim:=X.N.length) (all:=true) c.calm c.nd (λ_=>hf) t h1) (sSs b c hf h4) (ET h3 _)).thaw.weak λD σ H hw=>?_
   obtain⟨σm,M,rs,rh,hw⟩:=hw;refine⟨σm,M,rs,rh,mon_sr c.mon s (λS M1 ⟨J,j0,j1,j2,j3⟩=>?_) hw⟩;intro I H1 k1 rh1 sit;refine⟨λi m σ' H'=>m=S.len - i/\i≤S.len/\Kp H1 H'/\∃σm' M',RS X.K H' σm' σ'/\RH X.K M' H'/\J i σm' M',⟨_,rfl,YO _,Kp.refl _,σm,M1,rs.mono k1,rh1,j0⟩,?_⟩;rintro i m σ2 H2 ⟨rfl,hi,k2,σm2,M2,rs2,rh2,hj⟩;obtain⟨goes,stops⟩:=Ka sit k2 rh2 (j1 i σm2 M2 hj);by_cases hlt:i<S.len
   ·obtain⟨go,yld⟩:=goes i hlt;refine .inr ⟨go,λσ' H'=>Kp H1 H'/\∃σm' M',RS X.K H' σm' σ'/\RH X.K M' H'/\J (i+1) σm' M',λσ' H' ⟨a,z⟩=>⟨S.len - (i+1),by lia,rfl,hlt,a,z⟩,λx H' y=>?_⟩
    obtain⟨e,m,hm,rm⟩:=yld x H' y;subst e;refine CS (Ψ:=λ_=>True) (lim:=X.N.length) (λ_ _ _ _ z=>z) t h1 rm rs2 trivial (j2 i m σm2 M2 hm hj) λσm3 σ3 q rs3 _=>?_;refine⟨σm3,M2,rs3,rh2,?_⟩;refine mon_ss c.mon b ?_ q;refine⟨λσ' M' z σv H3 k3 rs' rh'=>⟨k2.trans k3,σ',M',rs',rh',z⟩,λv M' z u H3 k3 r3 rh'=>?_,λσ' M' z σv H3 k3 rs' rh'=>?_,λσ' M' z σv H3 k3 rs' rh'=>⟨k2.trans k3,σ',M',rs',rh',z⟩⟩
    ·obtain⟨H4,th,k4,rh4⟩:=CQ sit rh' z.1;exact⟨H4,th,z.2 u H4 (k1.trans (k2.trans (k3.trans k4))) (r3.mono k4) rh4⟩
    ·obtain⟨H4,th,k4,rh4⟩:=CQ sit rh' z.1;exact⟨H4,th,z.2 σv H4 (k1.trans (k2.trans (k3.trans k4))) (rs'.mono k4) rh4⟩
   ·have e:i=S.len:=by lia
    subst e;obtain⟨H4,th,k4,rh4⟩:=CQ sit rh2 (K8 (j1 _ σm2 M2 hj));exact .inl ⟨stops _ (Xi _),H4,th,j3 σm2 M2 hj _ _ (k1.trans (k2.trans k4)) (rs2.mono k4) rh4⟩
 |.while_ d b,X,st,c,hf,h=>by
   obtain⟨tst,body,p,rfl,h1,h2,h3⟩:=Zhr h;refine(Sr (by rw[c.nox];exact PassesOwn.never) ((sE d c h2).pt h1) (sSs b c hf h3)).weak λD σ H hw=>?_
   obtain⟨σm,M,rs,rh,hw⟩:=hw;obtain⟨J,⟨m0,j0⟩,j1⟩:=hw;refine⟨λm σ' H'=>Kp H H'/\∃σm' M',RS X.K H' σm' σ'/\RH X.K M' H'/\J m σm' M',⟨m0,Kp.refl _,σm,M,rs,rh,j0⟩,?_⟩;rintro m σ2 H2 ⟨k2,σm2,M2,rs2,rh2,hj⟩;refine⟨σm2,M2,rs2,rh2,X7 c.mon d (λx M1 ⟨k,e,q⟩=>⟨k,e,λH3 k3 rh3=>?_⟩) (j1 m σm2 M2 hj)⟩;refine YS (λq=>?_) (λq=>q _ _ (k2.trans k3) (rs2.mono k3) rh3) q;refine⟨λσ' H'=>∃m',m'<m/\Kp H H'/\∃σm' M',RS X.K H' σm' σ'/\RH X.K M' H'/\J m' σm' M',λσ' H' z=>z,σm2,M1,rs2.mono k3,rh3,?_⟩;refine mon_ss c.mon b ?_ q;refine⟨?_,λv M' z=>z.on (k2.trans k3),λσ' M' z σv H4 k4=>z σv H4 (k2.trans (k3.trans k4)),?_⟩
   ·rintro σ' M' ⟨m',hm,z⟩ σv H4 k4 rs' rh';exact⟨m',hm,k2.trans (k3.trans k4),σ',M',rs',rh',z⟩
   ·rintro σ' M' ⟨m',hm,z⟩ σv H4 k4 rs' rh';exact⟨m',hm,k2.trans (k3.trans k4),σ',M',rs',rh',z⟩
theorem sSs{G:GI}{Φ:List (Str×SpM)}:∀(is:ISs) {X:Cx} {sts:List Stmt},Cok X G Φ->(∀x,X.fn x=true)->chkSs G X.env.scope X.N is sts=true->PSs X sts (liSt X.K (wSs Φ is))
 |.nil,X,sts,c,hf,h=>by
   cases ZiX h;refine pss_nil.weak λD σ H hw=>?_;obtain⟨σm,M,rs,rh,hw⟩:=hw;exact hw σ H (Kp.refl _) rs rh
 |.cons s r,X,sts,c,hf,h=>by
   obtain⟨x,xs,rfl,h1,h2⟩:=Zhq h;refine(Se (sS s c hf h1) (sSs r c hf h2)).weak λD σ H hw=>?_;obtain⟨σm,M,rs,rh,hw⟩:=hw;refine⟨σm,M,rs,rh,?_⟩;refine Kf c.mon s ?_ hw;refine⟨λσ' M' z σv H1 k1 rs' rh'=>?_,λv M' z=>z,λσ' M' z=>z,λσ' M' z=>z⟩;exact⟨σ',M',rs',rh',mon_ss c.mon r (liD.on k1) z⟩
end
end L2
namespace L2
open PySem PySem.Spec PyProof.Rows
structure Fts (P:Xk) (w:Xh) (K:X5) (mg:Str->Option X0) (base:Heap) (k:Nat) (G:GI) (Φ:List (Str×SpM)):Prop where
 bls:∀x,G.bl.contains x=true->mg x=none
 gls:∀x i,G.gl.lookup x=some i->∃tk,mg x=some (.int i tk)
 fnn:∀(j:Nat) f,G.fns[j]?=some f->∃sp,Φ[j]?=some (f,sp)
 mon:∀(j:Nat) f sp,Φ[j]?=some (f,sp)->MonW sp
 fns:∀(j:Nat) f sp,G.fns[j]?=some f->Φ[j]?=some (f,sp)->∃fa fd ps,FnOk P w K mg base CX0 k fa fd ps (liSp K sp)/\mg f=some (.ref fa)/\Y5 K (.ref fa)=true/\Binds K fd ps []
 mts:∀(j:Nat) c m,G.mts.contains (j,c,m)=true->∃f sp,Φ[j]?=some (f,sp)/\∃C fa fd ps,FnOk P w K mg base CX0 k fa fd ps (liSp K sp)/\XF K Xv c=some (some (.ref C))/\Cls K C/\Meth K C m fa/\Binds K fd ps []
 mks:∀(j:Nat) c,G.mks.contains (j,c)=true->∃f sp,Φ[j]?=some (f,sp)/\∃k' C fa fd ps,k'+1≤k/\FnOk P w K mg base CX0 k' fa fd ps (liSp K sp)/\XF K Xv c=some (some (.ref C))/\mg c=some (.ref C)/\Mk K C fa/\Binds K fd ps []
 cls:∀c f,G.cls.contains (c,f)=true->∃C,XF K Xv c=some (some (.ref C))/\Cls K C/\NoAttr K C f
def Ae(n:Nat)(vs:List MV):Sm:=vs.map some++Xj (n - vs.length) none
theorem Zk7{K:X5}{H:Hp}{N:List Str}{ms:List MV}{vs:List V}(r:RMs K H ms vs):RS K H (Ae N.length ms) (U1 N vs):=by
 unfold Ae U1;have hl:=r.length;refine⟨by simp[hl],λi m e=>?_⟩
 by_cases hi:i<ms.length
 ·rw[Uh (by simpa using hi),Xw]at e
  cases q:ms[i]? with
  |none=>rw[q]at e;cases e
  |some x=>
   rw[q]at e;have ex:x=m:=YD (YD e);subst ex;obtain⟨u,hu,ru⟩:=r.get q;exact⟨u,by rw[Uh (by simpa [<- hl]using hi),Xw,hu];rfl,ru⟩
 ·rw[ZS (by simpa using hi),Hc]at e
  split at e<;>cases e
theorem Fun.okM{P:Xk}{w:Xh}{K:X5}{mg:Str->Option X0}{base:Heap}{G:GI}{Φ:List (Str×SpM)}{x qual:Str}{st:Stmt}{f:Addr}{fd:Xf}{N ps:List Str}{k:Nat}{sp:SpM}
  (F:Fun K x qual st f fd) (S:FnScope N ps (X4 st)) (T:Fts P w K mg base k G Φ) (ir:ISs) (hc:chkSs G (X4 st) N ir (Xb st)=true)
  (len:∀vs M Q,sp vs M Q->vs.length=ps.length) (h:∀vs M Q,sp vs M Q->wSs Φ ir {nx:=λ_ M'=>Q .non M',rt:=Q} (Ae N.length vs) M):FnOk P w K mg base CX0 (k+1) f fd ps (liSp K sp):=by
 refine F.ok S (λvs H Q E hs=>?_) λcdv A outer s H vs Q E hr hs=>?_
 ·obtain⟨ms,M,r,rh,q⟩:=hs;rw[<- r.length];exact len _ _ _ q
 obtain⟨ms,M,r,rh,q⟩:=hs;have c:Cok (cxOf CX0 P w K mg base N qual (X4 st) f cdv A outer s H E).nox G Φ:=
  ⟨(by have:=hr.un;show(A.deeper _).units+70<cLine;lia),rfl,rfl,(by show(if(X4 st).kind.isAnnotationScope then HU else(X4 st).kind)=.function;rw[S.kind];rfl),S.nd,T.bls,T.gls,T.fnn,T.mon,
   (λj f sp hg hj=>let⟨fa,fd,ps,F,hm,hk,hb⟩:=T.fns j f sp hg hj;⟨k,fa,fd,ps,hr,F,hm,hk,hb⟩),
   (λj c m h=>let⟨f,sp,hj,C,fa,fd,ps,F,hC,cl,hm,hb⟩:=T.mts j c m h;⟨f,sp,hj,k,C,fa,fd,ps,hr,F,hC,cl,hm,hb⟩),
   (λj c h=>let⟨f,sp,hj,k',C,fa,fd,ps,hk,F,hC,hm,mk1,hb⟩:=T.mks j c h;⟨f,sp,hj,k',C,fa,fd,ps,hr.mono hk,F,hC,hm,mk1,hb⟩),T.cls⟩
 refine⟨_,sSs ir c (λ_=>rfl) hc,Ae N.length ms,M,Zk7 r,rh,?_⟩;refine mon_ss T.mon ir ?_ (h ms M _ q);exact⟨λσ M' z σv H' k1 rs' rh'=>z _ _ k1 .non rh',λv M' z=>z,λ_ _ z=>z.elim,λ_ _ z=>z.elim⟩
def Kk:SpM:=λvs M Q=>∃ns:List Int,vs=[.frl (ns.map .int)]/\ns.length≤63/\∀M',Q (.bl true) M'
def CU(K:X5):Sp:=λvs H Q _=>∃(a:Addr) (ns:List Int),vs=[.ref a]/\FrL K H a (ns.map V.int)/\ns.length≤63/\∀H',Q (.bl true) H'
theorem Znk{K:X5}{P:Xk}{w:Xh}{mg:Str->Option X0}{base:Heap}{k:Nat}{f:Addr}{fd:Xf}{ps:List Str}(F:FnOk P w K mg base CX0 k f fd ps (liSp K Kk)):FnOk P w K mg base CX0 k f fd ps (CU K):=
 F.imp λvs H Q E ⟨a,ns,e,hs,hl,q⟩=>by
  subst e;refine⟨[.frl (ns.map .int)],λ_=>none,.cons (.frl hs (RMs.ints ns)) .nil,λ_ _ z=>(by cases z),ns,rfl,hl,λM'=>?_⟩
  intro v H' k r rh;cases r;exact q _
theorem Zq3{K:X5}{H:Hp}{a:Addr}{vs:List V}(o:Only H)(h:SqL K H a vs):FrL K H a vs:=by
 rcases h with(h|⟨ob,h⟩)|h
 ·rcases o a with z|⟨ob,xs,z⟩
  ·rw[h]at z;cases z
  ·rw[h]at z;cases z
 ·exact .inl ⟨ob,h⟩
 ·exact .inr h
theorem ZpG{P:Xk}{w:Xh}{K:X5}{mg:Str->Option X0}{base:Heap}{k:Nat}{G:GI}{Φ Ψ:List (Str×SpM)}(hb:∀x∈G.bl,mg x=none)(hg:∀p∈G.gl,∃tk,mg p.1=some (.int p.2 tk))(hf:Φ.map (·.1)=G.fns)
  (hm:∀p∈Φ++Ψ,MonW p.2) (hF:∀p∈Φ,∃fa fd ps,FnOk P w K mg base CX0 k fa fd ps (liSp K p.2)/\mg p.1=some (.ref fa)/\Y5 K (.ref fa)=true/\Binds K fd ps [])
  (ht:∀q∈G.mts,∃f sp,(Φ++Ψ)[q.1]?=some (f,sp)/\∃C fa fd ps,FnOk P w K mg base CX0 k fa fd ps (liSp K sp)/\XF K Xv q.2.1=some (some (.ref C))/\Cls K C/\Meth K C q.2.2 fa/\Binds K fd ps [])
  (hk:∀q∈G.mks,∃f sp,(Φ++Ψ)[q.1]?=some (f,sp)/\∃k' C fa fd ps,k'+1≤k/\FnOk P w K mg base CX0 k' fa fd ps (liSp K sp)/\XF K Xv q.2=some (some (.ref C))/\mg q.2=some (.ref C)/\Mk K C fa/\Binds K fd ps [])
  (hc:∀q∈G.cls,∃C,XF K Xv q.1=some (some (.ref C))/\Cls K C/\NoAttr K C q.2):Fts P w K mg base k G (Φ++Ψ)where
 bls:=λx h=>hb x (by simpa using h)
 gls:=λx i h=>hg (x,i) (VY h)
 fnn:=λj f h=>by
  rw[<- hf,Xw]at h;cases e:Φ[j]? with
  |none=>rw[e]at h;cases h
  |some p=>rw[e]at h;cases h;exact⟨p.2,by rw[Uh (XV.mp e).1,e]⟩
 mon:=λj f sp h=>hm (f,sp) (XE h)
 fns:=λj f sp hj h=>by
  rw[<- hf,Xw]at hj;cases e:Φ[j]? with
  |none=>rw[e]at hj;cases hj
  |some p=>
   rw[Uh (XV.mp e).1,e]at h;cases h;exact hF (f,sp) (XE e)
 mts:=λj c m h=>ht (j,c,m) (by simpa using h)
 mks:=λj c h=>hk (j,c) (by simpa using h)
 cls:=λc f h=>hc (c,f) (by simpa using h)
theorem Xn{P:Xk}{w:Xh}{K:X5}{mg:Str->Option X0}{base:Heap}{k:Nat}{G:GI}{Φ Ψ Χ:List (Str×SpM)}(e:Φ++Ψ=Χ)(hb:∀x∈G.bl,mg x=none)(hg:∀p∈G.gl,∃tk,mg p.1=some (.int p.2 tk))(hf:Φ.map (·.1)=G.fns)
  (hm:∀p∈Χ,MonW p.2) (hF:∀p∈Φ,∃fa fd ps,FnOk P w K mg base CX0 k fa fd ps (liSp K p.2)/\mg p.1=some (.ref fa)/\Y5 K (.ref fa)=true/\Binds K fd ps [])
  (ht:∀q∈G.mts,∃f sp,Χ[q.1]?=some (f,sp)/\∃C fa fd ps,FnOk P w K mg base CX0 k fa fd ps (liSp K sp)/\XF K Xv q.2.1=some (some (.ref C))/\Cls K C/\Meth K C q.2.2 fa/\Binds K fd ps [])
  (hk:∀q∈G.mks,∃f sp,Χ[q.1]?=some (f,sp)/\∃k' C fa fd ps,k'+1≤k/\FnOk P w K mg base CX0 k' fa fd ps (liSp K sp)/\XF K Xv q.2=some (some (.ref C))/\mg q.2=some (.ref C)/\Mk K C fa/\Binds K fd ps [])
  (hc:∀q∈G.cls,∃C,XF K Xv q.1=some (some (.ref C))/\Cls K C/\NoAttr K C q.2):Fts P w K mg base k G Χ:=by
 subst e;exact ZpG hb hg hf hm hF ht hk hc
structure Fn1 (K:X5) (x:Str) (st:Stmt) (f:Addr) (d:Xf):Prop where
 a:XF K Xv x=some (some (.ref f))
 F:Fun K x x st f d
structure FnT (K:X5) (mg:Str->Option X0) (x:Str) (ps:List Str) (st:Stmt) (f:Addr) (d:Xf):Prop where
 F:Fun K x x st f d
 b:Binds K d ps []
 m:mg x=some (.ref f)
theorem Fn1.t{K:X5}{h:Heap}{mg:Str->Option X0}{x:Str}{ps:List Str}{st:Stmt}{f:Addr}{d:Xf}(H:Fn1 K x st f d)(X:K.In h)(G:h.Ns Xv mg)
  (b:∀(kV doc pm:X0) (an:Option Addr) (cdv ct:X0) (us:List X0),us.length=ps.length->bindArgs (XO x x (XT st) (Xb st) (X4 st) .none kV doc pm an cdv ct) ⟨us,[]⟩=pure (ps.zip us)):FnT K mg x ps st f d:=⟨H.F,H.F.binds b,YB X G H.a⟩
theorem Fn1.bt{K:X5}{x:Str}{y:Str}{st:Stmt}{f:Addr}{d:Xf}(H:Fn1 K x st f d)
  (r:∀(kV doc pm:X0) (an:Option Addr) (cdv ct v:X0),bindArgs (XO x x (XT st) (Xb st) (X4 st) .none kV doc pm an cdv ct) ⟨[v],[]⟩=pure [(y,v)]) (s:X1) (v:X0):BindsTo s d ⟨[v],[]⟩ [(y,v)]:=by
 obtain⟨_,_,kV,doc,pm,an,cdv,ct,_,rfl,_⟩:=H.F.ex;exact .of_eq (r kV doc pm an cdv ct v)
theorem us0{p:List X0->Prop}(h:p [])(us:List X0)(hl:us.length=0):p us:=by cases us with|nil=>exact h|cons _ _=>cases hl
theorem us1{p:List X0->Prop}(h:∀a0,p [a0])(us:List X0)(hl:us.length=1):p us:=by cases us with|nil=>cases hl|cons a r=>exact us0 (p:=λr=>p (a::r)) (h a) r (WP hl)
theorem us2{p:List X0->Prop}(h:∀a0 a1,p [a0,a1])(us:List X0)(hl:us.length=2):p us:=by cases us with|nil=>cases hl|cons a r=>exact us1 (p:=λr=>p (a::r)) (h a) r (WP hl)
theorem us3{p:List X0->Prop}(h:∀a0 a1 a2,p [a0,a1,a2])(us:List X0)(hl:us.length=3):p us:=by cases us with|nil=>cases hl|cons a r=>exact us2 (p:=λr=>p (a::r)) (h a) r (WP hl)
theorem us4{p:List X0->Prop}(h:∀a0 a1 a2 a3,p [a0,a1,a2,a3])(us:List X0)(hl:us.length=4):p us:=by cases us with|nil=>cases hl|cons a r=>exact us3 (p:=λr=>p (a::r)) (h a) r (WP hl)
theorem us5{p:List X0->Prop}(h:∀a0 a1 a2 a3 a4,p [a0,a1,a2,a3,a4])(us:List X0)(hl:us.length=5):p us:=by cases us with|nil=>cases hl|cons a r=>exact us4 (p:=λr=>p (a::r)) (h a) r (WP hl)
section
variable{M:MH}{Q:QM}{i j:Int}{x y:MV}{a b:Addr}
theorem Zrk:wBin .Add (.int i) (.int j) M Q=Q (.int (i+j)) M:=rfl
theorem ZqO:wBin .Sub (.int i) (.int j) M Q=Q (.int (i - j)) M:=rfl
theorem Zr8:wBin .Mult (.int i) (.int j) M Q=(CMul i j/\Q (.int (i*j)) M):=rfl
theorem Zp2:wBin .FloorDiv (.int i) (.int j) M Q=(WW i j/\Q (.int (i/j)) M):=rfl
theorem Zr9:wBin .Mod (.int i) (.int j) M Q=(0<j/\Q (.int (i%j)) M):=rfl
theorem Zr0:wBin .Pow (.int i) (.int j) M Q=(CPow i j/\Q (.int (i^j.toNat)) M):=rfl
theorem ZqV:wBin .LShift (.int i) (.int j) M Q=(CPow i j/\Q (.int (i*2^j.toNat)) M):=rfl
theorem Zri:wBin .BitAnd (.int i) (.int j) M Q=Q (.int (Ct i j)) M:=rfl
theorem ZqC:wBin .BitXor (.int i) (.int j) M Q=Q (.int (Cu i j)) M:=rfl
theorem Zp6{x y:Str}:wBin .Add (.str x) (.str y) M Q=(x.length+y.length≤sizeLine/\Q (.str (x++y)) M):=rfl
theorem ZoP{x:Str}:wBin .Mult (.str x) (.int i) M Q=(x.length≤16/\ -1000≤i/\i≤1000/\Q (.str (Txt.mul x i)) M):=rfl
theorem Zp5{xs ys:List MV}:wBin .Add (.tup xs) (.tup ys) M Q=(xs≠ []/\xs.length+ys.length≤sizeLine/\Q (.tup (xs++ys)) M):=rfl
theorem ZoO{xs:List MV}:wBin .Mult (.tup xs) (.int i) M Q=(xs≠ []/\1≤i/\xs.length*i.toNat≤1000000/\Q (.tup (Xj i.toNat xs).flatten) M):=rfl
theorem ZoQ:wBin .Mult (.ref a) (.int i) M Q=∃xs,M a=some (.lst xs)/\ -(2^63)≤i/\i<2^63/\xs.length*i.toNat≤sizeLine/\∀p,M p=none->Q (.ref p) (updM M p (.lst (Xj i.toNat xs).flatten)):=rfl
theorem q_lt:wCmp .Lt (.int i) (.int j) M Q=Q (.bl (decide (i<j))) M:=propext ⟨fun⟨_,_,e,f,h⟩=>by cases e;cases f;exact h,λh=>⟨i,j,rfl,rfl,h⟩⟩
theorem q_le:wCmp .LtE (.int i) (.int j) M Q=Q (.bl (decide (i≤j))) M:=propext ⟨λh=>Or.elim h (fun⟨_,_,e,f,h⟩=>by cases e;cases f;exact h) (fun⟨_,_,e,_⟩=>nomatch e),λh=>Or.inl ⟨i,j,rfl,rfl,h⟩⟩
theorem Zra{x y:Str}:wCmp .LtE (.str x) (.str y) M Q=Q (.bl (!decide (y.cps.toList<x.cps.toList))) M:=propext ⟨λh=>Or.elim h (fun⟨_,_,e,_⟩=>nomatch e) (fun⟨_,_,e,f,h⟩=>by cases e;cases f;exact h),λh=>Or.inr ⟨x,y,rfl,rfl,h⟩⟩
theorem q_gt:wCmp .Gt (.int i) (.int j) M Q=Q (.bl (decide (j<i))) M:=propext ⟨fun⟨_,_,e,f,h⟩=>by cases e;cases f;exact h,λh=>⟨i,j,rfl,rfl,h⟩⟩
theorem q_ge:wCmp .GtE (.int i) (.int j) M Q=Q (.bl (decide (j≤i))) M:=propext ⟨fun⟨_,_,e,f,h⟩=>by cases e;cases f;exact h,λh=>⟨i,j,rfl,rfl,h⟩⟩
theorem Zrg:wCmp .Eq (.int i) (.int j) M Q=Q (.bl (decide (i=j))) M:=rfl
theorem Zr7:wCmp .NotEq (.int i) (.int j) M Q=Q (.bl (!decide (i=j))) M:=rfl
theorem Zrf{x y:Str}:wCmp .Eq (.str x) (.str y) M Q=Q (.bl (decide (x=y))) M:=rfl
theorem Zr5{x y:Str}:wCmp .NotEq (.str x) (.str y) M Q=Q (.bl (!decide (x=y))) M:=rfl
theorem q_is:wCmp .Is x .non M Q=Q (.bl (UJ x)) M:=propext ⟨λh=>Or.elim h (λh=>h.2) (fun⟨_,e,_⟩=>nomatch e),λh=>Or.inl ⟨rfl,h⟩⟩
theorem ZmC:wCmp .IsNot x .non M Q=Q (.bl (!UJ x)) M:=propext ⟨λh=>Or.elim h (λh=>h.2) (fun⟨_,e,_⟩=>nomatch e),λh=>Or.inl ⟨rfl,h⟩⟩
theorem Zr6{y:MV}:wCmp .NotEq (.ref a) y M Q=wEq (.ref a) y M λb=>Q (.bl (!b)) M:=rfl
theorem q_in:wCmp .In x y M Q=wIn x y M λb=>Q (.bl b) M:=rfl
theorem Zr4:wCmp .NotIn x y M Q=wIn x y M λb=>Q (.bl (!b)) M:=rfl
theorem EU{xs:List MV}{k:Bool->Prop}(h:M a=some (.lst xs))(hb:M b=some (.lst []))(q:k xs.isEmpty):wEq (.ref a) (.ref b) M k:=.inr (.inl ⟨a,b,xs,rfl,rfl,h,hb,q⟩)
theorem Zl1{k:Bool->Prop}{m:Nat}(n:eqS x y=none)(h:Alike M m x y)(le:m≤60)(q:k true):wEq x y M k:=by
 unfold wEq;rw[n];exact .inl ⟨m,le,h,q⟩
theorem Alike.flat{x:MV}(n:Nat)(f:YK x=true):Alike M n x x:=by
 cases n<;>rw[Alike]
 ·exact⟨f,rfl⟩
 ·exact .inl ⟨f,rfl⟩
theorem Alike.tup{xs ys:List MV}{n:Nat}(e:xs.length=ys.length)(h:∀(i:Nat) u v,xs[i]?=some u->ys[i]?=some v->Alike M n u v):Alike M (n+1) (.tup xs) (.tup ys):=by
 rw[Alike];exact .inr (.inl ⟨xs,ys,rfl,rfl,e,h⟩)
theorem Alike.two{a b a' b':MV}{n:Nat}(h1:Alike M n a a')(h2:Alike M n b b'):Alike M (n+1) (.tup [a,b]) (.tup [a',b']):=by
 refine .tup rfl λi u v h h'=>?_
 match i with
 |0=>cases h;cases h';exact h1
 |1=>cases h;cases h';exact h2
 |i+2=>cases h
theorem Alike.lst{x y:MV}{xs ys:List MV}{n:Nat}(h1:LstM M x xs)(h2:LstM M y ys)(e:xs.length=ys.length)(h:∀(i:Nat) u v,xs[i]?=some u->ys[i]?=some v->Alike M n u v):Alike M (n+1) x y:=by
 rw[Alike];exact .inr (.inr (.inl ⟨xs,ys,h1,h2,e,h⟩))
def ixO(o:Option MO)(y:MV)(M:MH)(Q:QM):Prop:=match o with
 |some (.lst xs)=>∃i v,y=.int i/\atI xs i=some v/\Q v M
 |some (.dic kvs)=>∃kk v,keyM y=some kk/\valM kvs kk=some v/\Q v M
 |some (.fdic _ kvs)=>∃kk v,keyM y=some kk/\valM kvs kk=some v/\Q v M
 |_=>False
theorem Kl:wIx (.ref a) y M Q=ixO (M a) y M Q:=propext ⟨λh=>by
  rcases h with⟨xs,i,v,e,r⟩|⟨kvs,kk,v,e,r⟩|⟨o,kvs,kk,v,e,r⟩
  ·rw[e];exact⟨i,v,r⟩
  ·rw[e];exact⟨kk,v,r⟩
  ·rw[e];exact⟨kk,v,r⟩,λh=>by
  cases e:M a with
  |none=>rw[e]at h;exact h.elim
  |some o=>
   rw[e]at h;cases o with
   |lst xs=>obtain⟨i,v,r⟩:=h;exact .inl ⟨xs,i,v,e,r⟩
   |dic kvs=>obtain⟨kk,v,r⟩:=h;exact .inr (.inl ⟨kvs,kk,v,e,r⟩)
   |ins _ _=>exact h.elim
   |fdic o kvs=>obtain⟨kk,v,r⟩:=h;exact .inr (.inr ⟨o,kvs,kk,v,e,r⟩)⟩
theorem Km{xs:List MV}:ixO (some (.lst xs)) (.int i) M Q=∃v,atI xs i=some v/\Q v M:=propext ⟨fun⟨_,v,e,h⟩=>by cases e;exact⟨v,h⟩,fun⟨v,h⟩=>⟨i,v,rfl,h⟩⟩
theorem ZmA{kvs:List (Key×MV)}{x:Str}:ixO (some (.dic kvs)) (.str x) M Q=∃v,valM kvs (Xy x)=some v/\Q v M:=propext ⟨fun⟨_,v,e,h⟩=>by cases e;exact⟨v,h⟩,fun⟨v,h⟩=>⟨_,v,rfl,h⟩⟩
theorem Kn{xs:List MV}:wIx (.tup xs) (.int i) M Q=∃v,atI xs i=some v/\Q v M:=propext ⟨fun⟨_,v,e,h⟩=>by cases e;exact⟨v,h⟩,fun⟨v,h⟩=>⟨i,v,rfl,h⟩⟩
theorem Zrc{xs:List MV}:wIx (.frl xs) (.int i) M Q=∃v,atI xs i=some v/\Q v M:=propext ⟨fun⟨_,v,e,h⟩=>by cases e;exact⟨v,h⟩,fun⟨v,h⟩=>⟨i,v,rfl,h⟩⟩
theorem Zrb{z:Str}:wIx (.str z) (.int i) M Q=(z.length≤sizeLine/\∃c,atI z.cps.toList i=some c/\Q (.str ⟨#[c]⟩) M):=propext ⟨fun⟨_,c,e,h1,h2⟩=>by cases e;exact⟨h1,c,h2⟩,fun⟨h1,c,h2⟩=>⟨i,c,rfl,h1,h2⟩⟩
def slO(o:Option MO)(lo hi:Option Int)(M:MH)(Q:QM):Prop:=match o with
 |some (.lst xs)=>∀p,M p=none->Q (.ref p) (updM M p (.lst (cutM xs lo hi)))
 |_=>False
theorem ZqT{lo hi:Option Int}:wSl (.ref a) lo hi M Q=slO (M a) lo hi M Q:=propext ⟨fun⟨xs,e,h⟩=>by rw[e];exact h,λh=>by
  cases e:M a with
  |none=>rw[e]at h;exact h.elim
  |some o=>
   rw[e]at h;cases o with
   |lst xs=>exact⟨xs,e,h⟩
   |dic kvs=>exact h.elim
   |ins _ _=>exact h.elim
   |fdic _ _=>exact h.elim⟩
theorem ZoK{lo hi:Option Int}{xs:List MV}:slO (some (.lst xs)) lo hi M Q=∀p,M p=none->Q (.ref p) (updM M p (.lst (cutM xs lo hi))):=rfl
theorem ZqU{lo hi:Option Int}{xs:List MV}:wSl (.frl xs) lo hi M Q=∀p,M p=none->Q (.ref p) (updM M p (.lst (cutM xs lo hi))):=rfl
theorem ZqS{lo hi:Option Int}{xs:List MV}:wSl (.tup xs) lo hi M Q=Q (.tup (cutM xs lo hi)) M:=rfl
theorem ZoT{xs:List MV}:wBi .len [.tup xs] M Q=Q (.int xs.length) M:=rfl
theorem ZoW{xs:List MV}:wBi .len [.frl xs] M Q=Q (.int xs.length) M:=rfl
theorem ZoU{z:Str}:wBi .len [.str z] M Q=(z.length≤sizeLine/\Q (.int z.length) M):=rfl
def lenO(o:Option MO)(M:MH)(Q:QM):Prop:=match o with
 |some (.lst xs)=>Q (.int xs.length) M
 |some (.dic kvs)=>Q (.int kvs.length) M
 |_=>False
theorem ZoV:wBi .len [.ref a] M Q=lenO (M a) M Q:=propext ⟨λh=>by
  rcases h with⟨xs,e,h⟩|⟨kvs,e,h⟩<;>(rw[e];exact h),λh=>by
  cases e:M a with
  |none=>rw[e]at h;exact h.elim
  |some o=>
   rw[e]at h;cases o with
   |lst xs=>exact .inl ⟨xs,e,h⟩
   |dic kvs=>exact .inr ⟨kvs,e,h⟩
   |ins _ _=>exact h.elim
   |fdic _ _=>exact h.elim⟩
theorem Zmz{xs:List MV}:lenO (some (.lst xs)) M Q=Q (.int xs.length) M:=rfl
def isO(o:Option Ty7)(c:Ty7)(M:MH)(Q:QM):Prop:=match o with
 |some T=>c≠.none/\Q (.bl (isTy T c)) M
 |none=>False
theorem Zrd{c:Ty7}:wBi .isinst [x,.ty c] M Q=isO (tyM M x) c M Q:=propext (by
 have e:wBi .isinst [x,.ty c] M Q=∃T,tyM M x=some T/\c≠.none/\Q (.bl (isTy T c)) M:=by cases x<;>rfl
 rw[e];exact⟨fun⟨T,e,h⟩=>by rw[e];exact h,λh=>by
  cases e:tyM M x with
  |none=>rw[e]at h;exact h.elim
  |some T=>rw[e]at h;exact⟨T,rfl,h⟩⟩)
def isO2(o:Option Ty7)(c d:Ty7)(M:MH)(Q:QM):Prop:=match o with
 |some T=>c≠.none/\d≠.none/\Q (.bl (isTy T c||isTy T d)) M
 |none=>False
theorem Zp0{c d:Ty7}:wBi .isinst [x,.tup [.ty c,.ty d]] M Q=isO2 (tyM M x) c d M Q:=propext (by
 have e:wBi .isinst [x,.tup [.ty c,.ty d]] M Q=∃T,tyM M x=some T/\c≠.none/\d≠.none/\Q (.bl (isTy T c||isTy T d)) M:=by cases x<;>rfl
 rw[e];exact⟨fun⟨T,e,h⟩=>by rw[e];exact h,λh=>by
  cases e:tyM M x with
  |none=>rw[e]at h;exact h.elim
  |some T=>rw[e]at h;exact⟨T,rfl,h⟩⟩)
theorem ZmB{T c d:Ty7}:isO2 (some T) c d M Q=(c≠.none/\d≠.none/\Q (.bl (isTy T c||isTy T d)) M):=rfl
theorem ZoZ{T c:Ty7}:isO (some T) c M Q=(c≠.none/\Q (.bl (isTy T c)) M):=rfl
theorem ZqG:tyM M (.int i)=some .int:=rfl
theorem ZqE{k:Str}:tyM M (.str k)=some .str:=rfl
theorem ZqD{xs:List MV}:tyM M (.tup xs)=some .tuple:=rfl
def tyO:Option MO->Option Ty7
 |some (.lst _)=>some .list
 |some (.dic _)=>some .dict
 |_=>none
theorem ZqF:tyM M (.ref a)=tyO (M a):=by
 cases e:M a with
 |none=>simp[tyM,tyO,e]
 |some o=>cases o<;>simp[tyM,tyO,e]
theorem ZoH{xs:List MV}:tyO (some (.lst xs))=some .list:=rfl
theorem Zrj:wBi .all [.ref a] M Q=∃bs:List Bool,M a=some (.lst (bs.map MV.bl))/\Q (.bl (bs.all id)) M:=rfl
theorem ZmE:wBi .dictL [.ref a] M Q=∃ps:List (Key×MV),M a=some (.lst (ps.map prM))/\∀p,M p=none->Q (.ref p) (updM M p (.dic (YR ps))):=rfl
theorem Zmx{xs:List MV}:wBi .list [.tup xs] M Q=∀p,M p=none->Q (.ref p) (updM M p (.lst xs)):=rfl
theorem Zmy:wBi .list [.ref a] M Q=∃xs,M a=some (.lst xs)/\∀p,M p=none->Q (.ref p) (updM M p (.lst xs)):=rfl
theorem ZoI:wBi .tuple [.ref a] M Q=∃xs,M a=some (.lst xs)/\Q (.tup xs) M:=rfl
theorem ZmD{xs:List MV}:wBi .dict [.tup xs] M Q=∃ps:List (Key×MV),xs=ps.map prM/\∀p,M p=none->Q (.ref p) (updM M p (.dic (YR ps))):=rfl
theorem Zp3:wBi .dict [.ref a] M Q=∃kvs,M a=some (.dic kvs)/\∀p,M p=none->Q (.ref p) (updM M p (.dic kvs)):=rfl
def apO(o:Option MO)(a:Addr)(y:MV)(M:MH)(Q:QM):Prop:=match o with
 |some (.lst xs)=>xs.length<sizeLine/\Q .non (updM M a (.lst (xs++[y])))
 |_=>False
theorem Zrh:wMts .append (.ref a) [y] M Q=apO (M a) a y M Q:=propext ⟨fun⟨xs,e,h⟩=>by rw[e];exact h,λh=>by
  cases e:M a with
  |none=>rw[e]at h;exact h.elim
  |some o=>
   rw[e]at h;cases o with
   |lst xs=>exact⟨xs,e,h⟩
   |dic kvs=>exact h.elim
   |ins _ _=>exact h.elim
   |fdic _ _=>exact h.elim⟩
theorem Zp4{xs:List MV}:apO (some (.lst xs)) a y M Q=(xs.length<sizeLine/\Q .non (updM M a (.lst (xs++[y])))):=rfl
theorem Zre:wMts .extend (.ref a) [.ref b] M Q=∃xs,M a=some (.lst xs)/\∃ys,M b=some (.lst ys)/\xs.length+ys.length≤sizeLine/\Q .non (updM M a (.lst (xs++ys))):=rfl
theorem ZoN:mtOk .append x M=(∃a xs,x=.ref a/\M a=some (.lst xs)):=rfl
theorem ZoM:mtOk .extend x M=(∃a xs,x=.ref a/\M a=some (.lst xs)):=rfl
def puO(o:Option MO)(a:Addr)(i v:MV)(M:MH)(Q:MH->Prop):Prop:=match o with
 |some (.lst xs)=>∃k j,i=.int k/\ixN xs.length k=some j/\Q (updM M a (.lst (xs.set j v)))
 |some (.dic kvs)=>∃kk,keyM i=some kk/\kvs.length<sizeLine/\Q (updM M a (.dic (putM kvs kk v)))
 |_=>False
theorem ZqZ{v:MV}{R:MH->Prop}:wPut (.ref a) x v M R=puO (M a) a x v M R:=propext ⟨λh=>by
  rcases h with⟨xs,k,j,e,r⟩|⟨kvs,kk,e,r⟩
  ·rw[e];exact⟨k,j,r⟩
  ·rw[e];exact⟨kk,r⟩,λh=>by
  cases e:M a with
  |none=>rw[e]at h;exact h.elim
  |some o=>
   rw[e]at h;cases o with
   |lst xs=>obtain⟨k,j,r⟩:=h;exact .inl ⟨xs,k,j,e,r⟩
   |dic kvs=>obtain⟨kk,r⟩:=h;exact .inr ⟨kvs,kk,e,r⟩
   |ins _ _=>exact h.elim
   |fdic _ _=>exact h.elim⟩
theorem ZoL{xs:List MV}{v:MV}{R:MH->Prop}:puO (some (.lst xs)) a (.int i) v M R=∃j,ixN xs.length i=some j/\R (updM M a (.lst (xs.set j v))):=propext ⟨fun⟨_,j,e,h⟩=>by cases e;exact⟨j,h⟩,fun⟨j,h⟩=>⟨i,j,rfl,h⟩⟩
theorem Zmw{kvs:List (Key×MV)}{z:Str}{v:MV}{R:MH->Prop}:puO (some (.dic kvs)) a (.str z) v M R=(kvs.length<sizeLine/\R (updM M a (.dic (putM kvs (Xy z) v)))):=propext ⟨fun⟨_,e,h⟩=>by cases e;exact h,λh=>⟨_,rfl,h⟩⟩
def srO(o:Option MO)(a:Addr)(M:MH)(Q:Src->MH->Prop):Prop:=match o with
 |some (.lst xs)=>Q (.lst a xs) M
 |some (.dic kvs)=>∀o,Q (.dic a o kvs) (updM M a (.fdic o kvs))
 |_=>False
def srV(v:MV)(M:MH)(Q:Src->MH->Prop):Prop:=(∃xs,(v=.tup xs\/v=.frl xs)/\Q (.tup xs) M)\/(∃a xs,v=.ref a/\M a=some (.lst xs)/\Q (.lst a xs) M)\/(∃a kvs,v=.ref a/\M a=some (.dic kvs)/\∀o,Q (.dic a o kvs) (updM M a (.fdic o kvs)))\/∃z,v=.str z/\Q (.str z) M
theorem ZqW{Φ:List (Str×SpM)}{e:IE}{σ:Sm}{R:Src->MH->Prop}:wSr Φ (.seq e) σ M R=wE Φ e σ M λv M1=>srV v M1 R:=rfl
theorem ZqR{R:Src->MH->Prop}:srV (.ref a) M R=srO (M a) a M R:=propext ⟨λh=>by
  rcases h with⟨xs,e,h⟩|⟨b,xs,e,f,h⟩|⟨b,xs,e,f,h⟩|⟨z,e,_⟩
  ·rcases e with e|e<;>cases e
  ·cases e;rw[f];exact h
  ·cases e;rw[f];exact h
  ·exact(nomatch e),λh=>by
  cases e:M a with
  |none=>rw[e]at h;exact h.elim
  |some o=>
   rw[e]at h;cases o with
   |lst xs=>exact .inr (.inl ⟨a,xs,rfl,e,h⟩)
   |dic kvs=>exact .inr (.inr (.inl ⟨a,kvs,rfl,e,h⟩))
   |ins _ _=>exact h.elim
   |fdic _ _=>exact h.elim⟩
theorem ZqQ{z:Str}{R:Src->MH->Prop}:srV (.str z) M R=R (.str z) M:=propext ⟨λh=>by
  rcases h with⟨xs,e,h⟩|⟨_,_,e,_⟩|⟨_,_,e,_⟩|⟨_,e,h⟩
  ·rcases e with e|e<;>exact(nomatch e)
  ·exact(nomatch e)
  ·exact(nomatch e)
  ·cases e;exact h,λh=>.inr (.inr (.inr ⟨z,rfl,h⟩))⟩
theorem ZqJ{xs:List MV}:Src.thaw M (.tup xs)=M:=rfl
theorem ZqI{xs:List MV}:Src.thaw M (.lst a xs)=M:=rfl
theorem ZqH{n:Nat}:Src.thaw M (.rng i n)=M:=rfl
theorem Zr3{xs:List MV}:Src.okT M (.tup xs)=True:=rfl
theorem Zr2{xs:List MV}:Src.okT M (.lst a xs)=True:=rfl
theorem Zr1{n:Nat}:Src.okT M (.rng i n)=True:=rfl
theorem ZoJ{xs:List MV}{R:Src->MH->Prop}:srO (some (.lst xs)) a M R=R (.lst a xs) M:=rfl
theorem ZqP{zs:List MV}{R:Src->MH->Prop}:srV (.tup zs) M R=R (.tup zs) M:=propext ⟨λh=>by
  rcases h with⟨xs,e,h⟩|h
  ·rcases e with e|e
   ·cases e;exact h
   ·exact nomatch e
  ·rcases h with⟨_,_,e,_⟩|⟨_,_,e,_⟩|⟨_,e,_⟩<;>exact(nomatch e),λh=>.inl ⟨zs,.inl rfl,h⟩⟩
def rgV(v:MV)(M:MH)(Q:Src->MH->Prop):Prop:=∃j,v=.int j/\ -(2^62)≤j/\j<2^62/\Q (.rng 0 j.toNat) M
theorem ZqX{Φ:List (Str×SpM)}{e:IE}{σ:Sm}{R:Src->MH->Prop}:wSr Φ (.rng e) σ M R=wE Φ e σ M λv M1=>rgV v M1 R:=rfl
theorem ZqY{R:Src->MH->Prop}:rgV (.int i) M R=(-(2^62)≤i/\i<2^62/\R (.rng 0 i.toNat) M):=propext ⟨fun⟨_,e,h⟩=>by cases e;exact h,λh=>⟨i,rfl,h⟩⟩
theorem ZoS:wBi .max [.int i,.int j] M Q=Q (.int (if j>i then j else i)) M:=rfl
theorem ZoR:wBi .min [.int i,.int j] M Q=Q (.int (if j<i then j else i)) M:=rfl
theorem Zp1{k:Bool}:wBi .int [.bl k] M Q=Q (.int (if k then 1 else 0)) M:=rfl
end
theorem v_s{v:MV}{k:MV->Prop}:onV (some (some v)) k=k v:=rfl
theorem b_0{b:Bool}{k:Bool->Prop}:onB (.bl b) k=k b:=rfl
theorem f_s{f:Str}{sp:SpM}{k:SpM->Prop}:onF (some (f,sp)) k=k sp:=rfl
theorem ZrD{Φ:List (Str×SpM)}{σ:Sm}{M:MH}{Q:QM}{i:Nat}:wE Φ (.var i) σ M Q=onV σ[i]? (λv=>Q v M):=rfl
theorem ZrK{Φ:List (Str×SpM)}{σ:Sm}{M:MH}{Q:QM}{i:Int}:wE Φ (.int i) σ M Q=(Q (.int i) M):=rfl
theorem ZrF{Φ:List (Str×SpM)}{σ:Sm}{M:MH}{Q:QM}{x:Str}:wE Φ (.str x) σ M Q=(Q (.str x) M):=rfl
theorem e_bl{Φ:List (Str×SpM)}{σ:Sm}{M:MH}{Q:QM}{b:Bool}:wE Φ (.bl b) σ M Q=(Q (.bl b) M):=rfl
theorem ZrH{Φ:List (Str×SpM)}{σ:Sm}{M:MH}{Q:QM}:wE Φ (.non) σ M Q=(Q .non M):=rfl
theorem ZrM{Φ:List (Str×SpM)}{σ:Sm}{M:MH}{Q:QM}{x:Str}{i:Int}:wE Φ (.glb x i) σ M Q=(Q (.int i) M):=rfl
theorem e_ty{Φ:List (Str×SpM)}{σ:Sm}{M:MH}{Q:QM}{c:Ty7}:wE Φ (.ty c) σ M Q=(Q (.ty c) M):=rfl
theorem ZrQ{Φ:List (Str×SpM)}{σ:Sm}{M:MH}{Q:QM}{op:Ud}{a b:IE}:wE Φ (.bin op a b) σ M Q=(wE Φ a σ M λx M1=>wE Φ b σ M1 λy M2=>wBin op x y M2 Q):=rfl
theorem ZrI{Φ:List (Str×SpM)}{σ:Sm}{M:MH}{Q:QM}{a:IE}:wE Φ (.neg a) σ M Q=(wE Φ a σ M λx M1=>∃i,x=.int i/\Q (.int (-i)) M1):=rfl
theorem ZrG{Φ:List (Str×SpM)}{σ:Sm}{M:MH}{Q:QM}{a:IE}:wE Φ (.not a) σ M Q=(wE Φ a σ M λx M1=>onB x λb=>Q (.bl (!b)) M1):=rfl
theorem ZrO{Φ:List (Str×SpM)}{σ:Sm}{M:MH}{Q:QM}{op:CmpOp}{a b:IE}:wE Φ (.cmp op a b) σ M Q=(wE Φ a σ M λx M1=>wE Φ b σ M1 λy M2=>wCmp op x y M2 Q):=rfl
theorem ZrP{Φ:List (Str×SpM)}{σ:Sm}{M:MH}{Q:QM}{op op':CmpOp}{a b c:IE}:wE Φ (.chn op op' a b c) σ M Q=(wE Φ a σ M λx M1=>wE Φ b σ M1 λy M2=>wCmp op x y M2 λz M3=>onB z λk=>(if k=true then wE Φ c σ M3 λw M4=>wCmp op' y w M4 Q else Q (.bl false) M3)):=rfl
theorem ZrR{Φ:List (Str×SpM)}{σ:Sm}{M:MH}{Q:QM}{a b:IE}:wE Φ (.and a b) σ M Q=(wE Φ a σ M λx M1=>onB x λc=>(if c=true then wE Φ b σ M1 Q else Q (.bl false) M1)):=rfl
theorem e_or{Φ:List (Str×SpM)}{σ:Sm}{M:MH}{Q:QM}{a b:IE}:wE Φ (.or a b) σ M Q=(wE Φ a σ M λx M1=>onB x λc=>(if c=true then Q (.bl true) M1 else wE Φ b σ M1 Q)):=rfl
theorem ZrL{Φ:List (Str×SpM)}{σ:Sm}{M:MH}{Q:QM}{a b c:IE}:wE Φ (.ife c a b) σ M Q=(wE Φ c σ M λx M1=>onB x λk=>(if k=true then wE Φ a σ M1 Q else wE Φ b σ M1 Q)):=rfl
theorem ZrE{Φ:List (Str×SpM)}{σ:Sm}{M:MH}{Q:QM}{es:IEs}:wE Φ (.tup es) σ M Q=(wEs Φ es σ M λvs M1=>vs.length≤sizeLine/\Q (.tup vs) M1):=rfl
theorem ZrJ{Φ:List (Str×SpM)}{σ:Sm}{M:MH}{Q:QM}{es:IEs}:wE Φ (.lst es) σ M Q=(wEs Φ es σ M λvs M1=>vs.length≤sizeLine/\∀p,M1 p=none->Q (.ref p) (updM M1 p (.lst vs))):=rfl
theorem e_ix{Φ:List (Str×SpM)}{σ:Sm}{M:MH}{Q:QM}{a b:IE}:wE Φ (.ix a b) σ M Q=(wE Φ a σ M λx M1=>wE Φ b σ M1 λy M2=>wIx x y M2 Q):=rfl
theorem e_sl{Φ:List (Str×SpM)}{σ:Sm}{M:MH}{Q:QM}{a:IE}{lo hi:IO}:wE Φ (.sl a lo hi) σ M Q=(wE Φ a σ M λx M1=>wO Φ lo σ M1 λl M2=>wO Φ hi σ M2 λh M3=>wSl x l h M3 Q):=rfl
theorem Zq6{Φ:List (Str×SpM)}{σ:Sm}{M:MH}{Q:QM}{j:Nat}{e:IE}{es:IEs}:wE Φ (.call j e es) σ M Q=(wE Φ e σ M λv M1=>wEs Φ es σ M1 λvs M2=>onF Φ[j]? λsp=>sp (v::vs) M2 Q):=rfl
theorem e_b2{Φ:List (Str×SpM)}{σ:Sm}{M:MH}{Q:QM}{f:B2}{e:IE}:wE Φ (.b2 f e) σ M Q=(wE Φ e σ M λv M1=>wB2 f v M1 Q):=rfl
theorem e_bi{Φ:List (Str×SpM)}{σ:Sm}{M:MH}{Q:QM}{f:BI}{e:IE}{es:IEs}:wE Φ (.bi f e es) σ M Q=(wE Φ e σ M λv M1=>wEs Φ es σ M1 λvs M2=>wBi f (v::vs) M2 Q):=rfl
theorem e_mt{Φ:List (Str×SpM)}{σ:Sm}{M:MH}{Q:QM}{m:MT}{o:IE}{es:IEs}:wE Φ (.mt m o es) σ M Q=(wE Φ o σ M λx M1=>mtOk m x M1/\wEs Φ es σ M1 λvs M2=>wMts m x vs M2 Q):=rfl
theorem ZrN{Φ:List (Str×SpM)}{σ:Sm}{M:MH}{Q:QM}{c f:Str}{o:IE}:wE Φ (.fld c o f) σ M Q=(wE Φ o σ M λx M1=>∃a fs v,x=.ref a/\M1 a=some (.ins c fs)/\valM fs f=some v/\Q v M1):=rfl
theorem ZnP{Φ:List (Str×SpM)}{σ:Sm}{M:MH}{Q:QM}{j:Nat}{c m:Str}{o:IE}{es:IEs}:wE Φ (.mcall j c m o es) σ M Q=(wE Φ o σ M λx M1=>∃a fs,x=.ref a/\M1 a=some (.ins c fs)/\valM fs m=none/\wEs Φ es σ M1 λvs M2=>∃f sp,Φ[j]?=some (f,sp)/\sp (.ref a::vs) M2 Q):=rfl
theorem Zq5{Φ:List (Str×SpM)}{σ:Sm}{M:MH}{Q:QM}{j:Nat}{c:Str}{e:IE}{es:IEs}:wE Φ (.make j c e es) σ M Q=(wE Φ e σ M λv M1=>wEs Φ es σ M1 λvs M2=>∃f sp,Φ[j]?=some (f,sp)/\∀p,M2 p=none->sp (.ref p::v::vs) (updM M2 p (.ins c [])) λu M3=>u=.non/\Q (.ref p) M3):=rfl
theorem Af{Φ:List (Str×SpM)}{σ:Sm}{M:MH}{Q:QM}{own:List Str}{fr:List Nat}{src:ISr}{tg:ITg}{test:IO}{elt:IE}:wE Φ (.comp own fr src tg test elt) σ M Q=(wSr Φ src σ M λS M1=>S.len<sizeLine/\∀D,M1 D=none->∃J:Nat->List MV->MH->Prop,J 0 [] (updM M1 D (.lst []))/\
   (∀i ys M2,J i ys M2->M2 D=some (.lst ys)/\ys.length≤i/\S.ok M2)/\
   (∀i x ys M2,S.items[i]?=some x->J i ys M2->wTg tg x (sCm own fr σ) λσ2=>wI Φ test σ2 M2 λb M4=>
    if b=true then wE Φ elt σ2 M4 λy M5=>M5 D=some (.lst ys)/\J (i+1) (ys++[y]) (updM M5 D (.lst (ys++[y])))else J (i+1) ys M4)/\
   ∀ys M2,J S.len ys M2->Q (.ref D) (S.thaw M2)):=rfl
theorem Ag{M M':MH}{S:Src}(h:S.okF M):S.thaw M'=M':=by
 cases S<;>first|rfl|exact h.elim
theorem U7{Φ:List (Str×SpM)}{own:List Str}{fr:List Nat}{src:ISr}{tg:ITg}{elt:IE}{σ:Sm}{M:MH}{Q:QM}{α:Type}(xs:List α)(f g:α->MV)
  (hs:wSr Φ src σ M λS M1=>S.items=xs.map f/\xs.length<sizeLine/\S.okF M1/\M1=M)
  (ht:∀x∈xs,∀M',(∀a o,M a=some o->M' a=some o)->wTg tg (f x) (sCm own fr σ) λσ2=>wE Φ elt σ2 M' λy M2=>y=g x/\M2=M')
  (hΦ:∀(j:Nat) f sp,Φ[j]?=some (f,sp)->MonW sp) (q:∀D,M D=none->Q (.ref D) (updM M D (.lst (xs.map g)))):wE Φ (.comp own fr src tg .none elt) σ M Q:=by
 rw[Af];refine mon_sr hΦ src (λS M1 ⟨h1,h2,h3,h4⟩=>?_) hs;subst h4;have hl:S.len=xs.length:=by rw[<- S.items_len,h1,Xa]
 refine⟨by rw[hl];exact h2,λD hD=>⟨λi ys M2=>M2=updM M1 D (.lst ys)/\ys=(xs.take i).map g,⟨rfl,by simp⟩,?_,?_,?_⟩⟩
 ·rintro i ys M2 ⟨rfl,rfl⟩;refine⟨X9,by rw[Xa,YM];lia,?_⟩
  cases S with
  |tup _=>trivial
  |rng _ _=>trivial
  |rst _ _ _=>trivial
  |dic _ _ _=>exact h3.elim
  |str _=>trivial
  |lst a zs=>
   have:a≠D:=by intro e;subst e;have h3:M1 a=some (.lst zs):=h3;rw[h3]at hD;cases hD
   show updM M1 D _ a=_;rw[Xc this];exact h3
 ·rintro i x ys M2 hx ⟨rfl,rfl⟩;rw[h1]at hx;have hi:i<xs.length:=by have:=(XV.mp hx).1;rw[Xa]at this;exact this
  rw[Xw,Xd hi]at hx;cases hx;refine UK tg (λσ2 h=>?_) (ht xs[i] (Y1 hi) (updM M1 D (.lst ((xs.take i).map g))) (λa o e=>by
   rw[Xc (by intro z;subst z;rw[e]at hD;cases hD)];exact e))
  rw[wI,if_pos rfl];refine X7 hΦ elt (λy M2 ⟨e1,e2⟩=>?_) h;subst e1 e2;refine⟨X9,YJ,?_⟩;rw[Ui,Xd hi,Y7]
  rfl
 ·rintro ys M2 ⟨rfl,rfl⟩;rw[hl,VC (Xi _),Ag h3];exact q D hD
theorem Zjo{Φ:List (Str×SpM)}{own:List Str}{fr:List Nat}{src:ISr}{tg:ITg}{elt:IE}{σ:Sm}{M:MH}{Q:QM}{α:Type}(xs:List α)(f g:α->MV)
  (hs:wSr Φ src σ M λS M1=>S.items=xs.map f/\xs.length<sizeLine/\S.okF M1/\∀a o,M a=some o->M1 a=some o)
  (ht:∀x∈xs,∀M',(∀a o,M a=some o->M' a=some o)->wTg tg (f x) (sCm own fr σ) λσ2=>wE Φ elt σ2 M' λy M2=>y=g x/\∀a o,M' a=some o->M2 a=some o)
  (hΦ:∀(j:Nat) f sp,Φ[j]?=some (f,sp)->MonW sp) (q:∀D M',M D=none->(∀a o,M a=some o->M' a=some o)->M' D=some (.lst (xs.map g))->Q (.ref D) M'):wE Φ (.comp own fr src tg .none elt) σ M Q:=by
 rw[Af];refine mon_sr hΦ src (λS M1 ⟨h1,h2,h3,h4⟩=>?_) hs;have hl:S.len=xs.length:=by rw[<- S.items_len,h1,Xa]
 have fre:∀D,M1 D=none->M D=none:=λD hD=>by
  cases e:M D with
  |none=>rfl
  |some o=>rw[h4 _ _ e]at hD;cases hD
 have ne:∀{a D:Addr} {o:MO},M1 a=some o->M1 D=none->a≠D:=λh h' z=>by subst z;rw[h]at h';cases h'
 refine⟨by rw[hl];exact h2,λD hD=>⟨λi ys M2=>(∀a o,M1 a=some o->M2 a=some o)/\M2 D=some (.lst ys)/\ys=(xs.take i).map g,⟨λa o e=>by rw[Xc (ne e hD)];exact e,X9,by simp⟩,?_,?_,?_⟩⟩
 ·rintro i ys M2 ⟨s2,d2,rfl⟩;refine⟨d2,by rw[Xa,YM];lia,?_⟩
  cases S with
  |tup _=>trivial
  |rng _ _=>trivial
  |rst _ _ _=>trivial
  |dic _ _ _=>exact h3.elim
  |str _=>trivial
  |lst a zs=>exact s2 _ _ h3
 ·rintro i x ys M2 hx ⟨s2,d2,rfl⟩;rw[h1]at hx;have hi:i<xs.length:=by have:=(XV.mp hx).1;rw[Xa]at this;exact this
  rw[Xw,Xd hi]at hx;cases hx;refine UK tg (λσ2 h=>?_) (ht xs[i] (Y1 hi) M2 (λa o e=>s2 _ _ (h4 _ _ e)));rw[wI,if_pos rfl];refine X7 hΦ elt (λy M3 ⟨e1,e2⟩=>?_) h;subst e1;refine⟨e2 _ _ d2,λa o e=>by rw[Xc (ne e hD)];exact e2 _ _ (s2 _ _ e),X9,?_⟩
  rw[Ui,Xd hi,Y7]
  rfl
 ·rintro ys M2 ⟨s2,d2,rfl⟩;rw[hl,VC (Xi _)]at d2;rw[Ag h3];exact q D M2 (fre D hD) (λa o e=>s2 _ _ (h4 _ _ e)) d2
theorem ZqN{i:Nat}{v:MV}{σ:Sm}{R:Sm->Prop}:wTg (.nm i) v σ R=R (σ.set i (some v)):=rfl
theorem ZqK{ts:ITgs}{xs:List MV}{σ:Sm}{R:Sm->Prop}:wTg (.tup ts) (.tup xs) σ R=wTgs ts xs σ R:=by
 exact propext ⟨fun⟨_,e,h⟩=>by cases e;exact h,λh=>⟨_,rfl,h⟩⟩
theorem ZqM{t:ITg}{ts:ITgs}{v:MV}{r:List MV}{σ:Sm}{R:Sm->Prop}:wTgs (.cons t ts) (v::r) σ R=wTg t v σ λσ'=>wTgs ts r σ' R:=by
 exact propext ⟨fun⟨_,_,e,h⟩=>by cases e;exact h,λh=>⟨_,_,rfl,h⟩⟩
theorem ZqL{σ:Sm}{R:Sm->Prop}:wTgs .nil [] σ R=R σ:=propext ⟨λh=>h.2,λh=>⟨rfl,h⟩⟩
section
variable{M:MH}
theorem Alike.lstFlat{x y:MV}{xs:List MV}(n:Nat)(h1:LstM M x xs)(h2:LstM M y xs)(f:∀v∈xs,YK v=true):Alike M (n+1) x y:=
 .lst h1 h2 rfl λi u v e e'=>by
  rw[e]at e';cases e';exact .flat n (f u (XE e))
end
section
variable{Φ:List (Str×SpM)}{D:EndM}{σ:Sm}{M:MH}
theorem Zqv:wSs Φ .nil D σ M=D.nx σ M:=rfl
theorem ZoB{s:IS}{r:ISs}:wSs Φ (.cons s r) D σ M=wS Φ s {nx:=λσ M=>wSs Φ r D σ M,rt:=D.rt,bk:=D.bk,ct:=D.ct} σ M:=rfl
theorem Zqt{e:IE}:wS Φ (.ret e) D σ M=wE Φ e σ M D.rt:=rfl
theorem Zqs{i:Nat}{e:IE}:wS Φ (.set i e) D σ M=wE Φ e σ M λv M1=>D.nx (σ.set i (some v)) M1:=rfl
theorem Zqy{t:ITgs}{e:IE}:wS Φ (.asg t e) D σ M=wE Φ e σ M λv M1=>∃xs,v=.tup xs/\wTgs t xs σ λσ'=>D.nx σ' M1:=rfl
theorem Zqu{o i e:IE}:wS Φ (.put o i e) D σ M=wE Φ e σ M λv M1=>wE Φ o σ M1 λx M2=>wE Φ i σ M2 λy M3=>wPut x y v M3 λM4=>D.nx σ M4:=rfl
theorem Zoz{c f:Str}{o e:IE}:wS Φ (.fset c o f e) D σ M=wE Φ e σ M λv M1=>wE Φ o σ M1 λx M2=>∃a fs,x=.ref a/\M2 a=some (.ins c fs)/\fs.length<1000/\D.nx σ (updM M2 a (.ins c (putM fs f v))):=rfl
theorem ZoA{e:IE}:wS Φ (.expr e) D σ M=wE Φ e σ M λ_ M1=>D.nx σ M1:=rfl
theorem Zqw{c:IE}{a b:ISs}:wS Φ (.ite c a b) D σ M=wE Φ c σ M λx M1=>onB x λk=>(if k=true then wSs Φ a D σ M1 else wSs Φ b D σ M1):=rfl
theorem Zqx{t:ITg}{s:ISr}{b:ISs}:wS Φ (.for_ t s b) D σ M=wSr Φ s σ M λS M1=>∃J:Nat->Sm->MH->Prop,J 0 σ M1/\(∀i σ M,J i σ M->S.ok M)/\
   (∀i x σ M,S.items[i]?=some x->J i σ M->wTg t x σ λσ2=>wSs Φ b {nx:=J (i+1),rt:=λv M=>S.okT M/\D.rt v (S.thaw M),bk:=λσ M=>S.okT M/\D.nx σ (S.thaw M),ct:=J (i+1)} σ2 M)/\∀σ M,J S.len σ M->D.nx σ (S.thaw M):=rfl
theorem Zms{c:IE}{b:ISs}:wS Φ (.while_ c b) D σ M=∃J:Nat->Sm->MH->Prop,(∃m,J m σ M)/\∀m σ M,J m σ M->wE Φ c σ M λx M1=>∃k,x=.bl k/\
   (if k=true then wSs Φ b {nx:=λσ' M'=>∃m',m'<m/\J m' σ' M',rt:=D.rt,bk:=D.nx,ct:=λσ' M'=>∃m',m'<m/\J m' σ' M'} σ M1 else D.nx σ M1):=rfl
theorem ZpA{Q:Option Int->MH->Prop}:wO Φ .none σ M Q=Q none M:=rfl
theorem Zpz{e:IE}{Q:Option Int->MH->Prop}:wO Φ (.some e) σ M Q=wE Φ e σ M λv M1=>∃i,v=.int i/\Q (some i) M1:=rfl
theorem Zq4{Q:List MV->MH->Prop}:wEs Φ .nil σ M Q=Q [] M:=rfl
theorem ZnO{e:IE}{es:IEs}{Q:List MV->MH->Prop}:wEs Φ (.cons e es) σ M Q=wE Φ e σ M λv M1=>wEs Φ es σ M1 λvs M2=>Q (v::vs) M2:=rfl
end
section
variable{Φ:List (Str×SpM)}{σ σ':Sm}{M M':MH}{Q:QM}{x x' y y' z z':MV}{o o':Option MO}{vs vs':List MV}
end
end L2
namespace My
open PySem L2
def top(i:Nat):Stmt:=PySem.Challenge.pw_bellferry_k54_whole_what_is_given_is_tak.main.body.getD i (.Pass ⟨0,0,0,0⟩)
abbrev Ah:Stmt:=top 13
abbrev Ai:Stmt:=top 14
abbrev Aj:Stmt:=top 15
abbrev Ak:Stmt:=top 16
abbrev Al:Stmt:=top 17
abbrev Am:Stmt:=top 18
abbrev An:Stmt:=top 20
abbrev Ao:Stmt:=top 21
abbrev Ap:Stmt:=top 23
abbrev Aq:Stmt:=top 24
abbrev Ar:Stmt:=top 25
abbrev As:Stmt:=top 26
abbrev At:Stmt:=top 27
abbrev Au:Stmt:=top 28
abbrev Zk:Stmt:=Z2 (top 30) 0
abbrev Zl:Stmt:=Z2 (top 30) 1
abbrev Zm:Stmt:=Z2 (top 30) 2
abbrev Zn:Stmt:=Z2 (top 30) 3
abbrev Zo:Stmt:=Z2 (top 30) 4
abbrev Zp:Stmt:=Z2 (top 31) 0
abbrev Zq:Stmt:=Z2 (top 31) 1
abbrev Zr:Stmt:=Z2 (top 31) 2
abbrev Av:Stmt:=top 33
abbrev Aw:Stmt:=top 34
abbrev Ax:Stmt:=top 35
abbrev Ay:Stmt:=top 36
abbrev Az:Stmt:=top 37
abbrev AA:Stmt:=top 38
abbrev AB:Stmt:=top 40
abbrev AC:Stmt:=top 41
abbrev AD:Stmt:=top 42
abbrev AE:Stmt:=top 43
abbrev AF:Stmt:=top 54
abbrev AG:Stmt:=top 55
abbrev AH:Stmt:=top 56
abbrev AI:Stmt:=top 57
abbrev AJ:Stmt:=top 58
abbrev AK:Stmt:=top 59
abbrev AL:Stmt:=top 60
abbrev AM:Stmt:=top 61
abbrev AN:Stmt:=top 62
abbrev AO:Stmt:=top 63
abbrev AQ:Stmt:=top 64
abbrev AR:Stmt:=top 65
abbrev AS:Stmt:=top 66
abbrev AT:Stmt:=top 67
abbrev AU:Stmt:=top 68
abbrev AV:Stmt:=top 69
abbrev AW:Stmt:=top 72
abbrev AX:Stmt:=top 73
abbrev AY:Stmt:=top 74
abbrev Zs:Stmt:=Z2 (top 75) 0
abbrev Zt:Stmt:=Z2 (top 75) 1
abbrev Zu:Stmt:=Z2 (top 75) 2
abbrev Zv:Stmt:=Z2 (top 75) 3
abbrev Zw:Stmt:=Z2 (top 75) 7
abbrev Zx:Stmt:=Z2 (top 75) 8
abbrev AZ:Stmt:=top 77
abbrev B0:Stmt:=top 78
abbrev B1:Stmt:=top 79
abbrev B3:Stmt:=top 80
abbrev B4:Stmt:=top 81
abbrev B5:Stmt:=top 82
abbrev B6:Stmt:=top 83
abbrev B7:Stmt:=top 84
abbrev B8:Stmt:=top 85
set_option genInjectivity false in
set_option genSizeOf false in
structure Adr where
 f_is_whole:Addr
 d_is_whole:Xf
 f_is_width:Addr
 d_is_width:Xf
 f_two_to:Addr
 d_two_to:Xf
 f_fits:Addr
 d_fits:Xf
 f_cut:Addr
 d_cut:Xf
 f_amid:Addr
 d_amid:Xf
 f_code_of:Addr
 d_code_of:Xf
 f_number_of:Addr
 d_number_of:Xf
 f_first_sign:Addr
 d_first_sign:Xf
 f_shown:Addr
 d_shown:Xf
 f_first_sight:Addr
 d_first_sight:Xf
 f_sampled:Addr
 d_sampled:Xf
 f_moved:Addr
 d_moved:Xf
 f_used:Addr
 d_used:Xf
 f_Side___init__:Addr
 d_Side___init__:Xf
 f_Side_ring_ahead:Addr
 d_Side_ring_ahead:Xf
 f_Side_less_the_seen:Addr
 d_Side_less_the_seen:Xf
 f_Side_grow:Addr
 d_Side_grow:Xf
 f_Side_show_and_see:Addr
 d_Side_show_and_see:Xf
 f_Ferry___init__:Addr
 d_Ferry___init__:Xf
 f_Ferry_ring_giver:Addr
 d_Ferry_ring_giver:Xf
 f_Ferry_ring_taker:Addr
 d_Ferry_ring_taker:Xf
 f_parts_within:Addr
 d_parts_within:Xf
 f_size_of:Addr
 d_size_of:Xf
 f_names_read:Addr
 d_names_read:Xf
 f_vars_in:Addr
 d_vars_in:Xf
 f_worth_of_two:Addr
 d_worth_of_two:Xf
 f_worth:Addr
 d_worth:Xf
 f_wish:Addr
 d_wish:Xf
 f_number_after:Addr
 d_number_after:Xf
 f_words_after:Addr
 d_words_after:Xf
 f_after:Addr
 d_after:Xf
 f_is_name:Addr
 d_is_name:Xf
 f_refuse_name:Addr
 d_refuse_name:Xf
 f_refuse_unknown:Addr
 d_refuse_unknown:Xf
 f_refuse_ferry_names:Addr
 d_refuse_ferry_names:Xf
 f_refuse_variables:Addr
 d_refuse_variables:Xf
 f_refuse_term:Addr
 d_refuse_term:Xf
 f_refuse_step:Addr
 d_refuse_step:Xf
 f_refuse_island:Addr
 d_refuse_island:Xf
 f_refuse_islands:Addr
 d_refuse_islands:Xf
 f_refuse_ferry:Addr
 d_refuse_ferry:Xf
 f_refuse_wrong_end:Addr
 d_refuse_wrong_end:Xf
 f_refuse_wrong_ends:Addr
 d_refuse_wrong_ends:Xf
 f_frozen:Addr
 d_frozen:Xf
 f_made:Addr
 d_made:Xf
 f_one_called:Addr
 d_one_called:Xf
 f_island_of:Addr
 d_island_of:Xf
 f_what_alone:Addr
 d_what_alone:Xf
 f_is_wish_of:Addr
 d_is_wish_of:Xf
 f_looked_up:Addr
 d_looked_up:Xf
 f_Run___init__:Addr
 d_Run___init__:Xf
 f_Run_ring:Addr
 d_Run_ring:Xf
 f_Run_ring_ferry:Addr
 d_Run_ring_ferry:Xf
 f_Run_go_on:Addr
 d_Run_go_on:Xf
 f_Run_given:Addr
 d_Run_given:Xf
 f_Run_taken:Addr
 d_Run_taken:Xf
 f__law_cell_at:Addr
 d__law_cell_at:Xf
 f__law_whole:Addr
 d__law_whole:Xf
 f__law_name:Addr
 d__law_name:Xf
 f__law_term:Addr
 d__law_term:Xf
 f__law_step:Addr
 d__law_step:Xf
 f__law_island:Addr
 d__law_island:Xf
 f__law_things:Addr
 d__law_things:Xf
 f__law_rings:Addr
 d__law_rings:Xf
 f_law:Addr
 d_law:Xf
 C_Side:Addr
 C_Ferry:Addr
 C_Run:Addr
structure Txt (K:X5) (mg:Str->Option X0) (t:Adr):Prop where
 q_is_whole:FnT K mg "is_whole" ["value"] Ah t.f_is_whole t.d_is_whole
 q_is_width:FnT K mg "is_width" ["number"] Ai t.f_is_width t.d_is_width
 q_two_to:FnT K mg "two_to" ["exponent"] Aj t.f_two_to t.d_two_to
 q_fits:FnT K mg "fits" ["width","number"] Ak t.f_fits t.d_fits
 q_cut:FnT K mg "cut" ["width","number"] Al t.f_cut t.d_cut
 q_amid:FnT K mg "amid" ["old","new","choice"] Am t.f_amid t.d_amid
 q_code_of:FnT K mg "code_of" ["n"] An t.f_code_of t.d_code_of
 q_number_of:FnT K mg "number_of" ["word"] Ao t.f_number_of t.d_number_of
 q_first_sign:FnT K mg "first_sign" ["word"] Ap t.f_first_sign t.d_first_sign
 q_shown:FnT K mg "shown" ["sign","word","moment"] Aq t.f_shown t.d_shown
 q_first_sight:FnT K mg "first_sight" ["word","stages"] Ar t.f_first_sight t.d_first_sight
 q_sampled:FnT K mg "sampled" ["sign","since","choice"] As t.f_sampled t.d_sampled
 q_moved:FnT K mg "moved" ["sight","word"] At t.f_moved t.d_moved
 q_used:FnT K mg "used" ["sight"] Au t.f_used t.d_used
 F_Side___init__:Fun K "__init__" "Side.__init__" Zk t.f_Side___init__ t.d_Side___init__
 b_Side___init__:Binds K t.d_Side___init__ ["self","turn","stages"] []
 m_Side___init__:Meth K t.C_Side "__init__" t.f_Side___init__
 F_Side_ring_ahead:Fun K "ring_ahead" "Side.ring_ahead" Zl t.f_Side_ring_ahead t.d_Side_ring_ahead
 b_Side_ring_ahead:Binds K t.d_Side_ring_ahead ["self"] []
 m_Side_ring_ahead:Meth K t.C_Side "ring_ahead" t.f_Side_ring_ahead
 F_Side_less_the_seen:Fun K "less_the_seen" "Side.less_the_seen" Zm t.f_Side_less_the_seen t.d_Side_less_the_seen
 b_Side_less_the_seen:Binds K t.d_Side_less_the_seen ["self"] []
 m_Side_less_the_seen:Meth K t.C_Side "less_the_seen" t.f_Side_less_the_seen
 F_Side_grow:Fun K "grow" "Side.grow" Zn t.f_Side_grow t.d_Side_grow
 b_Side_grow:Binds K t.d_Side_grow ["self"] []
 m_Side_grow:Meth K t.C_Side "grow" t.f_Side_grow
 F_Side_show_and_see:Fun K "show_and_see" "Side.show_and_see" Zo t.f_Side_show_and_see t.d_Side_show_and_see
 b_Side_show_and_see:Binds K t.d_Side_show_and_see ["self","moment","choice","other_sign"] []
 m_Side_show_and_see:Meth K t.C_Side "show_and_see" t.f_Side_show_and_see
 F_Ferry___init__:Fun K "__init__" "Ferry.__init__" Zp t.f_Ferry___init__ t.d_Ferry___init__
 b_Ferry___init__:Binds K t.d_Ferry___init__ ["self","k","stages"] []
 m_Ferry___init__:Meth K t.C_Ferry "__init__" t.f_Ferry___init__
 F_Ferry_ring_giver:Fun K "ring_giver" "Ferry.ring_giver" Zq t.f_Ferry_ring_giver t.d_Ferry_ring_giver
 b_Ferry_ring_giver:Binds K t.d_Ferry_ring_giver ["self","moment","choice","word"] []
 m_Ferry_ring_giver:Meth K t.C_Ferry "ring_giver" t.f_Ferry_ring_giver
 F_Ferry_ring_taker:Fun K "ring_taker" "Ferry.ring_taker" Zr t.f_Ferry_ring_taker t.d_Ferry_ring_taker
 b_Ferry_ring_taker:Binds K t.d_Ferry_ring_taker ["self","moment","choice","wished"] []
 m_Ferry_ring_taker:Meth K t.C_Ferry "ring_taker" t.f_Ferry_ring_taker
 q_parts_within:FnT K mg "parts_within" ["T"] Av t.f_parts_within t.d_parts_within
 q_size_of:FnT K mg "size_of" ["T"] Aw t.f_size_of t.d_size_of
 q_names_read:FnT K mg "names_read" ["T"] Ax t.f_names_read t.d_names_read
 q_vars_in:FnT K mg "vars_in" ["T"] Ay t.f_vars_in t.d_vars_in
 q_worth_of_two:FnT K mg "worth_of_two" ["form","left","right","width"] Az t.f_worth_of_two t.d_worth_of_two
 q_worth:FnT K mg "worth" ["T","width","words"] AA t.f_worth t.d_worth
 q_wish:FnT K mg "wish" ["width","steps","number","words"] AB t.f_wish t.d_wish
 q_number_after:FnT K mg "number_after" ["width","steps","number","words"] AC t.f_number_after t.d_number_after
 q_words_after:FnT K mg "words_after" ["width","step","words","word"] AD t.f_words_after t.d_words_after
 q_after:FnT K mg "after" ["width","steps","number","words","word"] AE t.f_after t.d_after
 q_is_name:FnT K mg "is_name" ["text"] AF t.f_is_name t.d_is_name
 q_refuse_name:FnT K mg "refuse_name" ["text","earlier"] AG t.f_refuse_name t.d_refuse_name
 q_refuse_unknown:FnT K mg "refuse_unknown" ["name","known"] AH t.f_refuse_unknown t.d_refuse_unknown
 q_refuse_ferry_names:FnT K mg "refuse_ferry_names" ["ferries"] AI t.f_refuse_ferry_names t.d_refuse_ferry_names
 q_refuse_variables:FnT K mg "refuse_variables" ["width","pairs"] AJ t.f_refuse_variables t.d_refuse_variables
 q_refuse_term:FnT K mg "refuse_term" ["T","known"] AK t.f_refuse_term t.d_refuse_term
 q_refuse_step:FnT K mg "refuse_step" ["step","known","count","ferry_names"] AL t.f_refuse_step t.d_refuse_step
 q_refuse_island:FnT K mg "refuse_island" ["width","island","ferry_names"] AM t.f_refuse_island t.d_refuse_island
 q_refuse_islands:FnT K mg "refuse_islands" ["width","islands","ferry_names"] AN t.f_refuse_islands t.d_refuse_islands
 q_refuse_ferry:FnT K mg "refuse_ferry" ["ferry","island_names"] AO t.f_refuse_ferry t.d_refuse_ferry
 q_refuse_wrong_end:FnT K mg "refuse_wrong_end" ["name","step","givers","takers"] AQ t.f_refuse_wrong_end t.d_refuse_wrong_end
 q_refuse_wrong_ends:FnT K mg "refuse_wrong_ends" ["islands","ferries"] AR t.f_refuse_wrong_ends t.d_refuse_wrong_ends
 q_frozen:FnT K mg "frozen" ["value"] AS t.f_frozen t.d_frozen
 q_made:FnT K mg "made" ["width","islands","ferries"] AT t.f_made t.d_made
 q_one_called:FnT K mg "one_called" ["row","name"] AU t.f_one_called t.d_one_called
 q_island_of:FnT K mg "island_of" ["world","name"] AV t.f_island_of t.d_island_of
 q_what_alone:FnT K mg "what_alone" ["asked"] AW t.f_what_alone t.d_what_alone
 q_is_wish_of:FnT K mg "is_wish_of" ["asked","ferry_name"] AX t.f_is_wish_of t.d_is_wish_of
 q_looked_up:FnT K mg "looked_up" ["named","name"] AY t.f_looked_up t.d_looked_up
 F_Run___init__:Fun K "__init__" "Run.__init__" Zs t.f_Run___init__ t.d_Run___init__
 b_Run___init__:Binds K t.d_Run___init__ ["self","world"] []
 m_Run___init__:Meth K t.C_Run "__init__" t.f_Run___init__
 F_Run_ring:Fun K "ring" "Run.ring" Zt t.f_Run_ring t.d_Run_ring
 b_Run_ring:Binds K t.d_Run_ring ["self","name","choice"] []
 m_Run_ring:Meth K t.C_Run "ring" t.f_Run_ring
 F_Run_ring_ferry:Fun K "ring_ferry" "Run.ring_ferry" Zu t.f_Run_ring_ferry t.d_Run_ring_ferry
 b_Run_ring_ferry:Binds K t.d_Run_ring_ferry ["self","ferry","name","choice","asked"] []
 m_Run_ring_ferry:Meth K t.C_Run "ring_ferry" t.f_Run_ring_ferry
 F_Run_go_on:Fun K "go_on" "Run.go_on" Zv t.f_Run_go_on t.d_Run_go_on
 b_Run_go_on:Binds K t.d_Run_go_on ["self","name","steps","word"] []
 m_Run_go_on:Meth K t.C_Run "go_on" t.f_Run_go_on
 F_Run_given:Fun K "given" "Run.given" Zw t.f_Run_given t.d_Run_given
 b_Run_given:Binds K t.d_Run_given ["self","name"] []
 m_Run_given:Meth K t.C_Run "given" t.f_Run_given
 F_Run_taken:Fun K "taken" "Run.taken" Zx t.f_Run_taken t.d_Run_taken
 b_Run_taken:Binds K t.d_Run_taken ["self","name"] []
 m_Run_taken:Meth K t.C_Run "taken" t.f_Run_taken
 q__law_cell_at:FnT K mg "_law_cell_at" ["script","k"] AZ t.f__law_cell_at t.d__law_cell_at
 q__law_whole:FnT K mg "_law_whole" ["found"] B0 t.f__law_whole t.d__law_whole
 q__law_name:FnT K mg "_law_name" ["number","k"] B1 t.f__law_name t.d__law_name
 q__law_term:FnT K mg "_law_term" ["number","names"] B3 t.f__law_term t.d__law_term
 q__law_step:FnT K mg "_law_step" ["number","name","names","ferries","many"] B4 t.f__law_step t.d__law_step
 q__law_island:FnT K mg "_law_island" ["number","k","naming","ferries","around"] B5 t.f__law_island t.d__law_island
 q__law_things:FnT K mg "_law_things" ["script","around"] B6 t.f__law_things t.d__law_things
 q__law_rings:FnT K mg "_law_rings" ["cells","islands"] B7 t.f__law_rings t.d__law_rings
 q_law:FnT K mg "law" ["script"] B8 t.f_law t.d_law
 n_Side:XF K Xv "Side"=some (some (.ref t.C_Side))
 m_Side:mg "Side"=some (.ref t.C_Side)
 l_Side:Cls K t.C_Side
 k_Side:Mk K t.C_Side t.f_Side___init__
 a_Side_turn:NoAttr K t.C_Side "turn"
 a_Side_total:NoAttr K t.C_Side "total"
 a_Side_sign:NoAttr K t.C_Side "sign"
 a_Side_sight:NoAttr K t.C_Side "sight"
 n_Ferry:XF K Xv "Ferry"=some (some (.ref t.C_Ferry))
 m_Ferry:mg "Ferry"=some (.ref t.C_Ferry)
 l_Ferry:Cls K t.C_Ferry
 k_Ferry:Mk K t.C_Ferry t.f_Ferry___init__
 a_Ferry_places:NoAttr K t.C_Ferry "places"
 a_Ferry_giver:NoAttr K t.C_Ferry "giver"
 a_Ferry_taker:NoAttr K t.C_Ferry "taker"
 n_Run:XF K Xv "Run"=some (some (.ref t.C_Run))
 m_Run:mg "Run"=some (.ref t.C_Run)
 l_Run:Cls K t.C_Run
 k_Run:Mk K t.C_Run t.f_Run___init__
 a_Run_world:NoAttr K t.C_Run "world"
 a_Run_moment:NoAttr K t.C_Run "moment"
 a_Run_next_numbers:NoAttr K t.C_Run "next_numbers"
 a_Run_words_now:NoAttr K t.C_Run "words_now"
 a_Run_steps_so_far:NoAttr K t.C_Run "steps_so_far"
 a_Run_boats:NoAttr K t.C_Run "boats"
 a_Run_given_so_far:NoAttr K t.C_Run "given_so_far"
 a_Run_taken_so_far:NoAttr K t.C_Run "taken_so_far"
 z_all:mg "all"=none
 z_bool:mg "bool"=none
 z_dict:mg "dict"=none
 z_int:mg "int"=none
 z_isinstance:mg "isinstance"=none
 z_len:mg "len"=none
 z_list:mg "list"=none
 z_max:mg "max"=none
 z_min:mg "min"=none
 z_range:mg "range"=none
 z_set:mg "set"=none
 z_sorted:mg "sorted"=none
 z_tuple:mg "tuple"=none
 c_MOST_WIDTH:∃tk,mg "MOST_WIDTH"=some (.int 64 tk)
 c_MOST_LETTERS:∃tk,mg "MOST_LETTERS"=some (.int 8 tk)
 c_MOST_ISLANDS:∃tk,mg "MOST_ISLANDS"=some (.int 5 tk)
 c_MOST_FERRIES:∃tk,mg "MOST_FERRIES"=some (.int 6 tk)
 c_MOST_VARS:∃tk,mg "MOST_VARS"=some (.int 6 tk)
 c_MOST_STEPS:∃tk,mg "MOST_STEPS"=some (.int 12 tk)
 c_MOST_PARTS:∃tk,mg "MOST_PARTS"=some (.int 30 tk)
 c_MOST_DEPTH:∃tk,mg "MOST_DEPTH"=some (.int 8 tk)
 c_MOST_K:∃tk,mg "MOST_K"=some (.int 3 tk)
 c_MOST_STAGES:∃tk,mg "MOST_STAGES"=some (.int 3 tk)
 c_BITS_A_FERRY:∃tk,mg "BITS_A_FERRY"=some (.int 8 tk)
theorem Zfr:FnScope ["value"] ["value"] (X4 Ah):=mkSc
theorem Zfq:FnScope ["number"] ["number"] (X4 Ai):=mkSc
theorem Zi8:FnScope ["exponent","answer","k"] ["exponent"] (X4 Aj):=mkSc
theorem Zmq:FnScope ["width","number"] ["width","number"] (X4 Ak):=mkSc
theorem Zoy:FnScope ["width","number"] ["width","number"] (X4 Al):=mkSc
theorem Zmr:FnScope ["old","new","choice"] ["old","new","choice"] (X4 Am):=mkSc
theorem Zh4:FnScope ["n"] ["n"] (X4 An):=mkSc
theorem ZdZ:FnScope ["word","n","above"] ["word"] (X4 Ao):=mkSc
theorem Zdc:FnScope ["word"] ["word"] (X4 Ap):=mkSc
theorem Zkc:FnScope ["sign","word","moment"] ["sign","word","moment"] (X4 Aq):=mkSc
theorem ZbZ:FnScope ["word","stages"] ["word","stages"] (X4 Ar):=mkSc
theorem Zh2:FnScope ["sign","since","choice"] ["sign","since","choice"] (X4 As):=mkSc
theorem Zkd:FnScope ["sight","word"] ["sight","word"] (X4 At):=mkSc
theorem Zmo:FnScope ["sight"] ["sight"] (X4 Au):=mkSc
theorem Zal:FnScope ["self","turn","stages"] ["self","turn","stages"] (X4 Zk):=mkSc
theorem Z87:FnScope ["self"] ["self"] (X4 Zl):=mkSc
theorem Z5t:FnScope ["self"] ["self"] (X4 Zm):=mkSc
theorem Ze6:FnScope ["self"] ["self"] (X4 Zn):=mkSc
theorem Z6M:FnScope ["self","moment","choice","other_sign","seen"] ["self","moment","choice","other_sign"] (X4 Zo):=mkSc
theorem Z8X:FnScope ["self","k","stages"] ["self","k","stages"] (X4 Zp):=mkSc
theorem Z7L:FnScope ["self","moment","choice","word","words","gives"] ["self","moment","choice","word"] (X4 Zq):=mkSc
theorem Z7K:FnScope ["self","moment","choice","wished","word","place"] ["self","moment","choice","wished"] (X4 Zr):=mkSc
theorem ZaP:FnScope ["T"] ["T"] (X4 Av):=mkSc
theorem Zh1:FnScope ["T","parts","deepest","part","size"] ["T"] (X4 Aw):=mkSc
theorem Zda:FnScope ["T","names","part"] ["T"] (X4 Ax):=mkSc
theorem Zh0:FnScope ["T"] ["T"] (X4 Ay):=mkSc
theorem ZaN:FnScope ["form","left","right","width"] ["form","left","right","width"] (X4 Az):=mkSc
theorem Zkb:FnScope ["T","width","words","first"] ["T","width","words"] (X4 AA):=mkSc
theorem Zmn:FnScope ["width","steps","number","words","step"] ["width","steps","number","words"] (X4 AB):=mkSc
theorem ZaQ:FnScope ["width","steps","number","words","step"] ["width","steps","number","words"] (X4 AC):=mkSc
theorem ZbV:FnScope ["width","step","words","word","behind"] ["width","step","words","word"] (X4 AD):=mkSc
theorem Zke:FnScope ["width","steps","number","words","word"] ["width","steps","number","words","word"] (X4 AE):=mkSc
theorem Zh3:FnScope ["text"] ["text"] (X4 AF):=mkSc
theorem ZbY:FnScope ["text","earlier"] ["text","earlier"] (X4 AG):=mkSc
theorem Ko:FnScope ["name","known"] ["name","known"] (X4 AH):=mkSc
theorem Z5s:FnScope ["ferries","earlier","ferry"] ["ferries"] (X4 AI):=mkSc
theorem Z7J:FnScope ["width","pairs","earlier","pair","name"] ["width","pairs"] (X4 AJ):=mkSc
theorem ZbW:FnScope ["T","known","size","name"] ["T","known"] (X4 AK):=mkSc
theorem ZbX:FnScope ["step","known","count","ferry_names"] ["step","known","count","ferry_names"] (X4 AL):=mkSc
theorem Zak:FnScope ["width","island","ferry_names","known","step"] ["width","island","ferry_names"] (X4 AM):=mkSc
theorem Z8V:FnScope ["width","islands","ferry_names","earlier","island"] ["width","islands","ferry_names"] (X4 AN):=mkSc
theorem ZaO:FnScope ["ferry","island_names"] ["ferry","island_names"] (X4 AO):=mkSc
theorem Z7I:FnScope ["name","step","givers","takers"] ["name","step","givers","takers"] (X4 AQ):=mkSc
theorem Z6L:FnScope ["islands","ferries","givers","takers","island","step"] ["islands","ferries"] (X4 AR):=mkSc
theorem Kq:FnScope ["value"] ["value"] (X4 AS):=mkSc
theorem Zmp:FnScope ["width","islands","ferries","island_names","ferry"] ["width","islands","ferries"] (X4 AT):=mkSc
theorem Zd9:FnScope ["row","name","one"] ["row","name"] (X4 AU):=mkSc
theorem Ze1:FnScope ["world","name"] ["world","name"] (X4 AV):=mkSc
theorem Zd8:FnScope ["asked"] ["asked"] (X4 AW):=mkSc
theorem Zdb:FnScope ["asked","ferry_name"] ["asked","ferry_name"] (X4 AX):=mkSc
theorem Ze0:FnScope ["named","name"] ["named","name"] (X4 AY):=mkSc
theorem ZaS:FnScope ["self","world"] ["self","world"] (X4 Zs):=mkSc
theorem Zfs:FnScope ["self","name","choice","steps","number","asked","what","samples","j","ferry","told"] ["self","name","choice"] (X4 Zt):=mkSc
theorem Z8W:FnScope ["self","ferry","name","choice","asked","boat","wished","told"] ["self","ferry","name","choice","asked"] (X4 Zu):=mkSc
theorem Ze8:FnScope ["self","name","steps","word","went"] ["self","name","steps","word"] (X4 Zv):=mkSc
theorem Ze9:FnScope ["self","name"] ["self","name"] (X4 Zw):=mkSc
theorem Ze7:FnScope ["self","name"] ["self","name"] (X4 Zx):=mkSc
theorem ZaR:FnScope ["script","k"] ["script","k"] (X4 AZ):=mkSc
theorem Zdd:FnScope ["found"] ["found"] (X4 B0):=mkSc
theorem Ze5:FnScope ["number","k","letters","fill","other","long","at","sign"] ["number","k"] (X4 B1):=mkSc
theorem Ze3:FnScope ["number","names","one","other"] ["number","names"] (X4 B3):=mkSc
theorem Ze4:FnScope ["number","name","names","ferries","many","takes","gives","rest"] ["number","name","names","ferries","many"] (X4 B4):=mkSc
theorem Zc1:FnScope ["number","k","naming","ferries","around","name","names","pairs","many","ending","steps","j"] ["number","k","naming","ferries","around"] (X4 B5):=mkSc
theorem Zc0:FnScope ["script","around","head","naming","width","many","ferries","k","number","giver","taker","ends","islands"] ["script","around"] (X4 B6):=mkSc
theorem Zde:FnScope ["cells","islands","rings","cell"] ["cells","islands"] (X4 B7):=mkSc
theorem Zox:FnScope ["script","width","islands","ferries","run","name","choice","ferry","given","taken"] ["script"] (X4 B8):=mkSc
noncomputable def GB:List Str:=["all","bool","dict","int","isinstance","len","list","max","min","range","set","sorted","tuple"]
noncomputable def GL:List (Str×Int):=[("MOST_WIDTH",64),("MOST_LETTERS",8),("MOST_ISLANDS",5),("MOST_FERRIES",6),("MOST_VARS",6),("MOST_STEPS",12),("MOST_PARTS",30),("MOST_DEPTH",8),("MOST_K",3),("MOST_STAGES",3),("BITS_A_FERRY",8)]
theorem Xo{K:X5}{mg:Str->Option X0}{t:Adr}(T:Txt K mg t):∀x∈GB,mg x=none:=(fMc ⟨T.z_all,(fMc ⟨T.z_bool,(fMc ⟨T.z_dict,(fMc ⟨T.z_int,(fMc ⟨T.z_isinstance,(fMc ⟨T.z_len,(fMc ⟨T.z_list,(fMc ⟨T.z_max,(fMc ⟨T.z_min,(fMc ⟨T.z_range,(fMc ⟨T.z_set,(fMc ⟨T.z_sorted,(fMc ⟨T.z_tuple,nl0⟩)⟩)⟩)⟩)⟩)⟩)⟩)⟩)⟩)⟩)⟩)⟩)⟩)
theorem Xp{K:X5}{mg:Str->Option X0}{t:Adr}(T:Txt K mg t):∀p∈GL,∃tk,mg p.1=some (.int p.2 tk):=(fMc ⟨T.c_MOST_WIDTH,(fMc ⟨T.c_MOST_LETTERS,(fMc ⟨T.c_MOST_ISLANDS,(fMc ⟨T.c_MOST_FERRIES,(fMc ⟨T.c_MOST_VARS,(fMc ⟨T.c_MOST_STEPS,(fMc ⟨T.c_MOST_PARTS,(fMc ⟨T.c_MOST_DEPTH,(fMc ⟨T.c_MOST_K,(fMc ⟨T.c_MOST_STAGES,(fMc ⟨T.c_BITS_A_FERRY,nl0⟩)⟩)⟩)⟩)⟩)⟩)⟩)⟩)⟩)⟩)⟩)
def GC:List (Str×Str):=[("Side","turn"),("Side","total"),("Side","sign"),("Side","sight"),("Ferry","places"),("Ferry","giver"),("Ferry","taker"),("Run","world"),("Run","moment"),("Run","next_numbers"),("Run","words_now"),("Run","steps_so_far"),("Run","boats"),("Run","given_so_far"),("Run","taken_so_far")]
theorem Xq{K:X5}{mg:Str->Option X0}{t:Adr}(T:Txt K mg t):∀q∈GC,∃C,XF K Xv q.1=some (some (.ref C))/\Cls K C/\NoAttr K C q.2:=(fMc ⟨⟨_,T.n_Side,T.l_Side,T.a_Side_turn⟩,(fMc ⟨⟨_,T.n_Side,T.l_Side,T.a_Side_total⟩,(fMc ⟨⟨_,T.n_Side,T.l_Side,T.a_Side_sign⟩,(fMc ⟨⟨_,T.n_Side,T.l_Side,T.a_Side_sight⟩,(fMc ⟨⟨_,T.n_Ferry,T.l_Ferry,T.a_Ferry_places⟩,(fMc ⟨⟨_,T.n_Ferry,T.l_Ferry,T.a_Ferry_giver⟩,(fMc ⟨⟨_,T.n_Ferry,T.l_Ferry,T.a_Ferry_taker⟩,(fMc ⟨⟨_,T.n_Run,T.l_Run,T.a_Run_world⟩,(fMc ⟨⟨_,T.n_Run,T.l_Run,T.a_Run_moment⟩,(fMc ⟨⟨_,T.n_Run,T.l_Run,T.a_Run_next_numbers⟩,(fMc ⟨⟨_,T.n_Run,T.l_Run,T.a_Run_words_now⟩,(fMc ⟨⟨_,T.n_Run,T.l_Run,T.a_Run_steps_so_far⟩,(fMc ⟨⟨_,T.n_Run,T.l_Run,T.a_Run_boats⟩,(fMc ⟨⟨_,T.n_Run,T.l_Run,T.a_Run_given_so_far⟩,(fMc ⟨⟨_,T.n_Run,T.l_Run,T.a_Run_taken_so_far⟩,nl0⟩)⟩)⟩)⟩)⟩)⟩)⟩)⟩)⟩)⟩)⟩)⟩)⟩)⟩)⟩)
noncomputable def Kr:ISs:=.cons (.ret (.and (.bi .isinst (.var 0) (.cons (.ty .int) .nil)) (.not (.bi .isinst (.var 0) (.cons (.ty .bool) .nil))))) .nil
noncomputable abbrev EV:ISs:=Kr
noncomputable def Ks:GI:={bl:=GB,gl:=GL,fns:=[],mts:=[],mks:=[],cls:=GC}
theorem Zg3:chkSs Ks (X4 Ah) ["value"] EV (Xb Ah)=true:=by decide+kernel
noncomputable def Kt:ISs:=.cons (.ret (.and (.call 0 (.var 0) .nil) (.chn .LtE .LtE (.int 1) (.var 0) (.glb "MOST_WIDTH" 64)))) .nil
noncomputable abbrev EW:ISs:=Kt
noncomputable def Ku:GI:={bl:=GB,gl:=GL,fns:=["is_whole"],mts:=[],mks:=[],cls:=GC}
theorem Zg2:chkSs Ku (X4 Ai) ["number"] EW (Xb Ai)=true:=by decide+kernel
noncomputable def Kv:ISs:=.cons (.ret (.var 1)) .nil
noncomputable def Kw:ISs:=.cons (.set 1 (.bin .Mult (.var 1) (.int 2))) .nil
noncomputable def Kx:ISs:=.cons (.for_ (.nm 2) (.rng (.var 0)) Kw) Kv
noncomputable def Ky:ISs:=.cons (.set 1 (.int 1)) Kx
noncomputable abbrev EX:ISs:=Ky
noncomputable def Kz:GI:={bl:=GB,gl:=GL,fns:=[],mts:=[],mks:=[],cls:=GC}
theorem Zjr:chkSs Kz (X4 Aj) ["exponent","answer","k"] EX (Xb Aj)=true:=by decide+kernel
noncomputable def KA:ISs:=.cons (.ret (.and (.call 0 (.var 1) .nil) (.chn .LtE .Lt (.int 0) (.var 1) (.call 1 (.var 0) .nil)))) .nil
noncomputable abbrev EY:ISs:=KA
noncomputable def KB:GI:={bl:=GB,gl:=GL,fns:=["is_whole","two_to"],mts:=[],mks:=[],cls:=GC}
theorem ZnW:chkSs KB (X4 Ak) ["width","number"] EY (Xb Ak)=true:=by decide+kernel
noncomputable def KC:ISs:=.cons (.ret (.bin .Mod (.var 1) (.call 0 (.var 0) .nil))) .nil
noncomputable abbrev EZ:ISs:=KC
noncomputable def KD:GI:={bl:=GB,gl:=GL,fns:=["two_to"],mts:=[],mks:=[],cls:=GC}
theorem Zqb:chkSs KD (X4 Al) ["width","number"] EZ (Xb Al)=true:=by decide+kernel
noncomputable def KE:ISs:=.cons (.ret (.bin .BitXor (.var 0) (.bin .BitAnd (.bin .BitXor (.var 0) (.var 1)) (.var 2)))) .nil
noncomputable abbrev F0:ISs:=KE
noncomputable def KF:GI:={bl:=GB,gl:=GL,fns:=[],mts:=[],mks:=[],cls:=GC}
theorem ZnX:chkSs KF (X4 Am) ["old","new","choice"] F0 (Xb Am)=true:=by decide+kernel
noncomputable def KG:ISs:=.cons (.ret (.bin .BitXor (.var 0) (.bin .FloorDiv (.var 0) (.int 2)))) .nil
noncomputable abbrev F1:ISs:=KG
noncomputable def KH:GI:={bl:=GB,gl:=GL,fns:=[],mts:=[],mks:=[],cls:=GC}
theorem ZhB:chkSs KH (X4 An) ["n"] F1 (Xb An)=true:=by decide+kernel
noncomputable def KI:ISs:=.cons (.ret (.var 1)) .nil
noncomputable def KJ:ISs:=.cons (.set 2 (.bin .FloorDiv (.var 2) (.int 2))) .nil
noncomputable def KK:ISs:=.cons (.set 1 (.bin .BitXor (.var 1) (.var 2))) KJ
noncomputable def KL:ISs:=.cons (.while_ (.cmp .Gt (.var 2) (.int 0)) KK) KI
noncomputable def KM:ISs:=.cons (.set 2 (.bin .FloorDiv (.var 0) (.int 2))) KL
noncomputable def KN:ISs:=.cons (.set 1 (.var 0)) KM
noncomputable abbrev F2:ISs:=KN
noncomputable def KO:GI:={bl:=GB,gl:=GL,fns:=[],mts:=[],mks:=[],cls:=GC}
theorem ZeS:chkSs KO (X4 Ao) ["word","n","above"] F2 (Xb Ao)=true:=by decide+kernel
noncomputable def KP:ISs:=.cons (.ret (.tup (.cons (.var 0) (.cons (.var 0) (.cons (.neg (.int 1)) .nil))))) .nil
noncomputable abbrev F3:ISs:=KP
noncomputable def KQ:GI:={bl:=GB,gl:=GL,fns:=[],mts:=[],mks:=[],cls:=GC}
theorem ZdK:chkSs KQ (X4 Ap) ["word"] F3 (Xb Ap)=true:=by decide+kernel
noncomputable def KR:ISs:=.cons (.ret (.tup (.cons (.var 1) (.cons (.ix (.var 0) (.int 0)) (.cons (.var 2) .nil))))) .nil
noncomputable abbrev F4:ISs:=KR
noncomputable def KS:GI:={bl:=GB,gl:=GL,fns:=[],mts:=[],mks:=[],cls:=GC}
theorem Zl5:chkSs KS (X4 Aq) ["sign","word","moment"] F4 (Xb Aq)=true:=by decide+kernel
noncomputable def KU:ISs:=.cons (.ret (.bin .Mult (.tup (.cons (.var 0) .nil)) (.var 1))) .nil
noncomputable abbrev F5:ISs:=KU
noncomputable def KW:GI:={bl:=GB,gl:=GL,fns:=[],mts:=[],mks:=[],cls:=GC}
theorem Zcl:chkSs KW (X4 Ar) ["word","stages"] F5 (Xb Ar)=true:=by decide+kernel
noncomputable def KY:ISs:=.cons (.ret (.ix (.var 0) (.int 0))) .nil
noncomputable def KZ:ISs:=.cons (.ret (.call 0 (.ix (.var 0) (.int 1)) (.cons (.ix (.var 0) (.int 0)) (.cons (.var 2) .nil)))) .nil
noncomputable def L0:ISs:=.cons (.ite (.cmp .Gt (.ix (.var 0) (.int 2)) (.var 1)) KZ .nil) KY
noncomputable abbrev F6:ISs:=L0
noncomputable def L1:GI:={bl:=GB,gl:=GL,fns:=["amid"],mts:=[],mks:=[],cls:=GC}
theorem Zhz:chkSs L1 (X4 As) ["sign","since","choice"] F6 (Xb As)=true:=by decide+kernel
noncomputable def L3:ISs:=.cons (.ret (.sl (.bin .Add (.tup (.cons (.var 1) .nil)) (.var 0)) .none (.some (.neg (.int 1))))) .nil
noncomputable abbrev F7:ISs:=L3
noncomputable def L4:GI:={bl:=GB,gl:=GL,fns:=[],mts:=[],mks:=[],cls:=GC}
theorem Zl6:chkSs L4 (X4 At) ["sight","word"] F7 (Xb At)=true:=by decide+kernel
noncomputable def L5:ISs:=.cons (.ret (.ix (.var 0) (.neg (.int 1)))) .nil
noncomputable abbrev F8:ISs:=L5
noncomputable def L6:GI:={bl:=GB,gl:=GL,fns:=[],mts:=[],mks:=[],cls:=GC}
theorem ZnU:chkSs L6 (X4 Au) ["sight"] F8 (Xb Au)=true:=by decide+kernel
noncomputable def L7:ISs:=.cons (.fset "Side" (.var 0) "sight" (.call 1 (.call 0 (.int 0) .nil) (.cons (.var 2) .nil))) .nil
noncomputable def L8:ISs:=.cons (.fset "Side" (.var 0) "sign" (.call 2 (.call 0 (.int 0) .nil) .nil)) L7
noncomputable def L9:ISs:=.cons (.fset "Side" (.var 0) "total" (.int 0)) L8
noncomputable def La:ISs:=.cons (.fset "Side" (.var 0) "turn" (.var 1)) L9
noncomputable abbrev F9:ISs:=La
noncomputable def Lb:GI:={bl:=GB,gl:=GL,fns:=["code_of","first_sight","first_sign"],mts:=[],mks:=[],cls:=GC}
theorem Zaw:chkSs Lb (X4 Zk) ["self","turn","stages"] F9 (Xb Zk)=true:=by decide+kernel
noncomputable def Lc:ISs:=.cons (.ret (.ix (.fld "Side" (.var 0) "sign") (.int 2))) .nil
noncomputable abbrev Fa:ISs:=Lc
noncomputable def Ld:GI:={bl:=GB,gl:=GL,fns:=[],mts:=[],mks:=[],cls:=GC}
theorem Z8M:chkSs Ld (X4 Zl) ["self"] Fa (Xb Zl)=true:=by decide+kernel
noncomputable def Lf:ISs:=.cons (.ret (.bin .Mod (.bin .Sub (.fld "Side" (.var 0) "total") (.call 0 (.call 1 (.fld "Side" (.var 0) "sight") .nil) .nil)) (.fld "Side" (.var 0) "turn"))) .nil
noncomputable abbrev Fb:ISs:=Lf
noncomputable def Lg:GI:={bl:=GB,gl:=GL,fns:=["number_of","used"],mts:=[],mks:=[],cls:=GC}
theorem Z6w:chkSs Lg (X4 Zm) ["self"] Fb (Xb Zm)=true:=by decide+kernel
noncomputable def Lh:ISs:=.cons (.fset "Side" (.var 0) "total" (.bin .Add (.fld "Side" (.var 0) "total") (.int 1))) .nil
noncomputable abbrev Fc:ISs:=Lh
noncomputable def Li:GI:={bl:=GB,gl:=GL,fns:=[],mts:=[],mks:=[],cls:=GC}
theorem ZeZ:chkSs Li (X4 Zn) ["self"] Fc (Xb Zn)=true:=by decide+kernel
noncomputable def Lj:ISs:=.cons (.ret (.var 4)) .nil
noncomputable def Lk:ISs:=.cons (.fset "Side" (.var 0) "sight" (.call 1 (.fld "Side" (.var 0) "sight") (.cons (.var 4) .nil))) Lj
noncomputable def Ll:ISs:=.cons (.fset "Side" (.var 0) "sign" (.call 3 (.fld "Side" (.var 0) "sign") (.cons (.call 0 (.bin .Mod (.fld "Side" (.var 0) "total") (.fld "Side" (.var 0) "turn")) .nil) (.cons (.var 1) .nil)))) Lk
noncomputable def Lm:ISs:=.cons (.set 4 (.call 2 (.var 3) (.cons (.mcall 4 "Side" "ring_ahead" (.var 0) .nil) (.cons (.var 2) .nil)))) Ll
noncomputable abbrev Fd:ISs:=Lm
noncomputable def Ln:GI:={bl:=GB,gl:=GL,fns:=["code_of","moved","sampled","shown"],mts:=[(4,"Side","ring_ahead")],mks:=[],cls:=GC}
theorem Z6S:chkSs Ln (X4 Zo) ["self","moment","choice","other_sign","seen"] Fd (Xb Zo)=true:=by decide+kernel
noncomputable def Lo:ISs:=.cons (.fset "Ferry" (.var 0) "taker" (.make 2 "Side" (.call 1 (.bin .Add (.var 1) (.int 1)) .nil) (.cons (.var 2) .nil))) .nil
noncomputable def Lp:ISs:=.cons (.fset "Ferry" (.var 0) "giver" (.make 2 "Side" (.call 1 (.bin .Add (.var 1) (.int 1)) .nil) (.cons (.var 2) .nil))) Lo
noncomputable def Lq:ISs:=.cons (.fset "Ferry" (.var 0) "places" (.bin .Mult (.lst (.cons (.call 0 (.int 0) .nil) .nil)) (.call 1 (.var 1) .nil))) Lp
noncomputable abbrev Fe:ISs:=Lq
noncomputable def Lr:GI:={bl:=GB,gl:=GL,fns:=["first_sign","two_to"],mts:=[],mks:=[(2,"Side")],cls:=GC}
theorem Z9g:chkSs Lr (X4 Zp) ["self","k","stages"] Fe (Xb Zp)=true:=by decide+kernel
noncomputable def Ls:ISs:=.cons (.ret (.tup (.cons (.var 5) (.cons (.mcall 3 "Side" "show_and_see" (.fld "Ferry" (.var 0) "giver") (.cons (.var 1) (.cons (.var 2) (.cons (.fld "Side" (.fld "Ferry" (.var 0) "taker") "sign") .nil)))) .nil)))) .nil
noncomputable def Ff:ISs:=.cons (.fset "Ferry" (.var 0) "places" (.comp ["k"] [1,4,0] (.rng (.bi .len (.var 4) .nil)) (.nm 0) .none (.call 0 (.ix (.fld "Ferry" (.var 3) "places") (.var 0)) (.cons (.ix (.var 2) (.var 0)) (.cons (.var 1) .nil))))) Ls
noncomputable def Lu:ISs:=.cons (.expr (.mcall 1 "Side" "grow" (.fld "Ferry" (.var 0) "giver") .nil)) .nil
noncomputable def Lv:ISs:=.cons (.put (.var 4) (.bin .Mod (.fld "Side" (.fld "Ferry" (.var 0) "giver") "total") (.bi .len (.var 4) .nil)) (.var 3)) Lu
noncomputable def Fg:ISs:=.cons (.ite (.var 5) Lv .nil) Ff
noncomputable def Lw:ISs:=.cons (.set 5 (.and (.cmp .IsNot (.var 3) .non) (.cmp .Lt (.mcall 2 "Side" "less_the_seen" (.fld "Ferry" (.var 0) "giver") .nil) (.bi .len (.var 4) .nil)))) Fg
noncomputable def Lx:ISs:=.cons (.set 4 (.comp ["place"] [] (.seq (.fld "Ferry" (.var 0) "places")) (.nm 0) .none (.ix (.var 0) (.int 0)))) Lw
noncomputable abbrev Fh:ISs:=Lx
noncomputable def Ly:GI:={bl:=GB,gl:=GL,fns:=["shown"],mts:=[(1,"Side","grow"),(2,"Side","less_the_seen"),(3,"Side","show_and_see")],mks:=[],cls:=GC}
theorem Z83:chkSs Ly (X4 Zq) ["self","moment","choice","word","words","gives"] Fh (Xb Zq)=true:=by decide+kernel
noncomputable def Fi:ISs:=.cons (.ret (.tup (.cons (.var 4) (.cons (.mcall 4 "Side" "show_and_see" (.fld "Ferry" (.var 0) "taker") (.cons (.var 1) (.cons (.var 2) (.cons (.fld "Side" (.fld "Ferry" (.var 0) "giver") "sign") .nil)))) .nil)))) .nil
noncomputable def Lz:ISs:=.cons (.expr (.mcall 1 "Side" "grow" (.fld "Ferry" (.var 0) "taker") .nil)) .nil
noncomputable def LA:ISs:=.cons (.set 4 (.call 0 (.var 5) (.cons (.mcall 3 "Side" "ring_ahead" (.fld "Ferry" (.var 0) "taker") .nil) (.cons (.var 2) .nil)))) Lz
noncomputable def LB:ISs:=.cons (.set 5 (.ix (.fld "Ferry" (.var 0) "places") (.bin .Mod (.fld "Side" (.fld "Ferry" (.var 0) "taker") "total") (.bi .len (.fld "Ferry" (.var 0) "places") .nil)))) LA
noncomputable def LC:ISs:=.cons (.ite (.and (.var 3) (.cmp .NotEq (.mcall 2 "Side" "less_the_seen" (.fld "Ferry" (.var 0) "taker") .nil) (.int 0))) LB .nil) Fi
noncomputable def LD:ISs:=.cons (.set 4 .non) LC
noncomputable abbrev Fj:ISs:=LD
noncomputable def LE:GI:={bl:=GB,gl:=GL,fns:=["sampled"],mts:=[(1,"Side","grow"),(2,"Side","less_the_seen"),(3,"Side","ring_ahead"),(4,"Side","show_and_see")],mks:=[],cls:=GC}
theorem Z82:chkSs LE (X4 Zr) ["self","moment","choice","wished","word","place"] Fj (Xb Zr)=true:=by decide+kernel
noncomputable def Fk:ISs:=.cons (.ret (.bi .list (.sl (.var 0) (.some (.int 1)) .none) .nil)) .nil
noncomputable def Fl:ISs:=.cons (.ret (.lst .nil)) .nil
noncomputable def LF:ISs:=.cons (.ite (.or (.cmp .Eq (.ix (.var 0) (.int 0)) (.str "num")) (.cmp .Eq (.ix (.var 0) (.int 0)) (.str "var"))) Fl .nil) Fk
noncomputable abbrev Fm:ISs:=LF
noncomputable def LG:GI:={bl:=GB,gl:=GL,fns:=[],mts:=[],mks:=[],cls:=GC}
theorem ZbD:chkSs LG (X4 Av) ["T"] Fm (Xb Av)=true:=by decide+kernel
noncomputable def LH:ISs:=.cons (.ret (.tup (.cons (.var 1) (.cons (.bin .Add (.var 2) (.int 1)) .nil)))) .nil
noncomputable def LI:ISs:=.cons (.set 2 (.bi .max (.var 2) (.cons (.ix (.var 4) (.int 1)) .nil))) .nil
noncomputable def LJ:ISs:=.cons (.set 1 (.bin .Add (.var 1) (.ix (.var 4) (.int 0)))) LI
noncomputable def LK:ISs:=.cons (.set 4 (.call 1 (.var 3) .nil)) LJ
noncomputable def LL:ISs:=.cons (.for_ (.nm 3) (.seq (.call 0 (.var 0) .nil)) LK) LH
noncomputable def LM:ISs:=.cons (.set 2 (.int 0)) LL
noncomputable def LN:ISs:=.cons (.set 1 (.int 1)) LM
noncomputable abbrev Fn:ISs:=LN
noncomputable def LO:GI:={bl:=GB,gl:=GL,fns:=["parts_within","size_of"],mts:=[],mks:=[],cls:=GC}
theorem Zhy:chkSs LO (X4 Aw) ["T","parts","deepest","part","size"] Fn (Xb Aw)=true:=by decide+kernel
noncomputable def LP:ISs:=.cons (.ret (.var 1)) .nil
noncomputable def LQ:ISs:=.cons (.expr (.mt .extend (.var 1) (.cons (.call 0 (.var 2) .nil) .nil))) .nil
noncomputable def LR:ISs:=.cons (.for_ (.nm 2) (.seq (.call 1 (.var 0) .nil)) LQ) LP
noncomputable def Fo:ISs:=.cons (.set 1 (.lst .nil)) LR
noncomputable def LS:ISs:=.cons (.ret (.lst (.cons (.ix (.var 0) (.int 1)) .nil))) .nil
noncomputable def LT:ISs:=.cons (.ite (.cmp .Eq (.ix (.var 0) (.int 0)) (.str "var")) LS .nil) Fo
noncomputable abbrev Fp:ISs:=LT
noncomputable def LU:GI:={bl:=GB,gl:=GL,fns:=["names_read","parts_within"],mts:=[],mks:=[],cls:=GC}
theorem ZdI:chkSs LU (X4 Ax) ["T","names","part"] Fp (Xb Ax)=true:=by decide+kernel
noncomputable def LV:ISs:=.cons (.ret (.b2 .ssrt (.call 0 (.var 0) .nil))) .nil
noncomputable abbrev Fq:ISs:=LV
noncomputable def LW:GI:={bl:=GB,gl:=GL,fns:=["names_read"],mts:=[],mks:=[],cls:=GC}
theorem Zhx:chkSs LW (X4 Ay) ["T"] Fq (Xb Ay)=true:=by decide+kernel
noncomputable def LX:ISs:=.cons (.ret (.ife (.cmp .Eq (.var 1) (.var 2)) (.int 1) (.int 0))) .nil
noncomputable def LY:ISs:=.cons (.ret (.ife (.cmp .Lt (.var 1) (.var 2)) (.int 1) (.int 0))) .nil
noncomputable def Ft:ISs:=.cons (.ite (.cmp .Eq (.var 0) (.str "less")) LY .nil) LX
noncomputable def LZ:ISs:=.cons (.ret (.call 0 (.var 3) (.cons (.bin .Mult (.var 1) (.var 2)) .nil))) .nil
noncomputable def CV:ISs:=.cons (.ite (.cmp .Eq (.var 0) (.str "times")) LZ .nil) Ft
noncomputable def Mb:ISs:=.cons (.ret (.call 0 (.var 3) (.cons (.bin .Sub (.var 1) (.var 2)) .nil))) .nil
noncomputable def B9:ISs:=.cons (.ite (.cmp .Eq (.var 0) (.str "minus")) Mb .nil) CV
noncomputable def Mc:ISs:=.cons (.ret (.call 0 (.var 3) (.cons (.bin .Add (.var 1) (.var 2)) .nil))) .nil
noncomputable def Md:ISs:=.cons (.ite (.cmp .Eq (.var 0) (.str "plus")) Mc .nil) B9
noncomputable abbrev Fu:ISs:=Md
noncomputable def Me:GI:={bl:=GB,gl:=GL,fns:=["cut"],mts:=[],mks:=[],cls:=GC}
theorem ZbB:chkSs Me (X4 Az) ["form","left","right","width"] Fu (Xb Az)=true:=by decide+kernel
noncomputable def Mf:ISs:=.cons (.ret (.call 2 (.ix (.var 0) (.int 0)) (.cons (.var 3) (.cons (.call 1 (.ix (.var 0) (.int 2)) (.cons (.var 1) (.cons (.var 2) .nil))) (.cons (.var 1) .nil))))) .nil
noncomputable def Mg:ISs:=.cons (.ret (.call 1 (.ife (.cmp .NotEq (.var 3) (.int 0)) (.ix (.var 0) (.int 2)) (.ix (.var 0) (.int 3))) (.cons (.var 1) (.cons (.var 2) .nil)))) .nil
noncomputable def Fv:ISs:=.cons (.ite (.cmp .Eq (.ix (.var 0) (.int 0)) (.str "pick")) Mg .nil) Mf
noncomputable def Fw:ISs:=.cons (.set 3 (.call 1 (.ix (.var 0) (.int 1)) (.cons (.var 1) (.cons (.var 2) .nil)))) Fv
noncomputable def Mh:ISs:=.cons (.ret (.ix (.var 2) (.ix (.var 0) (.int 1)))) .nil
noncomputable def CW:ISs:=.cons (.ite (.cmp .Eq (.ix (.var 0) (.int 0)) (.str "var")) Mh .nil) Fw
noncomputable def Mi:ISs:=.cons (.ret (.call 0 (.var 1) (.cons (.ix (.var 0) (.int 1)) .nil))) .nil
noncomputable def Mj:ISs:=.cons (.ite (.cmp .Eq (.ix (.var 0) (.int 0)) (.str "num")) Mi .nil) CW
noncomputable abbrev Fy:ISs:=Mj
noncomputable def Ml:GI:={bl:=GB,gl:=GL,fns:=["cut","worth","worth_of_two"],mts:=[],mks:=[],cls:=GC}
theorem Zl4:chkSs Ml (X4 AA) ["T","width","words","first"] Fy (Xb AA)=true:=by decide+kernel
noncomputable def Fz:ISs:=.cons (.ret (.tup (.cons (.str "own") .nil))) .nil
noncomputable def Mm:ISs:=.cons (.ret (.tup (.cons (.str "give") (.cons (.ix (.var 4) (.int 1)) (.cons (.call 0 (.ix (.var 4) (.int 2)) (.cons (.var 0) (.cons (.var 3) .nil))) .nil))))) .nil
noncomputable def CY:ISs:=.cons (.ite (.cmp .Eq (.ix (.var 4) (.int 0)) (.str "give")) Mm .nil) Fz
noncomputable def Mn:ISs:=.cons (.ret (.tup (.cons (.str "take") (.cons (.ix (.var 4) (.int 1)) .nil)))) .nil
noncomputable def FA:ISs:=.cons (.ite (.cmp .Eq (.ix (.var 4) (.int 0)) (.str "take")) Mn .nil) CY
noncomputable def FB:ISs:=.cons (.set 4 (.ix (.var 1) (.var 2))) FA
noncomputable def FC:ISs:=.cons (.ret .non) .nil
noncomputable def Mo:ISs:=.cons (.ite (.cmp .Eq (.var 2) (.bi .len (.var 1) .nil)) FC .nil) FB
noncomputable abbrev FD:ISs:=Mo
noncomputable def Mp:GI:={bl:=GB,gl:=GL,fns:=["worth"],mts:=[],mks:=[],cls:=GC}
theorem ZnT:chkSs Mp (X4 AB) ["width","steps","number","words","step"] FD (Xb AB)=true:=by decide+kernel
noncomputable def Ba:ISs:=.cons (.ret (.bin .Add (.var 2) (.int 1))) .nil
noncomputable def Mq:ISs:=.cons (.ret (.ix (.var 4) (.int 2))) .nil
noncomputable def Mr:ISs:=.cons (.ite (.and (.cmp .Eq (.ix (.var 4) (.int 0)) (.str "jump")) (.cmp .NotEq (.call 0 (.ix (.var 4) (.int 1)) (.cons (.var 0) (.cons (.var 3) .nil))) (.int 0))) Mq .nil) Ba
noncomputable def Ms:ISs:=.cons (.set 4 (.ix (.var 1) (.var 2))) Mr
noncomputable abbrev FE:ISs:=Ms
noncomputable def Mt:GI:={bl:=GB,gl:=GL,fns:=["worth"],mts:=[],mks:=[],cls:=GC}
theorem ZbE:chkSs Mt (X4 AC) ["width","steps","number","words","step"] FE (Xb AC)=true:=by decide+kernel
noncomputable def Bb:ISs:=.cons (.ret (.var 4)) .nil
noncomputable def Mu:ISs:=.cons (.put (.var 4) (.ix (.var 1) (.int 1)) (.call 0 (.ix (.var 1) (.int 2)) (.cons (.var 0) (.cons (.var 2) .nil)))) .nil
noncomputable def Bc:ISs:=.cons (.ite (.cmp .Eq (.ix (.var 1) (.int 0)) (.str "put")) Mu .nil) Bb
noncomputable def Mv:ISs:=.cons (.put (.var 4) (.ix (.var 1) (.int 2)) (.var 3)) .nil
noncomputable def Mw:ISs:=.cons (.ite (.cmp .Eq (.ix (.var 1) (.int 0)) (.str "take")) Mv .nil) Bc
noncomputable def Mx:ISs:=.cons (.set 4 (.bi .dict (.var 2) .nil)) Mw
noncomputable abbrev FF:ISs:=Mx
noncomputable def Mz:GI:={bl:=GB,gl:=GL,fns:=["worth"],mts:=[],mks:=[],cls:=GC}
theorem Zch:chkSs Mz (X4 AD) ["width","step","words","word","behind"] FF (Xb AD)=true:=by decide+kernel
noncomputable def MA:ISs:=.cons (.ret (.tup (.cons (.call 0 (.var 0) (.cons (.var 1) (.cons (.var 2) (.cons (.var 3) .nil)))) (.cons (.call 1 (.var 0) (.cons (.ix (.var 1) (.var 2)) (.cons (.var 3) (.cons (.var 4) .nil)))) .nil)))) .nil
noncomputable abbrev FG:ISs:=MA
noncomputable def MB:GI:={bl:=GB,gl:=GL,fns:=["number_after","words_after"],mts:=[],mks:=[],cls:=GC}
theorem Zl7:chkSs MB (X4 AE) ["width","steps","number","words","word"] FG (Xb AE)=true:=by decide+kernel
noncomputable def MC:ISs:=.cons (.ret (.and (.chn .LtE .LtE (.int 1) (.bi .len (.var 0) .nil) (.glb "MOST_LETTERS" 8)) (.bi .all (.comp ["sign"] [] (.seq (.var 0)) (.nm 0) .none (.chn .LtE .LtE (.str "a") (.var 0) (.str "z"))) .nil))) .nil
noncomputable abbrev FH:ISs:=MC
noncomputable def MD:GI:={bl:=GB,gl:=GL,fns:=[],mts:=[],mks:=[],cls:=GC}
theorem ZhA:chkSs MD (X4 AF) ["text"] FH (Xb AF)=true:=by decide+kernel
noncomputable def Zcc:ISs:=.cons .never .nil
noncomputable def ME:ISs:=.cons (.ite (.cmp .In (.var 0) (.var 1)) Zcc .nil) .nil
noncomputable def Zcd:ISs:=.cons .never .nil
noncomputable def MF:ISs:=.cons (.ite (.not (.call 0 (.var 0) .nil)) Zcd .nil) ME
noncomputable abbrev FI:ISs:=MF
noncomputable def MG:GI:={bl:=GB,gl:=GL,fns:=["is_name"],mts:=[],mks:=[],cls:=GC}
theorem Zck:chkSs MG (X4 AG) ["text","earlier"] FI (Xb AG)=true:=by decide+kernel
noncomputable def Z95:ISs:=.cons .never .nil
noncomputable def FJ:ISs:=.cons (.ite (.cmp .NotIn (.var 0) (.var 1)) Z95 .nil) .nil
noncomputable abbrev Bd:ISs:=FJ
noncomputable def FK:GI:={bl:=GB,gl:=GL,fns:=[],mts:=[],mks:=[],cls:=GC}
theorem MI:chkSs FK (X4 AH) ["name","known"] Bd (Xb AH)=true:=by decide+kernel
noncomputable def MJ:ISs:=.cons (.expr (.mt .append (.var 1) (.cons (.ix (.var 2) (.int 0)) .nil))) .nil
noncomputable def MK:ISs:=.cons (.expr (.call 0 (.ix (.var 2) (.int 0)) (.cons (.var 1) .nil))) MJ
noncomputable def ML:ISs:=.cons (.for_ (.nm 2) (.seq (.var 0)) MK) .nil
noncomputable def MM:ISs:=.cons (.set 1 (.lst .nil)) ML
noncomputable abbrev FL:ISs:=MM
noncomputable def MN:GI:={bl:=GB,gl:=GL,fns:=["refuse_name"],mts:=[],mks:=[],cls:=GC}
theorem Z6v:chkSs MN (X4 AI) ["ferries","earlier","ferry"] FL (Xb AI)=true:=by decide+kernel
noncomputable def Z7V:ISs:=.cons .never .nil
noncomputable def MP:ISs:=.cons (.ite (.not (.call 0 (.var 0) (.cons (.ix (.var 3) (.int 1)) .nil))) Z7V .nil) .nil
noncomputable def MQ:ISs:=.cons (.expr (.mt .append (.var 2) (.cons (.var 4) .nil))) MP
noncomputable def MR:ISs:=.cons (.expr (.call 1 (.var 4) (.cons (.var 2) .nil))) MQ
noncomputable def MS:ISs:=.cons (.set 4 (.ix (.var 3) (.int 0))) MR
noncomputable def MU:ISs:=.cons (.for_ (.nm 3) (.seq (.var 1)) MS) .nil
noncomputable def MW:ISs:=.cons (.set 2 (.lst .nil)) MU
noncomputable abbrev FM:ISs:=MW
noncomputable def MX:GI:={bl:=GB,gl:=GL,fns:=["fits","refuse_name"],mts:=[],mks:=[],cls:=GC}
theorem Z81:chkSs MX (X4 AJ) ["width","pairs","earlier","pair","name"] FM (Xb AJ)=true:=by decide+kernel
noncomputable def MY:ISs:=.cons (.expr (.call 0 (.var 3) (.cons (.var 1) .nil))) .nil
noncomputable def MZ:ISs:=.cons (.for_ (.nm 3) (.seq (.call 2 (.var 0) .nil)) MY) .nil
noncomputable def Zcb:ISs:=.cons .never .nil
noncomputable def N0:ISs:=.cons (.ite (.or (.cmp .Gt (.ix (.var 2) (.int 0)) (.glb "MOST_PARTS" 30)) (.cmp .Gt (.ix (.var 2) (.int 1)) (.glb "MOST_DEPTH" 8))) Zcb .nil) MZ
noncomputable def N1:ISs:=.cons (.set 2 (.call 1 (.var 0) .nil)) N0
noncomputable abbrev FN:ISs:=N1
noncomputable def N2:GI:={bl:=GB,gl:=GL,fns:=["refuse_unknown","size_of","vars_in"],mts:=[],mks:=[],cls:=GC}
theorem Zci:chkSs N2 (X4 AK) ["T","known","size","name"] FN (Xb AK)=true:=by decide+kernel
noncomputable def N3:ISs:=.cons (.expr (.call 1 (.ix (.var 0) (.int 2)) (.cons (.var 1) .nil))) .nil
noncomputable def N4:ISs:=.cons (.expr (.call 1 (.ix (.var 0) (.int 1)) (.cons (.var 3) .nil))) N3
noncomputable def N5:ISs:=.cons (.expr (.call 0 (.ix (.var 0) (.int 2)) (.cons (.var 1) .nil))) .nil
noncomputable def N6:ISs:=.cons (.expr (.call 1 (.ix (.var 0) (.int 1)) (.cons (.var 3) .nil))) N5
noncomputable def N7:ISs:=.cons (.expr (.call 0 (.ix (.var 0) (.int 2)) (.cons (.var 1) .nil))) .nil
noncomputable def N8:ISs:=.cons (.expr (.call 1 (.ix (.var 0) (.int 1)) (.cons (.var 1) .nil))) N7
noncomputable def Zbd:ISs:=.cons .never .nil
noncomputable def N9:ISs:=.cons (.ite (.not (.chn .LtE .LtE (.int 0) (.ix (.var 0) (.int 2)) (.var 2))) Zbd .nil) .nil
noncomputable def Na:ISs:=.cons (.expr (.call 0 (.ix (.var 0) (.int 1)) (.cons (.var 1) .nil))) N9
noncomputable def FO:ISs:=.cons (.ite (.cmp .Eq (.ix (.var 0) (.int 0)) (.str "put")) N8 Na) .nil
noncomputable def CZ:ISs:=.cons (.ite (.cmp .Eq (.ix (.var 0) (.int 0)) (.str "give")) N6 FO) .nil
noncomputable def Nb:ISs:=.cons (.ite (.cmp .Eq (.ix (.var 0) (.int 0)) (.str "take")) N4 CZ) .nil
noncomputable abbrev FP:ISs:=Nb
noncomputable def Nc:GI:={bl:=GB,gl:=GL,fns:=["refuse_term","refuse_unknown"],mts:=[],mks:=[],cls:=GC}
theorem Zcj:chkSs Nc (X4 AL) ["step","known","count","ferry_names"] FP (Xb AL)=true:=by decide+kernel
noncomputable def Nd:ISs:=.cons (.expr (.call 0 (.var 4) (.cons (.var 3) (.cons (.bi .len (.ix (.var 1) (.int 2)) .nil) (.cons (.var 2) .nil))))) .nil
noncomputable def Nf:ISs:=.cons (.for_ (.nm 4) (.seq (.ix (.var 1) (.int 2))) Nd) .nil
noncomputable def Nh:ISs:=.cons (.set 3 (.comp ["pair"] [] (.seq (.ix (.var 1) (.int 1))) (.nm 0) .none (.ix (.var 0) (.int 0)))) Nf
noncomputable def Ni:ISs:=.cons (.expr (.call 1 (.var 0) (.cons (.ix (.var 1) (.int 1)) .nil))) Nh
noncomputable def Zat:ISs:=.cons .never .nil
noncomputable def Nj:ISs:=.cons (.ite (.cmp .Gt (.bi .len (.ix (.var 1) (.int 2)) .nil) (.glb "MOST_STEPS" 12)) Zat .nil) Ni
noncomputable def Zau:ISs:=.cons .never .nil
noncomputable def Nk:ISs:=.cons (.ite (.cmp .Gt (.bi .len (.ix (.var 1) (.int 1)) .nil) (.glb "MOST_VARS" 6)) Zau .nil) Nj
noncomputable abbrev FQ:ISs:=Nk
noncomputable def Nm:GI:={bl:=GB,gl:=GL,fns:=["refuse_step","refuse_variables"],mts:=[],mks:=[],cls:=GC}
theorem Zav:chkSs Nm (X4 AM) ["width","island","ferry_names","known","step"] FQ (Xb AM)=true:=by decide+kernel
noncomputable def Nn:ISs:=.cons (.expr (.call 0 (.var 0) (.cons (.var 4) (.cons (.var 2) .nil)))) .nil
noncomputable def No:ISs:=.cons (.expr (.mt .append (.var 3) (.cons (.ix (.var 4) (.int 0)) .nil))) Nn
noncomputable def Np:ISs:=.cons (.expr (.call 1 (.ix (.var 4) (.int 0)) (.cons (.var 3) .nil))) No
noncomputable def Nq:ISs:=.cons (.for_ (.nm 4) (.seq (.var 1)) Np) .nil
noncomputable def Nr:ISs:=.cons (.set 3 (.bi .list (.var 2) .nil)) Nq
noncomputable abbrev FR:ISs:=Nr
noncomputable def Nu:GI:={bl:=GB,gl:=GL,fns:=["refuse_island","refuse_name"],mts:=[],mks:=[],cls:=GC}
theorem Z9e:chkSs Nu (X4 AN) ["width","islands","ferry_names","earlier","island"] FR (Xb AN)=true:=by decide+kernel
noncomputable def Zbe:ISs:=.cons .never .nil
noncomputable def Nv:ISs:=.cons (.ite (.not (.chn .LtE .LtE (.int 1) (.ix (.var 0) (.int 4)) (.glb "MOST_STAGES" 3))) Zbe .nil) .nil
noncomputable def Zbf:ISs:=.cons .never .nil
noncomputable def Nw:ISs:=.cons (.ite (.not (.chn .LtE .LtE (.int 0) (.ix (.var 0) (.int 3)) (.glb "MOST_K" 3))) Zbf .nil) Nv
noncomputable def Zbg:ISs:=.cons .never .nil
noncomputable def Ny:ISs:=.cons (.ite (.cmp .Eq (.ix (.var 0) (.int 1)) (.ix (.var 0) (.int 2))) Zbg .nil) Nw
noncomputable def Nz:ISs:=.cons (.expr (.call 0 (.ix (.var 0) (.int 2)) (.cons (.var 1) .nil))) Ny
noncomputable def NA:ISs:=.cons (.expr (.call 0 (.ix (.var 0) (.int 1)) (.cons (.var 1) .nil))) Nz
noncomputable abbrev FS:ISs:=NA
noncomputable def NB:GI:={bl:=GB,gl:=GL,fns:=["refuse_unknown"],mts:=[],mks:=[],cls:=GC}
theorem ZbC:chkSs NB (X4 AO) ["ferry","island_names"] FS (Xb AO)=true:=by decide+kernel
noncomputable def Z7T:ISs:=.cons .never .nil
noncomputable def Be:ISs:=.cons (.ite (.and (.cmp .Eq (.ix (.var 1) (.int 0)) (.str "give")) (.cmp .NotEq (.ix (.var 2) (.ix (.var 1) (.int 1))) (.var 0))) Z7T .nil) .nil
noncomputable def Z7U:ISs:=.cons .never .nil
noncomputable def NC:ISs:=.cons (.ite (.and (.cmp .Eq (.ix (.var 1) (.int 0)) (.str "take")) (.cmp .NotEq (.ix (.var 3) (.ix (.var 1) (.int 1))) (.var 0))) Z7U .nil) Be
noncomputable abbrev FT:ISs:=NC
noncomputable def ND:GI:={bl:=GB,gl:=GL,fns:=[],mts:=[],mks:=[],cls:=GC}
theorem Z80:chkSs ND (X4 AQ) ["name","step","givers","takers"] FT (Xb AQ)=true:=by decide+kernel
noncomputable def NE:ISs:=.cons (.expr (.call 0 (.ix (.var 4) (.int 0)) (.cons (.var 5) (.cons (.var 2) (.cons (.var 3) .nil))))) .nil
noncomputable def NF:ISs:=.cons (.for_ (.nm 5) (.seq (.ix (.var 4) (.int 2))) NE) .nil
noncomputable def NG:ISs:=.cons (.for_ (.nm 4) (.seq (.var 0)) NF) .nil
noncomputable def NH:ISs:=.cons (.set 3 (.bi .dictL (.comp ["ferry"] [] (.seq (.var 1)) (.nm 0) .none (.tup (.cons (.ix (.var 0) (.int 0)) (.cons (.ix (.var 0) (.int 2)) .nil)))) .nil)) NG
noncomputable def NI:ISs:=.cons (.set 2 (.bi .dictL (.comp ["ferry"] [] (.seq (.var 1)) (.nm 0) .none (.tup (.cons (.ix (.var 0) (.int 0)) (.cons (.ix (.var 0) (.int 1)) .nil)))) .nil)) NH
noncomputable abbrev FU:ISs:=NI
noncomputable def NJ:GI:={bl:=GB,gl:=GL,fns:=["refuse_wrong_end"],mts:=[],mks:=[],cls:=GC}
theorem Z6R:chkSs NJ (X4 AR) ["islands","ferries","givers","takers","island","step"] FU (Xb AR)=true:=by decide+kernel
noncomputable def Wi:ISs:=.cons (.ret (.var 0)) .nil
noncomputable def FV:ISs:=.cons (.ret (.bi .tuple (.comp ["part"] [] (.seq (.var 0)) (.nm 0) .none (.call 0 (.var 0) .nil)) .nil)) .nil
noncomputable def FW:ISs:=.cons (.ite (.bi .isinst (.var 0) (.cons (.tup (.cons (.ty .list) (.cons (.ty .tuple) .nil))) .nil)) FV .nil) Wi
noncomputable abbrev Wj:ISs:=FW
noncomputable def FX:GI:={bl:=GB,gl:=GL,fns:=["frozen"],mts:=[],mks:=[],cls:=GC}
theorem NK:chkSs FX (X4 AS) ["value"] Wj (Xb AS)=true:=by decide+kernel
noncomputable def NL:ISs:=.cons (.ret (.call 0 (.tup (.cons (.var 0) (.cons (.var 1) (.cons (.var 2) .nil)))) .nil)) .nil
noncomputable def NM:ISs:=.cons (.expr (.call 5 (.var 1) (.cons (.var 2) .nil))) NL
noncomputable def NN:ISs:=.cons (.expr (.call 2 (.var 4) (.cons (.var 3) .nil))) .nil
noncomputable def NO:ISs:=.cons (.for_ (.nm 4) (.seq (.var 2)) NN) NM
noncomputable def NP:ISs:=.cons (.set 3 (.comp ["island"] [] (.seq (.var 1)) (.nm 0) .none (.ix (.var 0) (.int 0)))) NO
noncomputable def NQ:ISs:=.cons (.expr (.call 4 (.var 0) (.cons (.var 1) (.cons (.comp ["ferry"] [] (.seq (.var 2)) (.nm 0) .none (.ix (.var 0) (.int 0))) .nil)))) NP
noncomputable def NR:ISs:=.cons (.expr (.call 3 (.var 2) .nil)) NQ
noncomputable def ZnF:ISs:=.cons .never .nil
noncomputable def NS:ISs:=.cons (.ite (.cmp .Gt (.bi .len (.var 2) .nil) (.glb "MOST_FERRIES" 6)) ZnF .nil) NR
noncomputable def ZnG:ISs:=.cons .never .nil
noncomputable def NT:ISs:=.cons (.ite (.cmp .Gt (.bi .len (.var 1) .nil) (.glb "MOST_ISLANDS" 5)) ZnG .nil) NS
noncomputable def ZnH:ISs:=.cons .never .nil
noncomputable def NU:ISs:=.cons (.ite (.not (.call 1 (.var 0) .nil)) ZnH .nil) NT
noncomputable abbrev FY:ISs:=NU
noncomputable def NV:GI:={bl:=GB,gl:=GL,fns:=["frozen","is_width","refuse_ferry","refuse_ferry_names","refuse_islands","refuse_wrong_ends"],mts:=[],mks:=[],cls:=GC}
theorem ZnV:chkSs NV (X4 AT) ["width","islands","ferries","island_names","ferry"] FY (Xb AT)=true:=by decide+kernel
noncomputable def Zdz:ISs:=.cons .never .nil
noncomputable def NW:ISs:=.cons (.ret (.var 2)) .nil
noncomputable def NX:ISs:=.cons (.ite (.cmp .Eq (.ix (.var 2) (.int 0)) (.var 1)) NW .nil) .nil
noncomputable def NY:ISs:=.cons (.for_ (.nm 2) (.seq (.var 0)) NX) Zdz
noncomputable abbrev FZ:ISs:=NY
noncomputable def NZ:GI:={bl:=GB,gl:=GL,fns:=[],mts:=[],mks:=[],cls:=GC}
theorem ZdH:chkSs NZ (X4 AU) ["row","name","one"] FZ (Xb AU)=true:=by decide+kernel
noncomputable def O0:ISs:=.cons (.ret (.call 0 (.ix (.var 0) (.int 1)) (.cons (.var 1) .nil))) .nil
noncomputable abbrev G0:ISs:=O0
noncomputable def O1:GI:={bl:=GB,gl:=GL,fns:=["one_called"],mts:=[],mks:=[],cls:=GC}
theorem ZeU:chkSs O1 (X4 AV) ["world","name"] G0 (Xb AV)=true:=by decide+kernel
noncomputable def O2:ISs:=.cons (.ret (.tup (.cons (.str "wait") (.cons (.ix (.var 0) (.int 1)) .nil)))) .nil
noncomputable def O3:ISs:=.cons (.ret (.tup (.cons (.str "own") .nil))) .nil
noncomputable def O4:ISs:=.cons (.ite (.cmp .Eq (.ix (.var 0) (.int 0)) (.str "own")) O3 .nil) O2
noncomputable def O5:ISs:=.cons (.ret (.tup (.cons (.str "done") .nil))) .nil
noncomputable def O6:ISs:=.cons (.ite (.cmp .Is (.var 0) .non) O5 .nil) O4
noncomputable abbrev G1:ISs:=O6
noncomputable def O7:GI:={bl:=GB,gl:=GL,fns:=[],mts:=[],mks:=[],cls:=GC}
theorem ZdG:chkSs O7 (X4 AW) ["asked"] G1 (Xb AW)=true:=by decide+kernel
noncomputable def O8:ISs:=.cons (.ret (.and (.cmp .IsNot (.var 0) .non) (.and (.cmp .NotEq (.ix (.var 0) (.int 0)) (.str "own")) (.cmp .Eq (.ix (.var 0) (.int 1)) (.var 1))))) .nil
noncomputable abbrev G2:ISs:=O8
noncomputable def O9:GI:={bl:=GB,gl:=GL,fns:=[],mts:=[],mks:=[],cls:=GC}
theorem ZdJ:chkSs O9 (X4 AX) ["asked","ferry_name"] G2 (Xb AX)=true:=by decide+kernel
noncomputable def Oa:ISs:=.cons (.ret (.ix (.var 0) (.var 1))) .nil
noncomputable def Ob:ISs:=.cons (.expr (.call 0 (.var 1) (.cons (.var 0) .nil))) Oa
noncomputable abbrev G3:ISs:=Ob
noncomputable def Oc:GI:={bl:=GB,gl:=GL,fns:=["refuse_unknown"],mts:=[],mks:=[],cls:=GC}
theorem ZeT:chkSs Oc (X4 AY) ["named","name"] G3 (Xb AY)=true:=by decide+kernel
noncomputable def Od:ISs:=.cons (.fset "Run" (.var 0) "taken_so_far" (.bi .dictL (.comp ["ferry"] [] (.seq (.ix (.var 1) (.int 2))) (.nm 0) .none (.tup (.cons (.ix (.var 0) (.int 0)) (.cons (.lst .nil) .nil)))) .nil)) .nil
noncomputable def Oe:ISs:=.cons (.fset "Run" (.var 0) "given_so_far" (.bi .dictL (.comp ["ferry"] [] (.seq (.ix (.var 1) (.int 2))) (.nm 0) .none (.tup (.cons (.ix (.var 0) (.int 0)) (.cons (.lst .nil) .nil)))) .nil)) Od
noncomputable def Of:ISs:=.cons (.fset "Run" (.var 0) "boats" (.bi .dictL (.comp ["ferry"] [] (.seq (.ix (.var 1) (.int 2))) (.nm 0) .none (.tup (.cons (.ix (.var 0) (.int 0)) (.cons (.make 0 "Ferry" (.ix (.var 0) (.int 3)) (.cons (.ix (.var 0) (.int 4)) .nil)) .nil)))) .nil)) Oe
noncomputable def Og:ISs:=.cons (.fset "Run" (.var 0) "steps_so_far" (.bi .dictL (.comp ["island"] [] (.seq (.ix (.var 1) (.int 1))) (.nm 0) .none (.tup (.cons (.ix (.var 0) (.int 0)) (.cons (.int 0) .nil)))) .nil)) Of
noncomputable def Oh:ISs:=.cons (.fset "Run" (.var 0) "words_now" (.bi .dictL (.comp ["island"] [] (.seq (.ix (.var 1) (.int 1))) (.nm 0) .none (.tup (.cons (.ix (.var 0) (.int 0)) (.cons (.bi .dict (.ix (.var 0) (.int 1)) .nil) .nil)))) .nil)) Og
noncomputable def Oi:ISs:=.cons (.fset "Run" (.var 0) "next_numbers" (.bi .dictL (.comp ["island"] [] (.seq (.ix (.var 1) (.int 1))) (.nm 0) .none (.tup (.cons (.ix (.var 0) (.int 0)) (.cons (.int 0) .nil)))) .nil)) Oh
noncomputable def Oj:ISs:=.cons (.fset "Run" (.var 0) "moment" (.int 0)) Oi
noncomputable def Ol:ISs:=.cons (.fset "Run" (.var 0) "world" (.var 1)) Oj
noncomputable abbrev G4:ISs:=Ol
noncomputable def Om:GI:={bl:=GB,gl:=GL,fns:=[],mts:=[],mks:=[(0,"Ferry")],cls:=GC}
theorem ZbG:chkSs Om (X4 Zs) ["self","world"] G4 (Xb Zs)=true:=by decide+kernel
noncomputable def Bf:ISs:=.cons (.ret (.tup (.cons (.var 1) (.cons (.var 4) (.cons (.var 6) (.cons (.var 7) .nil)))))) .nil
noncomputable def Bg:ISs:=.cons (.expr (.mcall 4 "Run" "go_on" (.var 0) (.cons (.var 1) (.cons (.var 3) (.cons (.ife (.cmp .Eq (.ix (.var 6) (.int 0)) (.str "take")) (.ix (.var 6) (.int 2)) .non) .nil))))) .nil
noncomputable def On:ISs:=.cons (.ite (.cmp .NotIn (.ix (.var 6) (.int 0)) (.tup (.cons (.str "done") (.cons (.str "wait") .nil)))) Bg .nil) Bf
noncomputable def Oo:ISs:=.cons (.fset "Run" (.var 0) "moment" (.bin .Add (.fld "Run" (.var 0) "moment") (.int 1))) On
noncomputable def G5:ISs:=.cons (.set 6 (.ix (.var 10) (.int 0))) .nil
noncomputable def Op:ISs:=.cons (.ite (.cmp .IsNot (.ix (.var 10) (.int 0)) .non) G5 .nil) .nil
noncomputable def Oq:ISs:=.cons (.expr (.mt .append (.var 7) (.cons (.tup (.cons (.ix (.var 9) (.int 0)) (.cons (.ix (.var 10) (.int 1)) .nil))) .nil))) Op
noncomputable def Os:ISs:=.cons (.set 10 (.mcall 5 "Run" "ring_ferry" (.var 0) (.cons (.var 9) (.cons (.var 1) (.cons (.bin .FloorDiv (.var 2) (.call 1 (.bin .Mult (.glb "BITS_A_FERRY" 8) (.var 8)) .nil)) (.cons (.var 5) .nil)))))) Oq
noncomputable def Ot:ISs:=.cons (.ite (.cmp .In (.var 1) (.tup (.cons (.ix (.var 9) (.int 1)) (.cons (.ix (.var 9) (.int 2)) .nil)))) Os .nil) .nil
noncomputable def Ou:ISs:=.cons (.set 9 (.ix (.ix (.fld "Run" (.var 0) "world") (.int 2)) (.var 8))) Ot
noncomputable def Ov:ISs:=.cons (.for_ (.nm 8) (.rng (.bi .len (.ix (.fld "Run" (.var 0) "world") (.int 2)) .nil)) Ou) Oo
noncomputable def Ow:ISs:=.cons (.set 7 (.lst .nil)) Ov
noncomputable def Ox:ISs:=.cons (.set 6 (.call 2 (.var 5) .nil)) Ow
noncomputable def Oy:ISs:=.cons (.set 5 (.call 3 (.ix (.fld "Run" (.var 0) "world") (.int 0)) (.cons (.var 3) (.cons (.var 4) (.cons (.ix (.fld "Run" (.var 0) "words_now") (.var 1)) .nil))))) Ox
noncomputable def Oz:ISs:=.cons (.set 4 (.ix (.fld "Run" (.var 0) "next_numbers") (.var 1))) Oy
noncomputable def OA:ISs:=.cons (.set 3 (.ix (.call 0 (.fld "Run" (.var 0) "world") (.cons (.var 1) .nil)) (.int 2))) Oz
noncomputable abbrev G6:ISs:=OA
noncomputable def OB:GI:={bl:=GB,gl:=GL,fns:=["island_of","two_to","what_alone","wish"],mts:=[(4,"Run","go_on"),(5,"Run","ring_ferry")],mks:=[],cls:=GC}
theorem Zg4:chkSs OB (X4 Zt) ["self","name","choice","steps","number","asked","what","samples","j","ferry","told"] G6 (Xb Zt)=true:=by decide+kernel
noncomputable def OC:ISs:=.cons (.ret (.tup (.cons (.tup (.cons (.str "take") (.cons (.ix (.var 1) (.int 0)) (.cons (.ix (.var 7) (.int 0)) .nil)))) (.cons (.ix (.var 7) (.int 1)) .nil)))) .nil
noncomputable def OD:ISs:=.cons (.expr (.mt .append (.ix (.fld "Run" (.var 0) "taken_so_far") (.ix (.var 1) (.int 0))) (.cons (.ix (.var 7) (.int 0)) .nil))) OC
noncomputable def OE:ISs:=.cons (.ret (.var 7)) .nil
noncomputable def OF:ISs:=.cons (.ite (.cmp .Is (.ix (.var 7) (.int 0)) .non) OE .nil) OD
noncomputable def G7:ISs:=.cons (.set 7 (.mcall 2 "Ferry" "ring_taker" (.var 5) (.cons (.fld "Run" (.var 0) "moment") (.cons (.var 3) (.cons (.var 6) .nil))))) OF
noncomputable def OG:ISs:=.cons (.ret (.tup (.cons (.var 4) (.cons (.ix (.var 7) (.int 1)) .nil)))) .nil
noncomputable def OH:ISs:=.cons (.expr (.mt .append (.ix (.fld "Run" (.var 0) "given_so_far") (.ix (.var 1) (.int 0))) (.cons (.ix (.var 4) (.int 2)) .nil))) OG
noncomputable def OI:ISs:=.cons (.ret (.tup (.cons .non (.cons (.ix (.var 7) (.int 1)) .nil)))) .nil
noncomputable def G8:ISs:=.cons (.ite (.not (.ix (.var 7) (.int 0))) OI .nil) OH
noncomputable def OJ:ISs:=.cons (.set 7 (.mcall 1 "Ferry" "ring_giver" (.var 5) (.cons (.fld "Run" (.var 0) "moment") (.cons (.var 3) (.cons (.ife (.var 6) (.ix (.var 4) (.int 2)) .non) .nil))))) G8
noncomputable def OK:ISs:=.cons (.ite (.cmp .Eq (.ix (.var 1) (.int 1)) (.var 2)) OJ .nil) G7
noncomputable def OL:ISs:=.cons (.set 6 (.call 0 (.var 4) (.cons (.ix (.var 1) (.int 0)) .nil))) OK
noncomputable def OM:ISs:=.cons (.set 5 (.ix (.fld "Run" (.var 0) "boats") (.ix (.var 1) (.int 0)))) OL
noncomputable abbrev G9:ISs:=OM
noncomputable def ON:GI:={bl:=GB,gl:=GL,fns:=["is_wish_of"],mts:=[(1,"Ferry","ring_giver"),(2,"Ferry","ring_taker")],mks:=[],cls:=GC}
theorem Z9f:chkSs ON (X4 Zu) ["self","ferry","name","choice","asked","boat","wished","told"] G9 (Xb Zu)=true:=by decide+kernel
noncomputable def OO:ISs:=.cons (.put (.fld "Run" (.var 0) "steps_so_far") (.var 1) (.bin .Add (.ix (.fld "Run" (.var 0) "steps_so_far") (.var 1)) (.int 1))) .nil
noncomputable def OP:ISs:=.cons (.put (.fld "Run" (.var 0) "words_now") (.var 1) (.ix (.var 4) (.int 1))) OO
noncomputable def OQ:ISs:=.cons (.put (.fld "Run" (.var 0) "next_numbers") (.var 1) (.ix (.var 4) (.int 0))) OP
noncomputable def OR:ISs:=.cons (.set 4 (.call 0 (.ix (.fld "Run" (.var 0) "world") (.int 0)) (.cons (.var 2) (.cons (.ix (.fld "Run" (.var 0) "next_numbers") (.var 1)) (.cons (.ix (.fld "Run" (.var 0) "words_now") (.var 1)) (.cons (.var 3) .nil)))))) OQ
noncomputable abbrev Ga:ISs:=OR
noncomputable def OS:GI:={bl:=GB,gl:=GL,fns:=["after"],mts:=[],mks:=[],cls:=GC}
theorem Zf1:chkSs OS (X4 Zv) ["self","name","steps","word","went"] Ga (Xb Zv)=true:=by decide+kernel
noncomputable def OT:ISs:=.cons (.ret (.bi .list (.call 0 (.fld "Run" (.var 0) "given_so_far") (.cons (.var 1) .nil)) .nil)) .nil
noncomputable abbrev Gb:ISs:=OT
noncomputable def OU:GI:={bl:=GB,gl:=GL,fns:=["looked_up"],mts:=[],mks:=[],cls:=GC}
theorem Zf2:chkSs OU (X4 Zw) ["self","name"] Gb (Xb Zw)=true:=by decide+kernel
noncomputable def OV:ISs:=.cons (.ret (.bi .list (.call 0 (.fld "Run" (.var 0) "taken_so_far") (.cons (.var 1) .nil)) .nil)) .nil
noncomputable abbrev Gc:ISs:=OV
noncomputable def OW:GI:={bl:=GB,gl:=GL,fns:=["looked_up"],mts:=[],mks:=[],cls:=GC}
theorem Zf0:chkSs OW (X4 Zx) ["self","name"] Gc (Xb Zx)=true:=by decide+kernel
noncomputable def OX:ISs:=.cons (.ret (.int 0)) .nil
noncomputable def OY:ISs:=.cons (.ret (.ix (.var 0) (.var 1))) .nil
noncomputable def OZ:ISs:=.cons (.ite (.cmp .Lt (.var 1) (.bi .len (.var 0) .nil)) OY .nil) OX
noncomputable abbrev Gd:ISs:=OZ
noncomputable def P0:GI:={bl:=GB,gl:=GL,fns:=[],mts:=[],mks:=[],cls:=GC}
theorem ZbF:chkSs P0 (X4 AZ) ["script","k"] Gd (Xb AZ)=true:=by decide+kernel
noncomputable def P1:ISs:=.cons (.ret (.and (.bi .isinst (.var 0) (.cons (.ty .int) .nil)) (.not (.bi .isinst (.var 0) (.cons (.ty .bool) .nil))))) .nil
noncomputable abbrev Ge:ISs:=P1
noncomputable def P2:GI:={bl:=GB,gl:=GL,fns:=[],mts:=[],mks:=[],cls:=GC}
theorem ZdL:chkSs P2 (X4 B0) ["found"] Ge (Xb B0)=true:=by decide+kernel
noncomputable def P3:ISs:=.cons (.ret (.bin .Add (.bin .Add (.bin .Mult (.ix (.var 2) (.var 3)) (.var 6)) (.var 7)) (.bin .Mult (.ix (.var 2) (.var 3)) (.bin .Sub (.bin .Sub (.var 5) (.int 1)) (.var 6))))) .nil
noncomputable def P4:ISs:=.cons (.set 7 (.ix (.var 2) (.bin .Mod (.bin .Add (.bin .FloorDiv (.var 0) (.int 4992)) (.bin .Mult (.int 7) (.var 1))) (.int 26)))) P3
noncomputable def P5:ISs:=.cons (.set 6 (.bin .Mod (.bin .Mod (.bin .FloorDiv (.var 0) (.int 24)) (.int 8)) (.var 5))) P4
noncomputable def P6:ISs:=.cons (.set 5 (.bin .Add (.int 1) (.bin .Mod (.bin .FloorDiv (.var 0) (.int 3)) (.int 8)))) P5
noncomputable def P7:ISs:=.cons (.ret (.bin .Add (.bin .Mult (.ix (.var 2) (.var 3)) (.bin .Add (.int 1) (.bin .Mod (.bin .Add (.bin .Mult (.int 3) (.var 1)) (.bin .FloorDiv (.var 0) (.int 192))) (.int 7)))) (.bin .Mult (.var 4) (.bin .FloorDiv (.var 1) (.int 7))))) .nil
noncomputable def P8:ISs:=.cons (.set 4 (.ix (.var 2) (.bin .Mod (.bin .Add (.bin .Add (.var 3) (.int 1)) (.bin .Mod (.bin .FloorDiv (.var 0) (.int 4992)) (.int 25))) (.int 26)))) P7
noncomputable def P9:ISs:=.cons (.ite (.cmp .Eq (.bin .Mod (.var 0) (.int 3)) (.int 2)) P8 .nil) P6
noncomputable def Pa:ISs:=.cons (.set 3 (.bin .Mod (.bin .FloorDiv (.var 0) (.int 192)) (.int 26))) P9
noncomputable def Pb:ISs:=.cons (.set 2 (.str "abcdefghijklmnopqrstuvwxyz")) Pa
noncomputable abbrev Gf:ISs:=Pb
noncomputable def Pc:GI:={bl:=GB,gl:=GL,fns:=[],mts:=[],mks:=[],cls:=GC}
theorem ZeY:chkSs Pc (X4 B1) ["number","k","letters","fill","other","long","at","sign"] Gf (Xb B1)=true:=by decide+kernel
noncomputable def Pd:ISs:=.cons (.ret (.tup (.cons (.str "plus") (.cons (.var 2) (.cons (.tup (.cons (.str "var") (.cons (.ix (.var 1) (.bin .Mod (.bin .FloorDiv (.var 0) (.int 224)) (.int 2))) .nil))) .nil))))) .nil
noncomputable def Pe:ISs:=.cons (.ret (.tup (.cons (.str "pick") (.cons (.tup (.cons (.str "less") (.cons (.var 2) (.cons (.var 3) .nil)))) (.cons (.var 3) (.cons (.var 2) .nil)))))) .nil
noncomputable def Pf:ISs:=.cons (.ite (.cmp .Eq (.bin .Mod (.var 0) (.int 8)) (.int 5)) Pe .nil) Pd
noncomputable def Pg:ISs:=.cons (.ret (.tup (.cons (.ix (.lst (.cons (.str "plus") (.cons (.str "minus") (.cons (.str "times") .nil)))) (.bin .Sub (.bin .Mod (.var 0) (.int 8)) (.int 2))) (.cons (.var 2) (.cons (.var 3) .nil))))) .nil
noncomputable def Ph:ISs:=.cons (.ite (.cmp .Lt (.bin .Mod (.var 0) (.int 8)) (.int 5)) Pg .nil) Pf
noncomputable def Pi:ISs:=.cons (.ret (.ix (.lst (.cons (.var 2) (.cons (.var 3) .nil))) (.bin .Mod (.var 0) (.int 2)))) .nil
noncomputable def Pj:ISs:=.cons (.ite (.cmp .Lt (.bin .Mod (.var 0) (.int 8)) (.int 2)) Pi .nil) Ph
noncomputable def Pk:ISs:=.cons (.set 3 (.tup (.cons (.str "num") (.cons (.ix (.lst (.cons (.bin .Sub (.bin .Mod (.bin .FloorDiv (.var 0) (.int 16)) (.int 7)) (.int 3)) (.cons (.bin .Mod (.bin .Mult (.bin .FloorDiv (.var 0) (.int 16)) (.int 1000000007)) (.bin .Pow (.int 10) (.int 20))) .nil))) (.bin .Mod (.bin .FloorDiv (.var 0) (.int 112)) (.int 2))) .nil)))) Pj
noncomputable def Pl:ISs:=.cons (.set 2 (.tup (.cons (.str "var") (.cons (.ix (.var 1) (.bin .Mod (.bin .FloorDiv (.var 0) (.int 8)) (.int 2))) .nil)))) Pk
noncomputable abbrev Gg:ISs:=Pl
noncomputable def Pn:GI:={bl:=GB,gl:=GL,fns:=[],mts:=[],mks:=[],cls:=GC}
theorem ZeW:chkSs Pn (X4 B3) ["number","names","one","other"] Gg (Xb B3)=true:=by decide+kernel
noncomputable def Po:ISs:=.cons (.ret (.tup (.cons (.str "put") (.cons (.ix (.var 2) (.bin .Mod (.bin .FloorDiv (.var 0) (.int 8)) (.int 2))) (.cons (.call 0 (.var 7) (.cons (.var 2) .nil)) .nil))))) .nil
noncomputable def Pp:ISs:=.cons (.ret (.tup (.cons (.str "jump") (.cons (.call 0 (.var 7) (.cons (.var 2) .nil)) (.cons (.bin .Mod (.bin .FloorDiv (.var 0) (.int 8)) (.bin .Add (.var 4) (.int 1))) .nil))))) .nil
noncomputable def Gh:ISs:=.cons (.ite (.cmp .Eq (.bin .Mod (.var 0) (.int 8)) (.int 7)) Pp .nil) Po
noncomputable def Pq:ISs:=.cons (.ret (.tup (.cons (.str "give") (.cons (.ix (.var 6) (.bin .Mod (.bin .FloorDiv (.var 0) (.int 8)) (.bi .len (.var 6) .nil))) (.cons (.call 0 (.var 7) (.cons (.var 2) .nil)) .nil))))) .nil
noncomputable def Gi:ISs:=.cons (.ite (.and (.cmp .Lt (.bin .Mod (.var 0) (.int 8)) (.int 6)) (.cmp .NotEq (.var 6) (.lst .nil))) Pq .nil) Gh
noncomputable def Pr:ISs:=.cons (.ret (.tup (.cons (.str "take") (.cons (.ix (.var 5) (.bin .Mod (.bin .FloorDiv (.var 0) (.int 8)) (.bi .len (.var 5) .nil))) (.cons (.ix (.var 2) (.bin .Mod (.var 7) (.int 2))) .nil))))) .nil
noncomputable def Ps:ISs:=.cons (.ite (.and (.cmp .Lt (.bin .Mod (.var 0) (.int 8)) (.int 3)) (.cmp .NotEq (.var 5) (.lst .nil))) Pr .nil) Gi
noncomputable def Pt:ISs:=.cons (.set 7 (.bin .FloorDiv (.var 0) (.int 128))) Ps
noncomputable def Pu:ISs:=.cons (.set 6 (.comp ["ferry"] [1] (.seq (.var 3)) (.nm 0) (.some (.cmp .Eq (.ix (.var 0) (.int 1)) (.var 1))) (.ix (.var 0) (.int 0)))) Pt
noncomputable def Pv:ISs:=.cons (.set 5 (.comp ["ferry"] [1] (.seq (.var 3)) (.nm 0) (.some (.cmp .Eq (.ix (.var 0) (.int 2)) (.var 1))) (.ix (.var 0) (.int 0)))) Pu
noncomputable abbrev Gj:ISs:=Pv
noncomputable def Pw:GI:={bl:=GB,gl:=GL,fns:=["_law_term"],mts:=[],mks:=[],cls:=GC}
theorem ZeX:chkSs Pw (X4 B4) ["number","name","names","ferries","many","takes","gives","rest"] Gj (Xb B4)=true:=by decide+kernel
noncomputable def Gk:ISs:=.cons (.ret (.tup (.cons (.var 5) (.cons (.var 7) (.cons (.var 10) .nil))))) .nil
noncomputable def Px:ISs:=.cons (.expr (.mt .append (.var 10) (.cons (.tup (.cons (.str "jump") (.cons (.tup (.cons (.str "num") (.cons (.int 1) .nil))) (.cons (.int 0) .nil)))) .nil))) .nil
noncomputable def Py:ISs:=.cons (.ite (.cmp .Eq (.var 9) (.int 1)) Px .nil) Gk
noncomputable def Pz:ISs:=.cons (.set 0 (.bin .FloorDiv (.var 0) (.bin .Pow (.int 10) (.int 8)))) .nil
noncomputable def PB:ISs:=.cons (.expr (.mt .append (.var 10) (.cons (.call 1 (.bin .Mod (.var 0) (.bin .Pow (.int 10) (.int 8))) (.cons (.var 5) (.cons (.var 6) (.cons (.var 3) (.cons (.bin .Add (.var 8) (.var 9)) .nil))))) .nil))) Pz
noncomputable def PC:ISs:=.cons (.for_ (.nm 11) (.rng (.var 8)) PB) Py
noncomputable def PD:ISs:=.cons (.set 10 (.lst .nil)) PC
noncomputable def PF:ISs:=.cons (.set 0 (.bin .FloorDiv (.var 0) (.int 112))) PD
noncomputable def PH:ISs:=.cons (.set 9 (.bi .int (.cmp .Lt (.bin .Mod (.bin .FloorDiv (.var 0) (.int 28)) (.int 4)) (.var 4)) .nil)) PF
noncomputable def PJ:ISs:=.cons (.set 8 (.bin .Mod (.bin .FloorDiv (.var 0) (.int 4)) (.int 7))) PH
noncomputable def PK:ISs:=.cons (.set 7 (.lst (.cons (.tup (.cons (.ix (.var 6) (.int 0)) (.cons (.bin .Mod (.var 0) (.int 2)) .nil))) (.cons (.tup (.cons (.ix (.var 6) (.int 1)) (.cons (.bin .Mod (.bin .FloorDiv (.var 0) (.int 2)) (.int 2)) .nil))) .nil)))) PJ
noncomputable def PL:ISs:=.cons (.set 6 (.lst (.cons (.call 0 (.var 2) (.cons (.int 9) .nil)) (.cons (.call 0 (.var 2) (.cons (.int 10) .nil)) .nil)))) PK
noncomputable def PM:ISs:=.cons (.set 5 (.call 0 (.var 2) (.cons (.var 1) .nil))) PL
noncomputable abbrev Gm:ISs:=PM
noncomputable def PN:GI:={bl:=GB,gl:=GL,fns:=["_law_name","_law_step"],mts:=[],mks:=[],cls:=GC}
theorem Zcn:chkSs PN (X4 B5) ["number","k","naming","ferries","around","name","names","pairs","many","ending","steps","j"] Gm (Xb B5)=true:=by decide+kernel
noncomputable def PP:ISs:=.cons (.ret (.tup (.cons (.var 4) (.cons (.var 12) (.cons (.var 6) .nil))))) .nil
noncomputable def PQ:ISs:=.cons (.expr (.mt .append (.var 12) (.cons (.call 1 (.bin .Mod (.call 0 (.var 0) (.cons (.bin .Add (.int 6) (.var 7)) .nil)) (.bin .Pow (.int 10) (.int 60))) (.cons (.var 7) (.cons (.var 3) (.cons (.var 6) (.cons (.var 1) .nil))))) .nil))) .nil
noncomputable def PR:ISs:=.cons (.for_ (.nm 7) (.rng (.var 5)) PQ) PP
noncomputable def PU:ISs:=.cons (.set 12 (.lst .nil)) PR
noncomputable def PV:ISs:=.cons (.expr (.mt .append (.var 6) (.cons (.tup (.cons (.call 2 (.var 3) (.cons (.bin .Add (.int 5) (.var 7)) .nil)) (.cons (.ix (.var 11) (.int 0)) (.cons (.ix (.var 11) (.int 1)) (.cons (.bin .Mod (.bin .FloorDiv (.var 8) (.int 20)) (.int 4)) (.cons (.bin .Add (.int 1) (.bin .Mod (.bin .FloorDiv (.var 8) (.int 80)) (.int 3))) .nil)))))) .nil))) .nil
noncomputable def PX:ISs:=.cons (.set 11 (.tup (.cons (.call 2 (.var 3) (.cons (.var 9) .nil)) (.cons (.call 2 (.var 3) (.cons (.var 10) .nil)) .nil)))) PV
noncomputable def PY:ISs:=.cons (.set 10 (.bin .Mod (.bin .Add (.bin .Add (.var 9) (.int 1)) (.bin .Mod (.bin .FloorDiv (.var 8) (.int 5)) (.bin .Sub (.var 5) (.int 1)))) (.var 5))) PX
noncomputable def PZ:ISs:=.cons (.set 9 (.bin .Mod (.var 8) (.var 5))) PY
noncomputable def Q0:ISs:=.cons (.set 8 (.bin .FloorDiv (.bin .Mod (.call 0 (.var 0) (.cons (.bin .Add (.int 2) (.bin .Mod (.var 7) (.int 4))) .nil)) (.bin .Pow (.int 10) (.int 15))) (.ix (.lst (.cons (.int 1) (.cons (.int 1000000) .nil))) (.bin .FloorDiv (.var 7) (.int 4))))) PZ
noncomputable def Q1:ISs:=.cons (.for_ (.nm 7) (.rng (.bi .min (.bin .Sub (.bin .Mult (.int 6) (.var 5)) (.int 6)) (.cons (.bin .Mod (.bin .FloorDiv (.var 2) (.int 2048)) (.int 7)) .nil))) Q0) PU
noncomputable def Q2:ISs:=.cons (.set 6 (.lst .nil)) Q1
noncomputable def Q3:ISs:=.cons (.set 5 (.bin .Add (.int 1) (.bin .Mod (.var 2) (.int 5)))) Q2
noncomputable def Q4:ISs:=.cons (.set 4 (.ix (.lst (.cons (.bin .Add (.int 1) (.bin .Mod (.bin .FloorDiv (.var 2) (.int 16)) (.int 64))) (.cons (.bin .Add (.int 1) (.bin .Mod (.bin .FloorDiv (.var 2) (.int 16)) (.int 5))) .nil))) (.bin .Mod (.bin .FloorDiv (.var 2) (.int 1024)) (.int 2)))) Q3
noncomputable def Q5:ISs:=.cons (.set 3 (.bin .Mod (.call 0 (.var 0) (.cons (.int 1) .nil)) (.bin .Pow (.int 10) (.int 9)))) Q4
noncomputable def Q6:ISs:=.cons (.set 2 (.bin .Mod (.call 0 (.var 0) (.cons (.int 0) .nil)) (.bin .Pow (.int 10) (.int 9)))) Q5
noncomputable abbrev Gn:ISs:=Q6
noncomputable def Q7:GI:={bl:=GB,gl:=GL,fns:=["_law_cell_at","_law_island","_law_name"],mts:=[],mks:=[],cls:=GC}
theorem Zcm:chkSs Q7 (X4 B6) ["script","around","head","naming","width","many","ferries","k","number","giver","taker","ends","islands"] Gn (Xb B6)=true:=by decide+kernel
noncomputable def Q8:ISs:=.cons (.ret (.var 2)) .nil
noncomputable def Q9:ISs:=.cons (.expr (.mt .append (.var 2) (.cons (.tup (.cons (.ix (.ix (.var 1) (.bin .Mod (.var 3) (.bi .len (.var 1) .nil))) (.int 0)) (.cons (.bin .Mod (.bin .FloorDiv (.var 3) (.bi .len (.var 1) .nil)) (.bin .Pow (.int 10) (.int 30))) .nil))) .nil))) .nil
noncomputable def Qa:ISs:=.cons (.for_ (.nm 3) (.seq (.var 0)) Q9) Q8
noncomputable def Qb:ISs:=.cons (.set 2 (.lst .nil)) Qa
noncomputable abbrev Go:ISs:=Qb
noncomputable def Qc:GI:={bl:=GB,gl:=GL,fns:=[],mts:=[],mks:=[],cls:=GC}
theorem ZdM:chkSs Qc (X4 B7) ["cells","islands","rings","cell"] Go (Xb B7)=true:=by decide+kernel
noncomputable def Qd:ISs:=.cons (.ret (.bl true)) .nil
noncomputable def ZnI:ISs:=.cons (.ret (.bl false)) .nil
noncomputable def Qe:ISs:=.cons (.ite (.cmp .NotEq (.comp ["word"] [1] (.seq (.var 8)) (.nm 0) (.some (.or (.not (.call 2 (.var 0) .nil)) (.or (.cmp .Lt (.var 0) (.int 0)) (.cmp .GtE (.var 0) (.bin .LShift (.int 1) (.var 1)))))) (.var 0)) (.lst .nil)) ZnI .nil) .nil
noncomputable def Zq1:ISs:=.cons (.ret (.bl false)) .nil
noncomputable def Qf:ISs:=.cons (.ite (.or (.cmp .NotEq (.sl (.var 8) .none (.some (.bi .len (.var 9) .nil))) (.var 9)) (.cmp .Gt (.bin .Sub (.bi .len (.var 8) .nil) (.bi .len (.var 9) .nil)) (.bin .LShift (.int 1) (.ix (.var 7) (.int 3))))) Zq1 .nil) Qe
noncomputable def Qg:ISs:=.cons (.set 9 (.mcall 7 "Run" "taken" (.var 4) (.cons (.ix (.var 7) (.int 0)) .nil))) Qf
noncomputable def Qh:ISs:=.cons (.set 8 (.mcall 5 "Run" "given" (.var 4) (.cons (.ix (.var 7) (.int 0)) .nil))) Qg
noncomputable def Qi:ISs:=.cons (.for_ (.nm 7) (.seq (.var 3)) Qh) .nil
noncomputable def Qj:ISs:=.cons (.expr (.mcall 6 "Run" "ring" (.var 4) (.cons (.var 5) (.cons (.var 6) .nil)))) Qi
noncomputable def Qk:ISs:=.cons (.for_ (.tup (.cons (.nm 5) (.cons (.nm 6) .nil))) (.seq (.call 0 (.sl (.var 0) (.some (.int 10)) (.some (.int 90))) (.cons (.var 2) .nil))) Qj) Qd
noncomputable def Ql:ISs:=.cons (.set 4 (.make 4 "Run" (.call 3 (.var 1) (.cons (.bi .list (.var 2) .nil) (.cons (.bi .list (.var 3) .nil) .nil))) .nil)) Qk
noncomputable def Qm:ISs:=.cons (.asg (.cons (.nm 1) (.cons (.nm 2) (.cons (.nm 3) .nil))) (.call 1 (.var 0) (.cons (.int 3) .nil))) Ql
noncomputable abbrev Gp:ISs:=Qm
noncomputable def Qn:GI:={bl:=GB,gl:=GL,fns:=["_law_rings","_law_things","_law_whole","made"],mts:=[(5,"Run","given"),(6,"Run","ring"),(7,"Run","taken")],mks:=[(4,"Run")],cls:=GC}
theorem Zqa:chkSs Qn (X4 B8) ["script","width","islands","ferries","run","name","choice","ferry","given","taken"] Gp (Xb B8)=true:=by decide+kernel
theorem szl:sizeLine=16777216:=by decide
theorem na10:Int.natAbs 10=10:=rfl
theorem na1:Int.natAbs 1=1:=rfl
theorem at0{α:Type}{x:α}{xs:List α}:atI (x::xs) 0=some x:=by unfold atI ixN;simp
theorem at1{α:Type}{x y:α}{xs:List α}:atI (x::y::xs) 1=some y:=YI (j:=1) (by rfl)
theorem at2{α:Type}{x y z:α}{xs:List α}:atI (x::y::z::xs) 2=some z:=YI (j:=2) (by rfl)
theorem at3{α:Type}{x y z u:α}{xs:List α}:atI (x::y::z::u::xs) 3=some u:=YI (j:=3) (by rfl)
theorem at4{α:Type}{x y z u v:α}{xs:List α}:atI (x::y::z::u::v::xs) 4=some v:=YI (j:=4) (by rfl)
theorem Wk{a b:String}:(Yj a=Yj b)↔a=b:=by
 constructor
 ·intro h;rw[Str.ofString_eq_toList,Str.ofString_eq_toList]at h;have h1:a.toList.map Cv=b.toList.map Cv:=by
   have:=congrArg (λs:Str=>s.cps.toList) h
   simpa using this
  have inj:∀(xs ys:List Char),xs.map Cv=ys.map Cv->xs=ys:=by
   intro xs
   induction xs with
   |nil=>
    intro ys e;cases ys with
    |nil=>rfl
    |cons _ _=>cases e
   |cons x r ih=>
    intro ys e;cases ys with
    |nil=>cases e
    |cons y s=>
     rw[XD,XD]at e;injection e with e1 e2;rw[ih s e2,Char.toNat_inj.mp e1]
  exact String.toList_inj.mp (inj _ _ h1)
 ·intro h;rw[h]
theorem Yb{c A B:Prop} [Decidable c] (h1:c->A)(h2:¬c->B):if c then A else B:=by
 split
 ·exact h1 ‹_›
 ·exact h2 ‹_›
theorem ZnN{a:Str}{b:SpM}{R:SpM->Prop}:(∃f sp,(a=f/\b=sp)/\R sp)↔R b:=⟨fun⟨_,_,⟨_,e⟩,h⟩=>e▸h,λh=>⟨a,b,⟨rfl,rfl⟩,h⟩⟩
theorem isN0:UJ .non=true:=rfl
theorem isN2{b:Int}:UJ (.int b)=false:=rfl
theorem isN4{b:List MV}:UJ (.tup b)=false:=rfl
local macro_rules | `(tactic| walk_at "s") => `(tactic| simp only [seval, szl, na10, na1, Nat.zero_add, Nat.reduceAdd, Nat.zero_le, at0, at1, at2, at3, at4, Wk, ZnN, X9, Zqv, ZoB, Zqt, Zqs, Zqy, Zqu, Zoz, ZoA, Zqw, Zqx, Zms, v_s, b_0, f_s, ZrD, ZrK, ZrF, e_bl, ZrH, ZrM, e_ty, ZrQ, ZrI, ZrG, ZrO, ZrP, ZrR, e_or, ZrL, ZrE, ZrJ, e_ix, e_sl, Zq6, e_bi, e_b2, e_mt, ZrN, ZnP, Zq5, Zq4, ZnO, ZpA, Zpz, ZqN, ZqK, ZqM, ZqL, isN0, isN2, isN4, isTy, Zrk,
ZqO, Zr8, Zp2, Zr9, Zr0, ZqV, Zri, ZqC, Zp6, ZoP, Zp5, ZoO, q_lt, q_le, Zra, q_gt, q_ge, Zrg, Zr7, Zrf, Zr5, q_is, ZmC, ZoQ, Zp0, ZmB, ZqQ, Zr6, q_in, Zr4, Kl, Km, ZmA, Kn, Zrc, Zrb, ZqT, ZoK, ZqU, ZqS, ZoT, ZoW, ZoU, ZoV, Zmz, Zrd, ZoZ, ZqG, ZqE, ZqD, ZqF, ZoH, Zmx, Zmy, ZoI, Zp3, ZmD, ZmE, Zrj, Zrh, Zp4, Zre, ZoN, ZoM, ZqZ, ZoL, Zmw, ZqW,
ZqR, ZoJ, ZqJ, ZqI, ZqH, Zr3, Zr2, Zr1, ZqP, ZqX, ZqY, ZoS, ZoR, Zp1, WW, CMul, CPow, List.getElem?_cons_zero, List.getElem?_cons_succ, Option.some.injEq, MV.int.injEq, MV.bl.injEq, MV.tup.injEq, MV.ref.injEq, MO.lst.injEq, MO.dic.injEq, MO.ins.injEq, Prod.mk.injEq, exists_eq_left', exists_eq_left, exists_and_left, true_and, and_true, false_and, and_false, true_or, or_true, false_or, or_false, reduceCtorEq, ne_eq, not_false_eq_true, not_true_eq_false, List.set_cons_zero, List.set_cons_succ, decide_eq_true_eq, Bool.not_eq_true', decide_eq_false_iff_not, if_true, if_false, Bool.false_eq_true, reduceIte, List.length_cons, List.length_nil, and_self, String.reduceEq, String.reduceNe, Int.reduceLT, Int.reduceLE, Int.reducePow, Int.reduceNeg, Int.reduceToNat, Int.reduceSub, Int.reduceAdd, Int.reduceMul, Nat.reduceLT, Nat.reducePow, Nat.reduceLeDiff])
theorem ZnM{α:Sort _}{p q:α->Prop}(h:∀a,p a->q a):(∃a,p a)->∃a,q a:=fun⟨a,x⟩=>⟨a,h a x⟩
theorem Zlh{a b c:Prop}(h:b->c):a/\b->a/\c:=λx=>⟨x.1,h x.2⟩
theorem ZjJ{a b c d:Prop}(h:a->c)(g:b->d):a/\b->c/\d:=λx=>⟨h x.1,g x.2⟩
theorem ZmV{a b c d:Prop}(h:a->c)(g:b->d):a\/b->c\/d:=λx=>x.elim (λy=>.inl (h y)) λy=>.inr (g y)
theorem Zlj{α:Sort _}{p q:α->Prop}(h:∀a,p a->q a):(∀a,p a)->∀a,q a:=λx a=>h a (x a)
local macro_rules | `(tactic| walk_at "m") => `(tactic| (intro vs M Q Q' hq; repeat (first | exact hq _ _ | exact id | refine ZnM fun _ => ?_ | refine Zlh ?_ | refine ZjJ ?_ ?_ | refine Zlj fun _ => ?_ | refine ZmV ?_ ?_)))
def SameM(M M':MH):Prop:=∀a o,M a=some o->M' a=some o
theorem SameM.refl(M:MH):SameM M M:=λ_ _ h=>h
theorem SameM.trans{M M1 M2:MH}(a:SameM M M1)(b:SameM M1 M2):SameM M M2:=λc o h=>b c o (a c o h)
theorem neM{M:MH}{a p:Addr}{o:MO}(h:M a=some o)(hp:M p=none):a≠p:=by intro e;subst e;rw[h]at hp;cases hp
theorem SameM.new{M:MH}{p:Addr}(h:M p=none)(o:MO):SameM M (updM M p o):=λa u e=>by rw[Xc (neM e h)];exact e
theorem SameM.free{M M':MH}(s:SameM M M'){p:Addr}(h:M' p=none):M p=none:=by
 cases e:M p with
 |none=>rfl
 |some o=>rw[s _ _ e]at h;cases h
theorem SameM.upd{M M':MH}(s:SameM M M'){p:Addr}(h:M p=none)(o:MO):SameM M (updM M' p o):=λa u e=>by rw[Xc (neM e h)];exact s a u e
theorem Bh{lo:Int}{n i:Nat}{x:MV}(h:(Src.rng lo n).items[i]?=some x):i<n/\x=.int (lo+(i:Nat)):=by
 have hi:=(XV.mp h).1;rw[Src.items_len]at hi;refine⟨hi,?_⟩;have h':((Xx n).map λi=>MV.int (lo+(i:Nat)))[i]?=some x:=h;rw[Xw,Xd (by simpa using(show i<n from hi))]at h'
 simpa using h'.symm
theorem YU{α:Type}{f:α->MV}{xs:List α}{i:Nat}{x:MV}(h:(xs.map f)[i]?=some x):∃hi:i<xs.length,x=f xs[i]:=by
 have hi:=(XV.mp h).1;rw[Xa]at hi;refine⟨hi,?_⟩;rw[Xw,Xd hi]at h;exact(YD h).symm
theorem UM{Φ:List (Str×SpM)}(hm:∀p∈Φ,MonW p.2):∀(j:Nat) f sp,Φ[j]?=some (f,sp)->MonW sp:=λj f sp h=>hm (f,sp) (XE h)
theorem Zhu(xs:List MV)(k:Nat):cutM xs none (some (k:Int))=xs.take k:=by
 unfold cutM;rw[HT.sIx_none,HT.sIx_nat];simp
theorem Zhv(xs:List MV)(k:Nat):cutM xs (some (k:Int)) none=xs.drop k:=by
 unfold cutM;rw[HT.sIx_none,HT.sIx_nat];by_cases h:k≤xs.length
 ·rw[E1 h,VC (by rw[WC];exact Xi _)]
 ·rw[Nat.min_eq_right (by lia),He (Xi _),He (by lia)]
  simp
theorem D0{κ:Type} [DecidableEq κ] (k:κ)(v:MV)(j:κ):∀kvs:List (κ×MV),valM (putM kvs k v) j=if j=k then some v else valM kvs j
 |[]=>by
  unfold putM valM;by_cases e:k=j
  ·rw[if_pos e,if_pos e.symm]
  ·rw[if_neg e,if_neg (λz=>e z.symm)]
   rfl
 |(i,u)::r=>by
  unfold putM;by_cases e:i=k
  ·rw[if_pos e];subst e;unfold valM;by_cases f:i=j
   ·rw[if_pos f,if_pos f.symm]
   ·rw[if_neg f,if_neg (λz=>f z.symm),if_neg f]
  ·rw[if_neg e];unfold valM;by_cases f:i=j
   ·rw[if_pos f,if_neg (λz=>e (f.trans z)),if_pos f]
   ·rw[if_neg f,D0 k v j r,if_neg f]
theorem Zjp{Φ:List (Str×SpM)}{own:List Str}{fr:List Nat}{src:ISr}{tg:ITg}{test elt:IE}{σ:Sm}{M:MH}{Q:QM}{α:Type}(xs:List α)(f:α->MV)
  (hs:wSr Φ src σ M λS M1=>S.items=xs.map f/\xs.length<sizeLine/\S.okF M1/\M1=M)
  (ht:∀x∈xs,∀M',SameM M M'->wTg tg (f x) (sCm own fr σ) λσ2=>wE Φ test σ2 M' λv M2=>v=.bl false/\M2=M')
  (hΦ:∀(j:Nat) f sp,Φ[j]?=some (f,sp)->MonW sp) (q:∀D,M D=none->Q (.ref D) (updM M D (.lst []))):wE Φ (.comp own fr src tg (.some test) elt) σ M Q:=by
 rw[Af];refine mon_sr hΦ src (λS M1 ⟨h1,h2,h3,h4⟩=>?_) hs;subst h4;have hl:S.len=xs.length:=by rw[<- S.items_len,h1,Xa]
 refine⟨by rw[hl];exact h2,λD hD=>⟨λi ys M2=>M2=updM M1 D (.lst [])/\ys=[],⟨rfl,rfl⟩,?_,?_,?_⟩⟩
 ·rintro i ys M2 ⟨rfl,rfl⟩;refine⟨X9,YO _,?_⟩;cases S with
  |tup _=>trivial
  |rng _ _=>trivial
  |rst _ _ _=>trivial
  |dic _ _ _=>exact h3.elim
  |str _=>trivial
  |lst a zs=>exact SameM.new hD _ _ _ h3
 ·rintro i x ys M2 hx ⟨rfl,rfl⟩;rw[h1]at hx;obtain⟨hi,rfl⟩:=YU hx;refine UK tg (λσ2 h=>?_) (ht xs[i] (Y1 hi) _ (SameM.new hD (.lst [])));rw[wI];refine X7 hΦ test (λv M2 ⟨e1,e2⟩=>?_) h;subst e1 e2;exact⟨false,rfl,by rw[if_neg XC];exact⟨rfl,rfl⟩⟩
 ·rintro ys M2 ⟨rfl,rfl⟩;rw[Ag h3];exact q D hD
inductive Form where|plus|minus|times|less|same
def Form.str:Form->Str
 |.plus=>"plus"|.minus=>"minus"|.times=>"times"|.less=>"less"|.same=>"same"
inductive Tm where
 |num (n:Int)|var (x:Str)|two (f:Form) (a b:Tm)|pick (c a b:Tm)
def Tm.depth:Tm->Nat
 |.num _=>1|.var _=>1|.two _ a b=>1+max a.depth b.depth|.pick c a b=>1+max c.depth (max a.depth b.depth)
def Tm.size:Tm->Nat
 |.num _=>1|.var _=>1|.two _ a b=>1+(a.size+b.size)|.pick c a b=>1+(c.size+(a.size+b.size))
def Tm.reads:Tm->List Str
 |.num _=>[]|.var x=>[x]|.two _ a b=>a.reads++b.reads|.pick c a b=>c.reads++(a.reads++b.reads)
def twoV(w:Nat)(l r:Int):Form->Int
 |.plus=>(l+r)%2^w
 |.minus=>(l - r)%2^w
 |.times=>(l*r)%2^w
 |.less=>if l<r then 1 else 0
 |.same=>if l=r then 1 else 0
def Tm.val(ρ:Str->Int)(w:Nat):Tm->Int
 |.num n=>n%2^w
 |.var x=>ρ x
 |.two f a b=>twoV w (a.val ρ w) (b.val ρ w) f
 |.pick c a b=>if c.val ρ w≠0 then a.val ρ w else b.val ρ w
theorem Bi(w:Nat):(0:Int)<2^w:=Int.pow_pos (by decide)
theorem Qo{w:Nat}(h:1≤w):(2:Int)≤2^w:=by
 obtain⟨k,rfl⟩:∃k,w=k+1:=⟨w - 1,by lia⟩
 rw[Int.pow_succ];have:=Bi k;lia
theorem Qp{w:Nat}(h:w≤64):(2:Int)^w≤2^64:=by
 have:=C7 (n:=2) (by decide) h
 have e1:(2:Int)^w=((2^w:Nat):Int):=by rw[V9];rfl
 have e2:(2:Int)^64=((2^64:Nat):Int):=by decide
 rw[e1,e2];exact Int.ofNat_le.mpr this
theorem D3(x:Int)(w:Nat):0≤x%2^w/\x%2^w<2^w:=⟨ZW _ (Int.ne_of_gt (Bi w)),Um _ (Bi w)⟩
theorem twoV_in{w:Nat}(hw:1≤w)(l r:Int)(f:Form):0≤twoV w l r f/\twoV w l r f<2^w:=by
 have:=Qo hw;cases f
 ·exact D3 _ _
 ·exact D3 _ _
 ·exact D3 _ _
 ·unfold twoV;split<;>lia
 ·unfold twoV;split<;>lia
theorem Tm.val_in{ρ:Str->Int}{w:Nat}(hw:1≤w):∀{T:Tm},(∀x∈T.reads,0≤ρ x/\ρ x<2^w)->0≤T.val ρ w/\T.val ρ w<2^w
 |.num n,_=>D3 _ _
 |.var x,h=>h x (by simp[Tm.reads])
 |.two f a b,_=>twoV_in hw _ _ f
 |.pick c a b,h=>by
  unfold Tm.val;split
  ·exact a.val_in hw λx hx=>h x (by simp[Tm.reads,hx])
  ·exact b.val_in hw λx hx=>h x (by simp[Tm.reads,hx])
theorem Tm.depth_pos:∀T:Tm,1≤T.depth
 |.num _=>Xi _
 |.var _=>Xi _
 |.two _ _ _=>Nat.le_add_right _ _
 |.pick _ _ _=>Nat.le_add_right _ _
def Tm.mv:Tm->MV
 |.num n=>.tup [.str "num",.int n]
 |.var x=>.tup [.str "var",.str x]
 |.two f a b=>.tup [.str f.str,a.mv,b.mv]
 |.pick c a b=>.tup [.str "pick",c.mv,a.mv,b.mv]
theorem Qq(f:Form):¬f.str="num":=by cases f<;>decide+kernel
theorem Gq(f:Form):¬f.str="var":=by cases f<;>decide+kernel
theorem Zjd(f:Form):¬f.str="pick":=by cases f<;>decide+kernel
inductive Stp where
 |take (f x:Str)|give (f:Str) (T:Tm)|put (x:Str) (T:Tm)|jump (T:Tm) (i:Int)
def Stp.mv:Stp->MV
 |.take f x=>.tup [.str "take",.str f,.str x]
 |.give f T=>.tup [.str "give",.str f,T.mv]
 |.put x T=>.tup [.str "put",.str x,T.mv]
 |.jump T i=>.tup [.str "jump",T.mv,.int i]
def tmOk(ns:List Str)(T:Tm):Prop:=T.depth≤8/\T.size≤30/\∀x∈T.reads,x∈ns
def Stp.ok(ns:List Str)(n:Nat):Stp->Prop
 |.take _ x=>x∈ns
 |.give _ T=>tmOk ns T
 |.put x T=>x∈ns/\tmOk ns T
 |.jump T i=>tmOk ns T/\0≤i/\i≤n
def D4(M:MH)(x:MV)(xs:List MV):Prop:=x=.tup xs\/∃a,x=.ref a/\M a=some (.lst xs)
def readsOk(ns:List Str)(kvs:List (Key×MV))(ρ:Str->Int)(w:Nat):Prop:=∀x∈ns,valM kvs (Xy x)=some (.int (ρ x))/\0≤ρ x/\ρ x<2^w
theorem readsOk.tm{ns:List Str}{kvs:List (Key×MV)}{ρ:Str->Int}{w:Nat}(h:readsOk ns kvs ρ w){T:Tm}(o:tmOk ns T):∀x∈T.reads,valM kvs (Xy x)=some (.int (ρ x))/\0≤ρ x/\ρ x<2^w:=λx hx=>h x (o.2.2 x hx)
section
variable{P:Xk}{w:Xh}{K:X5}{mg:Str->Option X0}{base:Heap}{t:Adr}
abbrev Z8:SpM:=λvs M Q=>∃k:Nat,vs=[.int k]/\k≤64/\Q (.int (2^k)) M
theorem D5:MonW Z8:=by walk_at "m"
theorem D6(T:Txt K mg t):FnOk P w K mg base CX0 1 t.f_two_to t.d_two_to ["exponent"] (liSp K Z8):=by
 refine T.q_two_to.F.okM Zi8 (Xn (P:=P) (w:=w) (K:=K) (mg:=mg) (base:=base) (k:=0) (G:=Kz) (Φ:=[]) (Ψ:=[]) (Χ:=[]) rfl (Xo T) (Xp T) rfl nl0 nl0 nl0 nl0 (Xq T)) EX Zjr (λvs M Q h=>?_) (λvs M Q h=>?_)
 ·obtain⟨k,rfl,_⟩:=h;rfl
 obtain⟨k,rfl,hk,q⟩:=h;show wSs _ _ _ [some (.int k),none,none] M;delta EX Ky;walk_at "s";delta Kx;walk_at "s";refine⟨by lia,by lia,λi σ M'=>M'=M/\∃v,σ=[some (.int k),some (.int (2^i)),v],⟨rfl,_,rfl⟩,λ_ _ _ _=>trivial,?_,?_⟩
 ·rintro i x σ M' hx ⟨rfl,v,rfl⟩;obtain⟨hi,rfl⟩:=Bh hx;delta Kw;walk_at "s";exact⟨_,by rw[Int.pow_succ]⟩
 ·rintro σ M' ⟨rfl,v,rfl⟩;delta Kv;walk_at "s";exact q
abbrev Wl:SpM:=λvs M Q=>∃(w:Nat) (n:Int),vs=[.int w,.int n]/\w≤64/\Q (.int (n%2^w)) M
theorem Qr:MonW Wl:=by walk_at "m"
theorem Qs(T:Txt K mg t):FnOk P w K mg base CX0 2 t.f_cut t.d_cut ["width","number"] (liSp K Wl):=by
 refine T.q_cut.F.okM Zoy (Xn (P:=P) (w:=w) (K:=K) (mg:=mg) (base:=base) (k:=1) (G:=KD) (Φ:=[("two_to",Z8)]) (Ψ:=[]) (Χ:=[("two_to",Z8)]) rfl (Xo T) (Xp T) rfl (fMc ⟨D5,nl0⟩) (fMc ⟨⟨_,_,_,(FnOk.mono (D6 T) (by decide)),T.q_two_to.m,T.q_two_to.F.kp,T.q_two_to.b⟩,nl0⟩) nl0 nl0 (Xq T)) EZ Zqb (fun vs M Q h=>?_) (fun vs M Q h=>?_)
 ·obtain⟨k,n,rfl,_⟩:=h;rfl
 obtain⟨w,n,rfl,hw,q⟩:=h;show wSs _ _ _ [some (.int w),some (.int n)] M;delta EZ KC;walk_at "s";exact⟨w,rfl,hw,Bi w,q⟩
abbrev D7:SpM:=λvs M Q=>∃(f:Form) (l r:Int) (w:Nat),vs=[.str f.str,.int l,.int r,.int w]/\w≤64/\(-(2^64)<l/\l<2^64)/\Q (.int (twoV w l r f)) M
theorem Z7Q:MonW D7:=by walk_at "m"
theorem Zb0(T:Txt K mg t):FnOk P w K mg base CX0 3 t.f_worth_of_two t.d_worth_of_two ["form","left","right","width"] (liSp K D7):=by
 refine T.q_worth_of_two.F.okM ZaN (Xn (P:=P) (w:=w) (K:=K) (mg:=mg) (base:=base) (k:=2) (G:=Me) (Φ:=[("cut",Wl)]) (Ψ:=[]) (Χ:=[("cut",Wl)]) rfl (Xo T) (Xp T) rfl (fMc ⟨Qr,nl0⟩) (fMc ⟨⟨_,_,_,(FnOk.mono (Qs T) (by decide)),T.q_cut.m,T.q_cut.F.kp,T.q_cut.b⟩,nl0⟩) nl0 nl0 (Xq T)) Fu ZbB (fun vs M Q h=>?_) (fun vs M Q h=>?_)
 ·obtain⟨f,l,r,w,rfl,_⟩:=h;rfl
 obtain⟨f,l,r,w,rfl,hw,hl,q⟩:=h;show wSs _ _ _ [some (.str f.str),some (.int l),some (.int r),some (.int w)] M;delta Fu Md;walk_at "s";cases f with
 |plus=>
  rw[if_pos (by rfl),Mc]
  walk_at "s";exact⟨w,_,rfl,hw,q⟩
 |minus=>
  rw[if_neg (by decide+kernel),B9]
  walk_at "s";rw[if_pos (by rfl),Mb]
  walk_at "s";exact⟨w,_,rfl,hw,q⟩
 |times=>
  rw[if_neg (by decide+kernel),B9]
  walk_at "s";rw[if_neg (by decide+kernel),CV]
  walk_at "s";rw[if_pos (by rfl),LZ]
  walk_at "s";exact⟨.inl hl,w,_,rfl,hw,q⟩
 |less=>
  rw[if_neg (by decide+kernel),B9]
  walk_at "s";rw[if_neg (by decide+kernel),CV]
  walk_at "s";rw[if_neg (by decide+kernel),Ft]
  walk_at "s";rw[if_pos (by rfl),LY]
  walk_at "s";unfold twoV at q;split<;>simp_all
 |same=>
  rw[if_neg (by decide+kernel),B9]
  walk_at "s";rw[if_neg (by decide+kernel),CV]
  walk_at "s";rw[if_neg (by decide+kernel),Ft]
  walk_at "s";rw[if_neg (by decide+kernel),LX]
  walk_at "s";unfold twoV at q;split<;>simp_all
abbrev Zy(n:Nat):SpM:=λvs M Q=>∃(T:Tm) (w:Nat) (d:Addr) (kvs:List (Key×MV)) (ρ:Str->Int),vs=[T.mv,.int w,.ref d]/\T.depth≤n/\1≤w/\w≤64/\M d=some (.dic kvs)/\
 (∀x∈T.reads,valM kvs (Xy x)=some (.int (ρ x))/\0≤ρ x/\ρ x<2^w)/\Q (.int (T.val ρ w)) M
theorem D9(n:Nat):MonW (Zy n):=by walk_at "m"
theorem Da(T:Txt K mg t):∀n:Nat,FnOk P w K mg base CX0 (n+3) t.f_worth t.d_worth ["T","width","words"] (liSp K (Zy n))
 |0=>by
  have no:∀vs M Q,¬Zy 0 vs M Q:=λvs M Q h=>by
   obtain⟨T,w,d,kvs,ρ,_,h0,_⟩:=h;have:=T.depth_pos;lia
  exact⟨λvs H Q E ⟨ms,M,r,rh,h⟩=>absurd h (no _ _ _),λA outer s H args us vs Q E _ _ _ _ ⟨ms,M,r,rh,h⟩=>absurd h (no _ _ _)⟩
 |n+1=>by
  have ih:=Da T n;refine T.q_worth.F.okM Zkb (Xn (P:=P) (w:=w) (K:=K) (mg:=mg) (base:=base) (k:=(n+3)) (G:=Ml) (Φ:=[("cut",Wl),("worth",(Zy n)),("worth_of_two",D7)]) (Ψ:=[]) (Χ:=[("cut",Wl),("worth",(Zy n)),("worth_of_two",D7)]) rfl (Xo T) (Xp T) rfl (fMc ⟨Qr,(fMc ⟨(D9 _),(fMc ⟨Z7Q,nl0⟩)⟩)⟩) (fMc ⟨⟨_,_,_,FnOk.mono (Qs T) (by lia),T.q_cut.m,T.q_cut.F.kp,T.q_cut.b⟩,(fMc ⟨⟨_,_,_,ih,T.q_worth.m,T.q_worth.F.kp,T.q_worth.b⟩,(fMc ⟨⟨_,_,_,FnOk.mono (Zb0 T) (by lia),T.q_worth_of_two.m,T.q_worth_of_two.F.kp,T.q_worth_of_two.b⟩,nl0⟩)⟩)⟩) nl0 nl0 (Xq T)) Fy Zl4 (fun vs M Q h=>?_) (fun vs M Q h=>?_)
  ·obtain⟨T,w,d,kvs,ρ,rfl,_⟩:=h;rfl
  obtain⟨U,w,d,kvs,ρ,rfl,hn,hw1,hw,hd,hr,q⟩:=h;show wSs _ _ _ [some U.mv,some (.int w),some (.ref d),none] M;have p64:=Qp hw;delta Fy Mj;cases U with
  |num m=>
   simp only[Tm.mv];walk_at "s";delta Mi;walk_at "s";exact⟨w,m,rfl,hw,q⟩
  |var x=>
   have hv:=(hr x (by simp[Tm.reads])).1
   simp only[Tm.mv];walk_at "s";delta CW;walk_at "s";delta Mh;walk_at "s";simp only[hd];walk_at "s";exact⟨_,hv,q⟩
  |two f l r=>
   have hdl:l.depth≤n:=by unfold Tm.depth at hn;lia
   have hdr:r.depth≤n:=by unfold Tm.depth at hn;lia
   have hrl:∀x∈l.reads,valM kvs (Xy x)=some (.int (ρ x))/\0≤ρ x/\ρ x<2^w:=λx hx=>hr x (by simp[Tm.reads,hx])
   have hrr:∀x∈r.reads,valM kvs (Xy x)=some (.int (ρ x))/\0≤ρ x/\ρ x<2^w:=λx hx=>hr x (by simp[Tm.reads,hx])
   have inl:=l.val_in hw1 λx hx=>(hrl x hx).2;simp only[Tm.mv];walk_at "s";rw[if_neg (Qq f),CW];walk_at "s";rw[if_neg (Gq f),Fw];walk_at "s";refine⟨l,w,d,kvs,ρ,rfl,hdl,hw1,hw,hd,hrl,?_⟩;delta Fv;walk_at "s";rw[if_neg (Zjd f),Mf];walk_at "s";exact⟨r,w,d,kvs,ρ,rfl,hdr,hw1,hw,hd,hrr,f,_,_,w,rfl,hw,⟨by lia,by lia⟩,q⟩
  |pick c l r=>
   have hdc:c.depth≤n:=by unfold Tm.depth at hn;lia
   have hdl:l.depth≤n:=by unfold Tm.depth at hn;lia
   have hdr:r.depth≤n:=by unfold Tm.depth at hn;lia
   have hrc:∀x∈c.reads,valM kvs (Xy x)=some (.int (ρ x))/\0≤ρ x/\ρ x<2^w:=λx hx=>hr x (by simp[Tm.reads,hx])
   have hrl:∀x∈l.reads,valM kvs (Xy x)=some (.int (ρ x))/\0≤ρ x/\ρ x<2^w:=λx hx=>hr x (by simp[Tm.reads,hx])
   have hrr:∀x∈r.reads,valM kvs (Xy x)=some (.int (ρ x))/\0≤ρ x/\ρ x<2^w:=λx hx=>hr x (by simp[Tm.reads,hx])
   simp only[Tm.mv];walk_at "s";delta CW;walk_at "s";delta Fw;walk_at "s";refine⟨c,w,d,kvs,ρ,rfl,hdc,hw1,hw,hd,hrc,?_⟩;delta Fv;walk_at "s";delta Mg;walk_at "s";refine Yb (λh0=>?_) (λh0=>?_)
   ·have e:Tm.val ρ w (.pick c l r)=l.val ρ w:=if_pos h0;rw[e]at q;exact⟨l,w,d,kvs,ρ,rfl,hdl,hw1,hw,hd,hrl,q⟩
   ·have e:Tm.val ρ w (.pick c l r)=r.val ρ w:=if_neg h0;rw[e]at q;exact⟨r,w,d,kvs,ρ,rfl,hdr,hw1,hw,hd,hrr,q⟩
def dueM(ss:List Stp)(ρ:Str->Int)(w:Nat)(i:Nat):MV:=match ss[i]? with
 |none=>.non
 |some (.take f _)=>.tup [.str "take",.str f]
 |some (.give f T)=>.tup [.str "give",.str f,.int (T.val ρ w)]
 |some _=>.tup [.str "own"]
abbrev Vi:SpM:=λvs M Q=>∃(x:MV) (pw:Addr) (ss:List Stp) (i w:Nat) (kvs:List (Key×MV)) (ρ:Str->Int) (ns:List Str),vs=[.int w,x,.int i,.ref pw]/\D4 M x (ss.map Stp.mv)/\(∀s∈ss,s.ok ns ss.length)/\i≤ss.length/\1≤w/\w≤64/\M pw=some (.dic kvs)/\readsOk ns kvs ρ w/\
 Q (dueM ss ρ w i) M
theorem Zfy:MonW Vi:=by walk_at "m"
theorem Zn1(T:Txt K mg t):FnOk P w K mg base CX0 50 t.f_wish t.d_wish ["width","steps","number","words"] (liSp K Vi):=by
 refine T.q_wish.F.okM Zmn (Xn (P:=P) (w:=w) (K:=K) (mg:=mg) (base:=base) (k:=49) (G:=Mp) (Φ:=[("worth",(Zy 40))]) (Ψ:=[]) (Χ:=[("worth",(Zy 40))]) rfl (Xo T) (Xp T) rfl (fMc ⟨(D9 _),nl0⟩) (fMc ⟨⟨_,_,_,FnOk.mono (Da T 40) (by decide),T.q_worth.m,T.q_worth.F.kp,T.q_worth.b⟩,nl0⟩) nl0 nl0 (Xq T)) FD ZnT (fun vs M Q h=>?_) (fun vs M Q h=>?_)
 ·obtain⟨_,_,_,_,_,_,_,_,rfl,_⟩:=h;rfl
 obtain⟨x,pw,ss,i,w,kvs,ρ,ns,rfl,hx,hss,hi,hw1,hw2,hpw,hr,q⟩:=h;show wSs _ _ _ [some (.int w),some x,some (.int i),some (.ref pw),none] M;delta FD Mo;have len:∀R:Prop,R->R:=λ_ h=>h;have rest:∀hi':i<ss.length,wSs [("worth",Zy 40)] FA {nx:=fun x M'=>Q MV.non M',rt:=Q} [some (.int w),some x,some (.int i),some (.ref pw),some ss[i].mv] M:=by
  intro hi';have ok:=hss ss[i] (Y1 _);have ed:dueM ss ρ w i=dueM [ss[i]] ρ w 0:=by unfold dueM;rw[Xd hi'];rfl
  rw[ed]at q;obtain⟨s,hs⟩:∃s,ss[i]=s:=⟨_,rfl⟩;rw[hs]at ok q;rw[hs];delta FA;cases s with
  |take f x=>
   simp only[Stp.mv];walk_at "s";delta Mn;walk_at "s";exact q
  |give f U=>
   simp only[Stp.mv];walk_at "s";delta CY;walk_at "s";delta Mm;walk_at "s";exact⟨U,w,pw,kvs,ρ,rfl,Y8 ok.1 (by decide),hw1,hw2,hpw,hr.tm ok,q⟩
  |put x U=>
   simp only[Stp.mv];walk_at "s";delta CY;walk_at "s";delta Fz;walk_at "s";exact q
  |jump U j=>
   simp only[Stp.mv];walk_at "s";delta CY;walk_at "s";delta Fz;walk_at "s";exact q
 have eN:¬i<ss.length->dueM ss ρ w i=.non:=λc=>by unfold dueM;rw[DH.mpr (by lia)]
 rcases hx with rfl|⟨ps,rfl,hps⟩
 ·walk_at "s";rw[Xa];refine Yb (λc=>?_) (λc=>?_)
  ·delta FC;walk_at "s";rw[<- eN (by lia)]
   exact q
  have hi':i<ss.length:=by lia
  delta FB;walk_at "s";exact⟨_,YI (by rw[Xw,Xd hi'];rfl),rest hi'⟩
 ·repeat (first|walk_at "s"|simp only[hps])
  rw[Xa];refine Yb (λc=>?_) (λc=>?_)
  ·delta FC;walk_at "s";rw[<- eN (by lia)]
   exact q
  have hi':i<ss.length:=by lia
  delta FB
  repeat (first|walk_at "s"|simp only[hps])
  exact⟨_,YI (by rw[Xw,Xd hi'];rfl),rest hi'⟩
def Wm(s:Stp)(ρ:Str->Int)(w i:Nat):Int:=match s with
 |.jump T j=>if T.val ρ w≠0 then j else(i:Int)+1
 |_=>(i:Int)+1
def Db(s:Stp)(kvs:List (Key×MV))(ρ:Str->Int)(w:Nat)(wd:MV):List (Key×MV):=match s with
 |.take _ x=>putM kvs (Xy x) wd
 |.put x T=>putM kvs (Xy x) (.int (T.val ρ w))
 |_=>kvs
abbrev Dc:SpM:=λvs M Q=>∃(x:MV) (pw:Addr) (ss:List Stp) (i w:Nat) (kvs:List (Key×MV)) (ρ:Str->Int) (ns:List Str) (s:Stp),vs=[.int w,x,.int i,.ref pw]/\D4 M x (ss.map Stp.mv)/\ss[i]?=some s/\s.ok ns ss.length/\1≤w/\w≤64/\M pw=some (.dic kvs)/\readsOk ns kvs ρ w/\
 Q (.int (Wm s ρ w i)) M
theorem Z7R:MonW Dc:=by walk_at "m"
theorem Qt{M:MH}{x:MV}{ss:List Stp}{i:Nat}{s:Stp}{Q:QM}(hx:D4 M x (ss.map Stp.mv))(hs:ss[i]?=some s) (q:Q s.mv M):wIx x (.int i) M Q:=by
 have hat:atI (ss.map Stp.mv) (i:Int)=some s.mv:=YI (by rw[Xw,hs];rfl)
 rcases hx with rfl|⟨a,rfl,h⟩
 ·rw[Kn];exact⟨_,hat,q⟩
 ·rw[Kl,h,Km];exact⟨_,hat,q⟩
theorem Zb2(T:Txt K mg t):FnOk P w K mg base CX0 50 t.f_number_after t.d_number_after ["width","steps","number","words"] (liSp K Dc):=by
 refine T.q_number_after.F.okM ZaQ (Xn (P:=P) (w:=w) (K:=K) (mg:=mg) (base:=base) (k:=49) (G:=Mt) (Φ:=[("worth",(Zy 40))]) (Ψ:=[]) (Χ:=[("worth",(Zy 40))]) rfl (Xo T) (Xp T) rfl (fMc ⟨(D9 _),nl0⟩) (fMc ⟨⟨_,_,_,FnOk.mono (Da T 40) (by decide),T.q_worth.m,T.q_worth.F.kp,T.q_worth.b⟩,nl0⟩) nl0 nl0 (Xq T)) FE ZbE (fun vs M Q h=>?_) (fun vs M Q h=>?_)
 ·obtain⟨_,_,_,_,_,_,_,_,_,rfl,_⟩:=h;rfl
 obtain⟨x,pw,ss,i,w,kvs,ρ,ns,s,rfl,hx,hs,ok,hw1,hw2,hpw,hr,q⟩:=h;show wSs _ _ _ [some (.int w),some x,some (.int i),some (.ref pw),none] M;delta FE Ms;walk_at "s";refine Qt hx hs ?_;delta Mr;cases s with
 |take f x=>
  simp only[Stp.mv];walk_at "s";delta Ba;walk_at "s";exact q
 |give f U=>
  simp only[Stp.mv];walk_at "s";delta Ba;walk_at "s";exact q
 |put x U=>
  simp only[Stp.mv];walk_at "s";delta Ba;walk_at "s";exact q
 |jump U j=>
  simp only[Stp.mv];walk_at "s";refine⟨U,w,pw,kvs,ρ,rfl,Y8 ok.1.1 (by decide),hw1,hw2,hpw,hr.tm ok.1,?_⟩
  walk_at "s";refine Yb (λc=>?_) (λc=>?_)
  ·have e:Wm (.jump U j) ρ w i=j:=if_pos c;rw[e]at q;delta Mq;walk_at "s";exact q
  ·have e:Wm (.jump U j) ρ w i=(i:Int)+1:=if_neg c;rw[e]at q;delta Ba;walk_at "s";exact q
abbrev Dd:SpM:=λvs M Q=>∃(pw:Addr) (w:Nat) (kvs:List (Key×MV)) (ρ:Str->Int) (ns:List Str) (s:Stp) (k:Nat) (wd:MV),vs=[.int w,s.mv,.ref pw,wd]/\s.ok ns k/\1≤w/\w≤64/\M pw=some (.dic kvs)/\kvs.length≤1000/\readsOk ns kvs ρ w/\
 ∀p,M p=none->Q (.ref p) (updM M p (.dic (Db s kvs ρ w wd)))
theorem Z8i:MonW Dd:=by walk_at "m"
theorem Zc2(T:Txt K mg t):FnOk P w K mg base CX0 50 t.f_words_after t.d_words_after ["width","step","words","word"] (liSp K Dd):=by
 refine T.q_words_after.F.okM ZbV (Xn (P:=P) (w:=w) (K:=K) (mg:=mg) (base:=base) (k:=49) (G:=Mz) (Φ:=[("worth",(Zy 40))]) (Ψ:=[]) (Χ:=[("worth",(Zy 40))]) rfl (Xo T) (Xp T) rfl (fMc ⟨(D9 _),nl0⟩) (fMc ⟨⟨_,_,_,FnOk.mono (Da T 40) (by decide),T.q_worth.m,T.q_worth.F.kp,T.q_worth.b⟩,nl0⟩) nl0 nl0 (Xq T)) FF Zch (fun vs M Q h=>?_) (fun vs M Q h=>?_)
 ·obtain⟨_,_,_,_,_,_,_,_,rfl,_⟩:=h;rfl
 obtain⟨pw,w,kvs,ρ,ns,s,k,wd,rfl,ok,hw1,hw2,hpw,hkl,hr,q⟩:=h;show wSs _ _ _ [some (.int w),some s.mv,some (.ref pw),some wd,none] M;delta FF Mx
 repeat (first|walk_at "s"|simp only[hpw])
 intro p hp;have hpw2:=SameM.new hp (.dic kvs) _ _ hpw;have hp2:updM M p (.dic kvs) p=some (.dic kvs):=X9;have q:=q p hp;delta Mw;cases s with
 |take f x=>
  simp only[Stp.mv];walk_at "s";delta Mv;walk_at "s";refine⟨by lia,?_⟩
  rw[YJ];delta Bc;walk_at "s";delta Bb;walk_at "s";exact q
 |give f U=>
  simp only[Stp.mv];walk_at "s";delta Bc;walk_at "s";delta Bb;walk_at "s";exact q
 |put x U=>
  simp only[Stp.mv];walk_at "s";delta Bc;walk_at "s";delta Mu;walk_at "s";refine⟨U,w,pw,kvs,ρ,rfl,Y8 ok.2.1 (by decide),hw1,hw2,hpw2,hr.tm ok.2,?_⟩
  walk_at "s";refine⟨by lia,?_⟩
  rw[YJ];delta Bb;walk_at "s";exact q
 |jump U j=>
  simp only[Stp.mv];walk_at "s";delta Bc;walk_at "s";delta Bb;walk_at "s";exact q
abbrev De:SpM:=λvs M Q=>∃(x:MV) (pw:Addr) (ss:List Stp) (i w:Nat) (kvs:List (Key×MV)) (ρ:Str->Int) (ns:List Str) (s:Stp) (wd:MV),vs=[.int w,x,.int i,.ref pw,wd]/\D4 M x (ss.map Stp.mv)/\ss[i]?=some s/\s.ok ns ss.length/\1≤w/\w≤64/\M pw=some (.dic kvs)/\kvs.length≤1000/\readsOk ns kvs ρ w/\
 ∀p,M p=none->Q (.tup [.int (Wm s ρ w i),.ref p]) (updM M p (.dic (Db s kvs ρ w wd)))
theorem Zew:MonW De:=by walk_at "m"
theorem ZkC(T:Txt K mg t):FnOk P w K mg base CX0 51 t.f_after t.d_after ["width","steps","number","words","word"] (liSp K De):=by
 refine T.q_after.F.okM Zke (Xn (P:=P) (w:=w) (K:=K) (mg:=mg) (base:=base) (k:=50) (G:=MB) (Φ:=[("number_after",Dc),("words_after",Dd)]) (Ψ:=[]) (Χ:=[("number_after",Dc),("words_after",Dd)]) rfl (Xo T) (Xp T) rfl (fMc ⟨Z7R,(fMc ⟨Z8i,nl0⟩)⟩) (fMc ⟨⟨_,_,_,FnOk.mono (Zb2 T) (by decide),T.q_number_after.m,T.q_number_after.F.kp,T.q_number_after.b⟩,(fMc ⟨⟨_,_,_,FnOk.mono (Zc2 T) (by decide),T.q_words_after.m,T.q_words_after.F.kp,T.q_words_after.b⟩,nl0⟩)⟩) nl0 nl0 (Xq T)) FG Zl7 (fun vs M Q h=>?_) (fun vs M Q h=>?_)
 ·obtain⟨_,_,_,_,_,_,_,_,_,_,rfl,_⟩:=h;rfl
 obtain⟨x,pw,ss,i,w,kvs,ρ,ns,s,wd,rfl,hx,hs,ok,hw1,hw2,hpw,hkl,hr,q⟩:=h;show wSs _ _ _ [some (.int w),some x,some (.int i),some (.ref pw),some wd] M;delta FG MA;walk_at "s";refine⟨x,pw,ss,i,w,kvs,ρ,ns,s,rfl,hx,hs,ok,hw1,hw2,hpw,hr,?_⟩;refine Qt hx hs ?_;refine⟨pw,w,kvs,ρ,ns,s,_,wd,rfl,ok,hw1,hw2,hpw,hkl,hr,λp hp=>?_⟩;exact q p hp
def szs(ts:List Tm):Nat:=(ts.map Tm.size).sum
theorem Qu(a b:List Tm):szs (a++b)=szs a+szs b:=by unfold szs;rw[Y7,List.sum_append]
theorem Zmi(a:Tm):szs [a]=a.size:=by simp[szs]
theorem Qv{T:Tm}:∀{ts:List Tm},T∈ts->T.size≤szs ts
 |U::ts,h=>by
  have e:szs (U::ts)=U.size+szs ts:=by simp[szs]
  rcases Xr.mp h with z|z
  ·subst z;lia
  ·have:=Qv z;lia
def Tm.kids:Tm->List Tm
 |.num _=>[]
 |.var _=>[]
 |.two _ a b=>[a,b]
 |.pick c a b=>[c,a,b]
theorem Tm.size_kids:∀T:Tm,T.size=1+szs T.kids
 |.num _=>rfl
 |.var _=>rfl
 |.two _ a b=>by simp[Tm.size,Tm.kids,szs]
 |.pick c a b=>by simp[Tm.size,Tm.kids,szs]
def mxd(ts:List Tm):Nat:=ts.foldl (λa T=>max a T.depth) 0
theorem Zna(ts:List Tm)(T:Tm):mxd (ts++[T])=max (mxd ts) T.depth:=by unfold mxd;rw[DL];rfl
theorem Tm.depth_kids:∀T:Tm,T.depth=mxd T.kids+1
 |.num _=>rfl
 |.var _=>rfl
 |.two _ a b=>by simp[Tm.depth,Tm.kids,mxd];lia
 |.pick c a b=>by simp[Tm.depth,Tm.kids,mxd];lia
theorem Tm.kid_depth{T U:Tm}(h:U∈T.kids):U.depth<T.depth:=by
 cases T<;>simp[Tm.kids]at h
 ·rcases h with rfl|rfl<;>(simp only[Tm.depth];lia)
 ·rcases h with rfl|rfl|rfl<;>(simp only[Tm.depth];lia)
theorem Tm.kid_size{T U:Tm}(h:U∈T.kids):U.size<T.size:=by
 rw[T.size_kids];have:=Qv h;lia
def rds(ts:List Tm):List Str:=(ts.map Tm.reads).flatten
theorem Zmt(ts:List Tm)(T:Tm):rds (ts++[T])=rds ts++T.reads:=by simp[rds]
theorem Tm.reads_kids:∀T:Tm,(∀x,T≠.var x)->T.reads=rds T.kids
 |.num _,_=>rfl
 |.var x,h=>absurd rfl (h x)
 |.two _ a b,_=>by simp[Tm.reads,Tm.kids,rds]
 |.pick c a b,_=>by simp[Tm.reads,Tm.kids,rds]
theorem Tm.reads_len:∀T:Tm,T.reads.length≤T.size
 |.num _=>by simp[Tm.reads]
 |.var _=>by simp[Tm.reads,Tm.size]
 |.two _ a b=>by
  have:=a.reads_len;have:=b.reads_len;simp[Tm.reads,Tm.size];lia
 |.pick c a b=>by
  have:=a.reads_len;have:=b.reads_len;have:=c.reads_len;simp[Tm.reads,Tm.size];lia
theorem Qw:∀ts:List Tm,(rds ts).length≤szs ts
 |[]=>Xi _
 |T::ts=>by
  have:=Qw ts;have:=T.reads_len;have e:szs (T::ts)=T.size+szs ts:=by simp[szs]
  have e2:rds (T::ts)=T.reads++rds ts:=by simp[rds]
  rw[e,e2,Yz];lia
theorem Zk3(ts:List Tm)(i:Nat):szs (ts.take i)≤szs ts:=by
 have e1:=Qu (ts.take i) (ts.drop i);rw[List.take_append_drop]at e1;lia
theorem Qx(x:MV)(xs:List MV):cutM (x::xs) (some 1) none=xs:=by
 have:=Zhv (x::xs) 1
 simpa using this
abbrev Vj:SpM:=λvs M Q=>∃T:Tm,vs=[T.mv]/\∀p,M p=none->Q (.ref p) (updM M p (.lst (T.kids.map Tm.mv)))
theorem Qy:MonW Vj:=by walk_at "m"
theorem Qz(T:Txt K mg t):FnOk P w K mg base CX0 1 t.f_parts_within t.d_parts_within ["T"] (liSp K Vj):=by
 refine T.q_parts_within.F.okM ZaP (Xn (P:=P) (w:=w) (K:=K) (mg:=mg) (base:=base) (k:=0) (G:=LG) (Φ:=[]) (Ψ:=[]) (Χ:=[]) rfl (Xo T) (Xp T) rfl nl0 nl0 nl0 nl0 (Xq T)) Fm ZbD (λvs M Q h=>?_) (λvs M Q h=>?_)
 ·obtain⟨T,rfl,_⟩:=h;rfl
 obtain⟨U,rfl,q⟩:=h;show wSs _ _ _ [some U.mv] M;delta Fm LF;cases U with
 |num m=>
  simp only[Tm.mv];walk_at "s";delta Fl;walk_at "s";exact q
 |var x=>
  simp only[Tm.mv];walk_at "s";delta Fl;walk_at "s";exact q
 |two f a b=>
  simp only[Tm.mv];walk_at "s";rw[if_neg (Qq f),if_neg (Gq f),Fk];walk_at "s";rw[Qx];exact q
 |pick c a b=>
  simp only[Tm.mv];walk_at "s";delta Fk;walk_at "s";rw[Qx];exact q
abbrev Vk(n:Nat):SpM:=λvs M Q=>∃T:Tm,vs=[T.mv]/\T.depth≤n/\∀M',SameM M M'->Q (.tup [.int (T.size:Nat),.int (T.depth:Nat)]) M'
theorem QA(n:Nat):MonW (Vk n):=by walk_at "m"
theorem QB(T:Txt K mg t):∀n:Nat,FnOk P w K mg base CX0 (n+8) t.f_size_of t.d_size_of ["T"] (liSp K (Vk n))
 |0=>by
  have no:∀vs M Q,¬Vk 0 vs M Q:=λvs M Q h=>by
   obtain⟨T,_,h0,_⟩:=h;have:=T.depth_pos;lia
  exact⟨λvs H Q E ⟨ms,M,r,rh,h⟩=>absurd h (no _ _ _),λA outer s H args us vs Q E _ _ _ _ ⟨ms,M,r,rh,h⟩=>absurd h (no _ _ _)⟩
 |n+1=>by
  have ih:=QB T n;refine T.q_size_of.F.okM Zh1 (Xn (P:=P) (w:=w) (K:=K) (mg:=mg) (base:=base) (k:=(n+8)) (G:=LO) (Φ:=[("parts_within",Vj),("size_of",(Vk n))]) (Ψ:=[]) (Χ:=[("parts_within",Vj),("size_of",(Vk n))]) rfl (Xo T) (Xp T) rfl (fMc ⟨Qy,(fMc ⟨(QA _),nl0⟩)⟩) (fMc ⟨⟨_,_,_,FnOk.mono (Qz T) (by lia),T.q_parts_within.m,T.q_parts_within.F.kp,T.q_parts_within.b⟩,(fMc ⟨⟨_,_,_,ih,T.q_size_of.m,T.q_size_of.F.kp,T.q_size_of.b⟩,nl0⟩)⟩) nl0 nl0 (Xq T)) Fn Zhy (fun vs M Q h=>?_) (fun vs M Q h=>?_)
  ·obtain⟨T,rfl,_⟩:=h;rfl
  obtain⟨U,rfl,hn,q⟩:=h;show wSs _ _ _ [some U.mv,none,none,none,none] M;delta Fn LN;walk_at "s";delta LM;walk_at "s";delta LL;walk_at "s";refine⟨U,rfl,λpk hpk=>?_⟩;have s1:=SameM.new hpk (.lst (U.kids.map Tm.mv));have h1:updM M pk (.lst (U.kids.map Tm.mv)) pk=some (.lst (U.kids.map Tm.mv)):=X9;generalize updM M pk (.lst (U.kids.map Tm.mv))=M1 at*
  repeat (first|walk_at "s"|simp only[h1])
  obtain⟨J,hJ⟩:∃J:Nat->Sm->MH->Prop,∀i σ M2,J i σ M2↔∃(v3 v4:Option MV),SameM M1 M2/\σ=[some U.mv,some (.int ((1+szs (U.kids.take i):Nat):Int)),some (.int ((mxd (U.kids.take i):Nat):Int)),v3,v4]:=⟨_,λ_ _ _=>Yn⟩;refine⟨J,(hJ _ _ _).2 ⟨_,_,SameM.refl _,rfl⟩,λi σ M2 hj=>?_,λi x σ M2 hx hj=>?_,λσ M2 hj=>?_⟩
  ·obtain⟨_,_,s2,_⟩:=(hJ _ _ _).1 hj;exact s2 _ _ h1
  ·obtain⟨v3,v4,s2,rfl⟩:=(hJ _ _ _).1 hj;obtain⟨hi,rfl⟩:=YU hx;have hk:=U.kid_depth (Y1 hi);delta LK;walk_at "s";refine⟨U.kids[i],rfl,by lia,λM3 s3=>?_⟩
   delta LJ;walk_at "s";delta LI;walk_at "s";have et:U.kids.take (i+1)=U.kids.take i++[U.kids[i]]:=by rw[Ui,Xd hi];rfl
   have e1:((1+szs (U.kids.take i):Nat):Int)+(U.kids[i].size:Nat)=((1+szs (U.kids.take (i+1)):Nat):Int):=by rw[et,Qu,Zmi];lia
   have e2:(if((U.kids[i].depth:Nat):Int)>(mxd (U.kids.take i):Nat)then((U.kids[i].depth:Nat):Int)else(mxd (U.kids.take i):Nat))=((mxd (U.kids.take (i+1)):Nat):Int):=by
    rw[et,Zna];split<;>lia
   rw[e1,e2];exact(hJ _ _ _).2 ⟨_,_,s2.trans s3,rfl⟩
  ·obtain⟨v3,v4,s2,rfl⟩:=(hJ _ _ _).1 hj;have e:U.kids.take (Src.lst pk (U.kids.map Tm.mv)).len=U.kids:=by simp[Src.len]
   rw[e];delta LH;walk_at "s";have:=q M2 (s1.trans s2);rw[U.size_kids,U.depth_kids]at this;exact this
abbrev UN(n:Nat):SpM:=λvs M Q=>∃T:Tm,vs=[T.mv]/\T.depth≤n/\T.size≤4000/\∀p M',SameM M M'->M p=none->M' p=some (.lst (T.reads.map MV.str))->Q (.ref p) M'
theorem QC(n:Nat):MonW (UN n):=by walk_at "m"
theorem QD(T:Txt K mg t):∀n:Nat,FnOk P w K mg base CX0 (n+8) t.f_names_read t.d_names_read ["T"] (liSp K (UN n))
 |0=>by
  have no:∀vs M Q,¬UN 0 vs M Q:=λvs M Q h=>by
   obtain⟨T,_,h0,_⟩:=h;have:=T.depth_pos;lia
  exact⟨λvs H Q E ⟨ms,M,r,rh,h⟩=>absurd h (no _ _ _),λA outer s H args us vs Q E _ _ _ _ ⟨ms,M,r,rh,h⟩=>absurd h (no _ _ _)⟩
 |n+1=>by
  have ih:=QD T n;refine T.q_names_read.F.okM Zda (Xn (P:=P) (w:=w) (K:=K) (mg:=mg) (base:=base) (k:=(n+8)) (G:=LU) (Φ:=[("names_read",(UN n)),("parts_within",Vj)]) (Ψ:=[]) (Χ:=[("names_read",(UN n)),("parts_within",Vj)]) rfl (Xo T) (Xp T) rfl (fMc ⟨(QC _),(fMc ⟨Qy,nl0⟩)⟩) (fMc ⟨⟨_,_,_,ih,T.q_names_read.m,T.q_names_read.F.kp,T.q_names_read.b⟩,(fMc ⟨⟨_,_,_,FnOk.mono (Qz T) (by lia),T.q_parts_within.m,T.q_parts_within.F.kp,T.q_parts_within.b⟩,nl0⟩)⟩) nl0 nl0 (Xq T)) Fp ZdI (fun vs M Q h=>?_) (fun vs M Q h=>?_)
  ·obtain⟨T,rfl,_⟩:=h;rfl
  obtain⟨U,rfl,hn,hz,q⟩:=h;show wSs _ _ _ [some U.mv,none,none] M;have rest:(∀x,U≠.var x)->wSs [("names_read",UN n),("parts_within",Vj)] Fo {nx:=fun x M'=>Q MV.non M',rt:=Q} [some U.mv,none,none] M:=by
   intro hv;delta Fo;walk_at "s";intro p0 hp0;have s0:=SameM.new hp0 (.lst []);have h0:updM M p0 (.lst []) p0=some (.lst ([]:List MV)):=X9;generalize updM M p0 (.lst [])=M0 at*;delta LR;walk_at "s";refine⟨U,rfl,λpk hpk=>?_⟩;have s1:=SameM.new hpk (.lst (U.kids.map Tm.mv));have h1:updM M0 pk (.lst (U.kids.map Tm.mv)) pk=some (.lst (U.kids.map Tm.mv)):=X9;have h01:=s1 _ _ h0;have t1:=s0.trans s1;have nk:M pk=none:=s0.free hpk;generalize updM M0 pk (.lst (U.kids.map Tm.mv))=M1 at*
   repeat (first|walk_at "s"|simp only[h1])
   have ne:p0≠pk:=by
    intro e;rw[e]at h0;rw[h0]at hpk;cases hpk
   obtain⟨J,hJ⟩:∃J:Nat->Sm->MH->Prop,∀i σ M2,J i σ M2↔∃(v2:Option MV),SameM M M2/\M2 pk=some (.lst (U.kids.map Tm.mv))/\M2 p0=some (.lst ((rds (U.kids.take i)).map MV.str))/\σ=[some U.mv,some (.ref p0),v2]:=⟨_,λ_ _ _=>Yn⟩;refine⟨J,(hJ _ _ _).2 ⟨_,t1,h1,h01,rfl⟩,λi σ M2 hj=>?_,λi x σ M2 hx hj=>?_,λσ M2 hj=>?_⟩
   ·obtain⟨_,_,g1,_⟩:=(hJ _ _ _).1 hj;exact g1
   ·obtain⟨v2,s2,g1,g2,rfl⟩:=(hJ _ _ _).1 hj;obtain⟨hi,rfl⟩:=YU hx;have hk:=U.kid_depth (Y1 hi);have hk2:=U.kid_size (Y1 hi);delta LQ;walk_at "s";simp only[g2];walk_at "s";refine⟨⟨_,rfl⟩,?_⟩;refine⟨U.kids[i],rfl,by lia,by lia,λp3 M3 s3 n3 g3=>?_⟩
    have g1':=s3 _ _ g1;have g2':=s3 _ _ g2;walk_at "s";have l1:=Qw (U.kids.take i);have l2:=Zk3 U.kids i;have l3:=U.size_kids;have l4:=U.kids[i].reads_len;refine⟨_,g2',_,g3,by simp only[Xa];lia,(hJ _ _ _).2 ⟨_,(s2.trans s3).upd hp0 _,by rw[Xc ne.symm];exact g1',?_,rfl⟩⟩
    rw[X9,Ui,Xd hi,Ee,Zmt,Y7]
   ·obtain⟨v2,s2,g1,g2,rfl⟩:=(hJ _ _ _).1 hj;have e:U.kids.take (Src.lst pk (U.kids.map Tm.mv)).len=U.kids:=by simp[Src.len]
    rw[e,<- U.reads_kids hv]at g2;delta LP;walk_at "s";exact q p0 M2 s2 hp0 g2
  delta Fp LT;cases U with
  |num m=>
   simp only[Tm.mv];walk_at "s";exact rest (λ_ e=>by cases e)
  |var x=>
   simp only[Tm.mv];walk_at "s";delta LS;walk_at "s";exact λp hp=>q p _ (SameM.new hp _) hp X9
  |two f a b=>
   simp only[Tm.mv];walk_at "s";rw[if_neg (Gq f)];exact rest (λ_ e=>by cases e)
  |pick c a b=>
   simp only[Tm.mv];walk_at "s";exact rest (λ_ e=>by cases e)
abbrev Df:SpM:=λvs M Q=>∃(T:Tm) (N:List Str),vs=[T.mv]/\T.depth≤40/\T.size≤4000/\(∀x∈T.reads,x∈N)/\N.length<64/\
 ∀p M' (ys:List Str),SameM M M'->M p=none->M' p=some (.lst (ys.map MV.str))->ys.Nodup->(∀y,y∈ys↔y∈T.reads)->PyProof.Rows.sortedS ys=true->Q (.ref p) M'
theorem Zc8:MonW Df:=by walk_at "m"
theorem Zha(T:Txt K mg t):FnOk P w K mg base CX0 50 t.f_vars_in t.d_vars_in ["T"] (liSp K Df):=by
 refine T.q_vars_in.F.okM Zh0 (Xn (P:=P) (w:=w) (K:=K) (mg:=mg) (base:=base) (k:=49) (G:=LW) (Φ:=[("names_read",(UN 40))]) (Ψ:=[]) (Χ:=[("names_read",(UN 40))]) rfl (Xo T) (Xp T) rfl (fMc ⟨(QC _),nl0⟩) (fMc ⟨⟨_,_,_,FnOk.mono (QD T 40) (by decide),T.q_names_read.m,T.q_names_read.F.kp,T.q_names_read.b⟩,nl0⟩) nl0 nl0 (Xq T)) Fq Zhx (fun vs M Q h=>?_) (fun vs M Q h=>?_)
 ·obtain⟨T,N,rfl,_⟩:=h;rfl
 obtain⟨U,N,rfl,hn,hz,hN,hl,q⟩:=h;show wSs _ _ _ [some U.mv] M;delta Fq LV;walk_at "s";refine⟨U,rfl,hn,hz,λp1 M1 s1 n1 h1=>?_⟩;have hb:scanBound=4096:=rfl;have:=U.reads_len;exact⟨p1,U.reads,N,rfl,h1,by lia,hN,hl,λp ys hp a1 a2 a3=>q p _ ys (s1.trans (SameM.new hp _)) (s1.free hp) X9 a1 a2 a3⟩
abbrev Gr:SpM:=λ_ _ _=>False
theorem Znh:MonW Gr:=λ_ h=>h.elim
theorem ZnK{P:Xk}{w:Xh}{K:X5}{mg:Str->Option X0}{base:Heap}{k:Nat}{f:Addr}{fd:Xf}{ps:List Str}:FnOk P w K mg base CX0 k f fd ps (liSp K λ_ _ _=>False):=
 ⟨λ_ _ _ _ ⟨_,_,_,_,h⟩=>h.elim,λ_ _ _ _ _ _ _ _ _ _ _ _ _ ⟨_,_,_,_,h⟩=>h.elim⟩
def ZL(z:Str):Prop:=1≤z.length/\z.length≤8/\∀c∈z.cps.toList,97≤c/\c≤122
theorem QE{a b:Nat}:([a]:List Nat)<[b]↔a<b:=by
 rw[List.cons_lt_cons_iff];constructor
 ·rintro(h|⟨_,h⟩)
  ·exact h
  ·exact absurd h (by simp)
 ·exact .inl
theorem ZrV:(("a":Str)).cps.toList=[97]:=by decide+kernel
theorem ZrU:(("z":Str)).cps.toList=[122]:=by decide+kernel
theorem le_a{c:Nat}(h:97≤c):(!decide ((⟨#[c]⟩:Str).cps.toList<(("a":Str)).cps.toList))=true:=by
 rw[ZrV];have:¬((⟨#[c]⟩:Str).cps.toList<[97]):=λz=>by
  have z:([c]:List Nat)<[97]:=z;rw[QE]at z;lia
 simpa using this
theorem le_z{c:Nat}(h:c≤122):(!decide ((("z":Str)).cps.toList<(⟨#[c]⟩:Str).cps.toList))=true:=by
 rw[ZrU];have:¬([122]<(⟨#[c]⟩:Str).cps.toList):=λz=>by
  have z:([122]:List Nat)<[c]:=z;rw[QE]at z;lia
 simpa using this
abbrev Dh:SpM:=λvs M Q=>∃z:Str,vs=[.str z]/\ZL z/\∀M',SameM M M'->Q (.bl true) M'
theorem Zc9:MonW Dh:=by walk_at "m"
theorem Zhb(T:Txt K mg t):FnOk P w K mg base CX0 1 t.f_is_name t.d_is_name ["text"] (liSp K Dh):=by
 refine T.q_is_name.F.okM Zh3 (Xn (P:=P) (w:=w) (K:=K) (mg:=mg) (base:=base) (k:=0) (G:=MD) (Φ:=[]) (Ψ:=[]) (Χ:=[]) rfl (Xo T) (Xp T) rfl nl0 nl0 nl0 nl0 (Xq T)) FH ZhA (λvs M Q h=>?_) (λvs M Q h=>?_)
 ·obtain⟨z,rfl,_⟩:=h;rfl
 obtain⟨z,rfl,⟨g1,g2,g3⟩,q⟩:=h;show wSs _ _ _ [some (.str z)] M;delta FH MC;walk_at "s";refine⟨by lia,?_⟩
 rw[if_pos (by lia:(1:Int)≤(z.length:Int))]
 rw[if_pos (by lia:(z.length:Int)≤8)]
 refine U7 z.cps.toList (λc=>.str ⟨#[c]⟩) (λ_=>.bl true) ?_ ?_ (λj f sp h=>by simp at h) λD hD=>?_
 ·walk_at "s";have:z.cps.toList.length=z.length:=Y3;exact⟨rfl,by lia,trivial⟩
 ·intro c hc M' s;obtain⟨h1,h2⟩:=g3 c hc;simp only[sCm,XD,Yf,Ys,Yt,Yk,Yd];walk_at "s";rw[if_pos (by simpa using le_a h1)]
  simpa using le_z h2
 walk_at "s";refine⟨z.cps.toList.map λ_=>true,by rw[Yv];rfl,?_⟩
 have e:((z.cps.toList.map λ_=>true).all id)=true:=by simp
 rw[e];exact q _ (SameM.new hD _)
theorem Gs{z:Str}{zs:List Str}:inV (toV (.str z)) ((zs.map MV.str).map toV)=decide (z∈zs):=by
 unfold inV
 induction zs with
 |nil=>simp
 |cons a r ih=>
  rw[XD,XD,ZV,ih];have e:eqV (toV (.str a)) (toV (.str z))=decide (a=z):=by
   show(a==z)=decide (a=z);by_cases h:a=z
   ·subst h;simp
   ·simp[h]
  rw[e];by_cases h:a=z
  ·simp[h]
  ·have h':¬z=a:=λw=>h w.symm;simp[h,h']
theorem QF(zs:List Str):(zs.map MV.str).all YK=true:=by
 rw[BS];intro v hv;obtain⟨x,_,rfl⟩:=XY.mp hv
 rfl
abbrev UO:SpM:=λvs M Q=>∃(z:Str) (e:Addr) (zs:List Str),vs=[.str z,.ref e]/\M e=some (.lst (zs.map MV.str))/\ZL z/\z∉zs/\∀M',SameM M M'->Q .non M'
theorem Gu:MonW UO:=by walk_at "m"
theorem Gv(T:Txt K mg t):FnOk P w K mg base CX0 2 t.f_refuse_name t.d_refuse_name ["text","earlier"] (liSp K UO):=by
 refine T.q_refuse_name.F.okM ZbY (Xn (P:=P) (w:=w) (K:=K) (mg:=mg) (base:=base) (k:=1) (G:=MG) (Φ:=[("is_name",Dh)]) (Ψ:=[]) (Χ:=[("is_name",Dh)]) rfl (Xo T) (Xp T) rfl (fMc ⟨Zc9,nl0⟩) (fMc ⟨⟨_,_,_,(FnOk.mono (Zhb T) (by decide)),T.q_is_name.m,T.q_is_name.F.kp,T.q_is_name.b⟩,nl0⟩) nl0 nl0 (Xq T)) FI Zck (fun vs M Q h=>?_) (fun vs M Q h=>?_)
 ·obtain⟨z,a,zs,rfl,_⟩:=h;rfl
 obtain⟨z,a,zs,rfl,h1,h2,h3,q⟩:=h;show wSs _ _ _ [some (.str z),some (.ref a)] M;delta FI MF;walk_at "s";refine⟨z,rfl,h2,λM1 s1=>?_⟩;walk_at "s";delta ME;walk_at "s";refine .inl ⟨_,s1 _ _ h1,rfl,QF zs,?_⟩;rw[Gs,decide_eq_false h3];walk_at "s";exact q M1 s1
def Leaf(v:MV):Prop:=(∃i,v=.int i)\/∃z,v=.str z
def FroD:Nat->MH->MV->MV->Prop
 |0,_,v,v'=>Leaf v/\v'=v
 |n+1,M,v,v'=>(Leaf v/\v'=v)\/∃ps:List (MV×MV),(v=.tup (ps.map (·.1))\/∃a,v=.ref a/\M a=some (.lst (ps.map (·.1))))/\v'=.tup (ps.map (·.2))/\ps.length≤1000/\∀p∈ps,FroD n M p.1 p.2
theorem FroD.keep{M M':MH}(s:SameM M M'):∀{n:Nat} {v v':MV},FroD n M v v'->FroD n M' v v'
 |0,_,_,h=>h
 |n+1,v,v',h=>by
  rcases h with h|⟨ps,h1,h2,h3,h4⟩
  ·exact .inl h
  ·refine .inr ⟨ps,?_,h2,h3,λp hp=>(h4 p hp).keep s⟩;rcases h1 with h1|⟨a,e,h1⟩
   ·exact .inl h1
   ·exact .inr ⟨a,e,s _ _ h1⟩
abbrev Zz(n:Nat):SpM:=λvs M Q=>∃v v',vs=[v]/\FroD n M v v'/\∀M',SameM M M'->Q v' M'
theorem Di(n:Nat):MonW (Zz n):=by walk_at "m"
theorem ZfX{n:Nat}(hΦ:∀(j:Nat) f sp,([("frozen",Zz n)]:List (Str×SpM))[j]?=some (f,sp)->MonW sp) {vs:List MV} {M:MH} {Q:QM} (h:Zz (n+1) vs M Q):wSs [("frozen",Zz n)] Wj {nx:=fun _ M'=>Q .non M',rt:=Q} (Ae 1 vs) M:=by
 obtain⟨v,v',rfl,hf,q⟩:=h;show wSs _ _ _ [some v] M;delta Wj FW;rcases hf with⟨l,rfl⟩|⟨ps,h1,rfl,h3,h4⟩
 ·rcases l with⟨i,rfl⟩|⟨z,rfl⟩
  ·walk_at "s";simp only[decide_false,VP,Yl,if_false,reduceCtorEq,ne_eq,not_false_eq_true,true_and];delta Wi;walk_at "s";exact q M (SameM.refl _)
  ·walk_at "s";simp only[decide_false,VP,Yl,if_false,reduceCtorEq,ne_eq,not_false_eq_true,true_and];delta Wi;walk_at "s";exact q M (SameM.refl _)
 ·have go:wSs [("frozen",Zz n)] FV {nx:=fun σ M=>wSs [("frozen",Zz n)] Wi {nx:=fun _ M'=>Q .non M',rt:=Q} σ M,rt:=Q} [some v] M:=by
   delta FV;walk_at "s";refine Zjo ps (·.1) (·.2) ?_ ?_ hΦ λD M' hD s hd=>?_
   ·rcases h1 with rfl|⟨a,rfl,ha⟩
    ·walk_at "s";exact⟨rfl,by lia,trivial,λ_ _ h=>h⟩
    ·repeat (first|walk_at "s"|simp only[ha])
     exact⟨rfl,by lia,ha,λ_ _ h=>h⟩
   ·intro p hp M' s;simp only[sCm,XD,Yf,Ys,Yt,Yk,Yd];walk_at "s";exact⟨p.1,p.2,rfl,(h4 p hp).keep s,λM2 s2=>⟨rfl,s2⟩⟩
   repeat (first|walk_at "s"|simp only[hd])
   exact q M' s
  rcases h1 with rfl|⟨a,rfl,ha⟩
  ·walk_at "s";simp only[decide_true,C6,C5,if_true,reduceCtorEq,ne_eq,not_false_eq_true,true_and];exact go
  ·repeat (first|walk_at "s"|simp only[ha])
   simp only[decide_true,C6,C5,if_true,reduceCtorEq,ne_eq,not_false_eq_true,true_and];exact go
theorem QG(T:Txt K mg t):∀n:Nat,FnOk P w K mg base CX0 (n+8) t.f_frozen t.d_frozen ["value"] (liSp K (Zz n))
 |0=>by
  refine T.q_frozen.F.okM Kq (Xn (P:=P) (w:=w) (K:=K) (mg:=mg) (base:=base) (k:=7) (G:=FX) (Φ:=[("frozen",Gr)]) (Ψ:=[]) (Χ:=[("frozen",Gr)]) rfl (Xo T) (Xp T) rfl (fMc ⟨@Znh,nl0⟩) (fMc ⟨⟨_,_,_,ZnK,T.q_frozen.m,T.q_frozen.F.kp,T.q_frozen.b⟩,nl0⟩) nl0 nl0 (Xq T)) Wj NK (fun vs M Q h=>?_) (fun vs M Q h=>?_)
  ·obtain⟨v,v',rfl,_⟩:=h;rfl
  obtain⟨v,v',rfl,⟨l,rfl⟩,q⟩:=h;show wSs _ _ _ [some v'] M;delta Wj FW;rcases l with⟨i,rfl⟩|⟨z,rfl⟩
  ·walk_at "s";simp only[decide_false,VP,Yl,if_false,reduceCtorEq,ne_eq,not_false_eq_true,true_and];delta Wi;walk_at "s";exact q M (SameM.refl _)
  ·walk_at "s";simp only[decide_false,VP,Yl,if_false,reduceCtorEq,ne_eq,not_false_eq_true,true_and];delta Wi;walk_at "s";exact q M (SameM.refl _)
 |n+1=>by
  have ih:=QG T n;refine T.q_frozen.F.okM Kq (Xn (P:=P) (w:=w) (K:=K) (mg:=mg) (base:=base) (k:=(n+8)) (G:=FX) (Φ:=[("frozen",(Zz n))]) (Ψ:=[]) (Χ:=[("frozen",(Zz n))]) rfl (Xo T) (Xp T) rfl (fMc ⟨(Di _),nl0⟩) (fMc ⟨⟨_,_,_,ih,T.q_frozen.m,T.q_frozen.F.kp,T.q_frozen.b⟩,nl0⟩) nl0 nl0 (Xq T)) Wj NK (fun vs M Q h=>?_) (fun vs M Q h=>?_)
  ·obtain⟨v,v',rfl,_⟩:=h;rfl
  exact ZfX (UM (fMc ⟨Di n,nl0⟩)) h
structure Isl where
 name:Str
 prs:List (Str×Int)
 stps:List Stp
structure Fer where
 name:Str
 giver:Str
 taker:Str
 k:Nat
 st:Nat
structure Wld where
 w:Nat
 isl:List Isl
 fer:List Fer
def prV(p:Str×Int):MV:=.tup [.str p.1,.int p.2]
def Fer.mv(f:Fer):MV:=.tup [.str f.name,.str f.giver,.str f.taker,.int f.k,.int f.st]
def Isl.mv(I:Isl):MV:=.tup [.str I.name,.tup (I.prs.map prV),.tup (I.stps.map Stp.mv)]
def Wld.mv(W:Wld):MV:=.tup [.int W.w,.tup (W.isl.map Isl.mv),.tup (W.fer.map Fer.mv)]
def Isl.vars(I:Isl):List Str:=I.prs.map (·.1)
def Wld.fns(W:Wld):List Str:=W.fer.map (·.name)
def Wld.ins(W:Wld):List Str:=W.isl.map (·.name)
def TmIn(ns:List Str)(T:Tm):Prop:=T.depth≤8/\T.size≤30/\∀x∈T.reads,x∈ns
def U8(fs:List Str)(ns:List Str)(n:Nat):Stp->Prop
 |.take f x=>f∈fs/\x∈ns
 |.give f T=>f∈fs/\TmIn ns T
 |.put x T=>x∈ns/\TmIn ns T
 |.jump T i=>TmIn ns T/\0≤i/\i≤(n:Int)
structure IslOk (w:Nat) (fs:List Str) (I:Isl):Prop where
 nv:I.prs.length≤6
 ns:I.stps.length≤12
 nd:I.vars.Nodup
 gd:∀x∈I.vars,ZL x
 wd:∀p∈I.prs,0≤p.2/\p.2<2^w
 st:∀s∈I.stps,U8 fs I.vars I.stps.length s
structure FerOk (is:List Str) (f:Fer):Prop where
 g:f.giver∈is
 t:f.taker∈is
 ne:f.giver≠f.taker
 k3:f.k≤3
 s1:1≤f.st
 s3:f.st≤3
def U9(F:List Fer)(z:Str):Stp->Prop
 |.take f _=>∀x∈F,x.name=f->x.taker=z
 |.give f _=>∀x∈F,x.name=f->x.giver=z
 |_=>True
structure Wld.Good (W:Wld):Prop where
 w1:1≤W.w
 w2:W.w≤64
 i5:W.isl.length≤5
 f6:W.fer.length≤6
 fg:∀z∈W.fns,ZL z
 ig:∀z∈W.ins,ZL z
 nd:(W.fns++W.ins).Nodup
 io:∀I∈W.isl,IslOk W.w W.fns I
 fo:∀f∈W.fer,FerOk W.ins f
 en:∀I∈W.isl,∀s∈I.stps,U9 W.fer I.name s
def IslIn(M:MH)(I:Isl)(y:MV):Prop:=∃a b,y=.tup [.str I.name,.ref a,.ref b]/\M a=some (.lst (I.prs.map prV))/\M b=some (.lst (I.stps.map Stp.mv))
theorem IslIn.keep{M M':MH}(s:SameM M M'){I:Isl}{y:MV}(h:IslIn M I y):IslIn M' I y:=by
 obtain⟨a,b,e,h1,h2⟩:=h;exact⟨a,b,e,s _ _ h1,s _ _ h2⟩
def IslsIn(M:MH)(Is:List Isl)(ys:List MV):Prop:=ys.length=Is.length/\∀(i:Nat) (I:Isl) (y:MV),Is[i]?=some I->ys[i]?=some y->IslIn M I y
theorem IslsIn.keep{M M':MH}(s:SameM M M'){Is:List Isl}{ys:List MV}(h:IslsIn M Is ys):IslsIn M' Is ys:=⟨h.1,λi z y a b=>(h.2 i z y a b).keep s⟩
theorem IslsIn.mem{M:MH}{Is:List Isl}{ys:List MV}(h:IslsIn M Is ys){y:MV}(hy:y∈ys):∃I∈Is,IslIn M I y:=by
 obtain⟨i,hi,rfl⟩:=Yc hy;have hi2:i<Is.length:=by rw[<- h.1];exact hi
 exact⟨Is[i],Y1 hi2,h.2 i _ _ (Xd hi2) (Xd hi)⟩
theorem IslsIn.fst{M:MH}{Is:List Isl}{ys:List MV}(h:IslsIn M Is ys){f:MV->MV}(hf:∀z r,f (.tup (.str z::r))=.str z):ys.map f=(Is.map (·.name)).map MV.str:=by
 apply BQ;intro i;rw[Xw,Xw,Xw];by_cases hi:i<ys.length
 ·have hi2:i<Is.length:=by rw[<- h.1];exact hi
  obtain⟨a,b,e,_⟩:=h.2 i _ _ (Xd hi2) (Xd hi);rw[Xd hi2,Xd hi,e];show some (f _)=_;rw[hf];rfl
 ·have hi2:¬i<Is.length:=by rw[<- h.1];exact hi
  rw[UB (by lia),UB (by lia)];rfl
abbrev Wn:SpM:=λvs M Q=>∃i:Int,vs=[.int i]/\Q (.bl true) M
theorem QH:MonW Wn:=by walk_at "m"
theorem QI(T:Txt K mg t):FnOk P w K mg base CX0 1 t.f_is_whole t.d_is_whole ["value"] (liSp K Wn):=by
 refine T.q_is_whole.F.okM Zfr (Xn (P:=P) (w:=w) (K:=K) (mg:=mg) (base:=base) (k:=0) (G:=Ks) (Φ:=[]) (Ψ:=[]) (Χ:=[]) rfl (Xo T) (Xp T) rfl nl0 nl0 nl0 nl0 (Xq T)) EV Zg3 (λvs M Q h=>?_) (λvs M Q h=>?_)
 ·obtain⟨i,rfl,_⟩:=h;rfl
 obtain⟨i,rfl,q⟩:=h;show wSs _ _ _ [some (.int i)] M;delta EV Kr;walk_at "s"
 simpa using q
abbrev Bj:SpM:=λvs M Q=>∃i:Int,vs=[.int i]/\1≤i/\i≤64/\Q (.bl true) M
theorem QJ:MonW Bj:=by walk_at "m"
theorem Zfu(T:Txt K mg t):FnOk P w K mg base CX0 2 t.f_is_width t.d_is_width ["number"] (liSp K Bj):=by
 refine T.q_is_width.F.okM Zfq (Xn (P:=P) (w:=w) (K:=K) (mg:=mg) (base:=base) (k:=1) (G:=Ku) (Φ:=[("is_whole",Wn)]) (Ψ:=[]) (Χ:=[("is_whole",Wn)]) rfl (Xo T) (Xp T) rfl (fMc ⟨QH,nl0⟩) (fMc ⟨⟨_,_,_,(FnOk.mono (QI T) (by decide)),T.q_is_whole.m,T.q_is_whole.F.kp,T.q_is_whole.b⟩,nl0⟩) nl0 nl0 (Xq T)) EW Zg2 (fun vs M Q h=>?_) (fun vs M Q h=>?_)
 ·obtain⟨i,rfl,_⟩:=h;rfl
 obtain⟨i,rfl,h1,h2,q⟩:=h;show wSs _ _ _ [some (.int i)] M;delta EW Kt;walk_at "s";refine⟨i,rfl,?_⟩;walk_at "s";rw[if_pos h1,decide_eq_true h2];exact q
abbrev Dj:SpM:=λvs M Q=>∃(k:Nat) (i:Int),vs=[.int k,.int i]/\k≤64/\0≤i/\i<2^k/\Q (.bl true) M
theorem ZfA:MonW Dj:=by walk_at "m"
theorem Zn4(T:Txt K mg t):FnOk P w K mg base CX0 2 t.f_fits t.d_fits ["width","number"] (liSp K Dj):=by
 refine T.q_fits.F.okM Zmq (Xn (P:=P) (w:=w) (K:=K) (mg:=mg) (base:=base) (k:=1) (G:=KB) (Φ:=[("is_whole",Wn),("two_to",Z8)]) (Ψ:=[]) (Χ:=[("is_whole",Wn),("two_to",Z8)]) rfl (Xo T) (Xp T) rfl (fMc ⟨QH,(fMc ⟨D5,nl0⟩)⟩) (fMc ⟨⟨_,_,_,(FnOk.mono (QI T) (by decide)),T.q_is_whole.m,T.q_is_whole.F.kp,T.q_is_whole.b⟩,(fMc ⟨⟨_,_,_,(FnOk.mono (D6 T) (by decide)),T.q_two_to.m,T.q_two_to.F.kp,T.q_two_to.b⟩,nl0⟩)⟩) nl0 nl0 (Xq T)) EY ZnW (fun vs M Q h=>?_) (fun vs M Q h=>?_)
 ·obtain⟨k,i,rfl,_⟩:=h;rfl
 obtain⟨k,i,rfl,h1,h2,h3,q⟩:=h;show wSs _ _ _ [some (.int k),some (.int i)] M;delta EY KA;walk_at "s";refine⟨i,rfl,?_⟩;walk_at "s";rw[if_pos h2];refine⟨k,rfl,h1,?_⟩;walk_at "s";rw[decide_eq_true h3];exact q
abbrev UP:SpM:=λvs M Q=>∃(z:Str) (e:Addr) (zs:List Str),vs=[.str z,.ref e]/\M e=some (.lst (zs.map MV.str))/\z∈zs/\Q .non M
theorem Gw:MonW UP:=by walk_at "m"
theorem Gx(T:Txt K mg t):FnOk P w K mg base CX0 1 t.f_refuse_unknown t.d_refuse_unknown ["name","known"] (liSp K UP):=by
 refine T.q_refuse_unknown.F.okM Ko (Xn (P:=P) (w:=w) (K:=K) (mg:=mg) (base:=base) (k:=0) (G:=FK) (Φ:=[]) (Ψ:=[]) (Χ:=[]) rfl (Xo T) (Xp T) rfl nl0 nl0 nl0 nl0 (Xq T)) Bd MI (λvs M Q h=>?_) (λvs M Q h=>?_)
 ·obtain⟨z,a,zs,rfl,_⟩:=h;rfl
 obtain⟨z,a,zs,rfl,h1,h2,q⟩:=h;show wSs _ _ _ [some (.str z),some (.ref a)] M;delta Bd FJ;walk_at "s";refine .inl ⟨_,h1,rfl,QF zs,?_⟩;rw[Gs,decide_eq_true h2];walk_at "s";exact q
theorem Gy{α:Type} [DecidableEq α] {zs:List α}(nd:zs.Nodup){j:Nat}{z:α}(hz:zs[j]?=some z):z∉zs.take j:=λhm=>by
 obtain⟨hj,rfl⟩:=XV.mp hz;obtain⟨k,hk,e1⟩:=Yc hm;have hk2:k<j:=by rw[YM]at hk;lia
 rw[List.getElem_take]at e1;have:=(BR nd).mp e1;lia
theorem Gz{α β:Type}{f:α->β}{zs:List α}{j:Nat}{z:α}(hz:zs[j]?=some z):(zs.take j).map f++[f z]=(zs.take (j+1)).map f:=by
 rw[Ui,hz,Y7];rfl
abbrev Bk:SpM:=λvs M Q=>∃(f:Addr) (F:List Fer),vs=[.ref f]/\M f=some (.lst (F.map Fer.mv))/\F.length≤6/\(F.map (·.name)).Nodup/\(∀x∈F,ZL x.name)/\∀M',SameM M M'->Q .non M'
theorem QK:MonW Bk:=by walk_at "m"
theorem Z5A(T:Txt K mg t):FnOk P w K mg base CX0 3 t.f_refuse_ferry_names t.d_refuse_ferry_names ["ferries"] (liSp K Bk):=by
 refine T.q_refuse_ferry_names.F.okM Z5s (Xn (P:=P) (w:=w) (K:=K) (mg:=mg) (base:=base) (k:=2) (G:=MN) (Φ:=[("refuse_name",UO)]) (Ψ:=[]) (Χ:=[("refuse_name",UO)]) rfl (Xo T) (Xp T) rfl (fMc ⟨Gu,nl0⟩) (fMc ⟨⟨_,_,_,(FnOk.mono (Gv T) (by decide)),T.q_refuse_name.m,T.q_refuse_name.F.kp,T.q_refuse_name.b⟩,nl0⟩) nl0 nl0 (Xq T)) FL Z6v (fun vs M Q h=>?_) (fun vs M Q h=>?_)
 ·obtain⟨f,F,rfl,_⟩:=h;rfl
 obtain⟨f,F,rfl,hf,h6,nd,hg,q⟩:=h;show wSs _ _ _ [some (.ref f),none,none] M;delta FL MM;walk_at "s";intro p hp;have s1:=SameM.new hp (.lst []);have hf1:=s1 _ _ hf;have hp1:updM M p (.lst []) p=some (.lst []):=X9;have old:∀a o,M a=some o->a≠p:=λa o h=>neM h hp;generalize updM M p _=M1 at*;delta ML
 repeat (first|walk_at "s"|simp only[hf1])
 obtain⟨J,hJ⟩:∃J:Nat->Sm->MH->Prop,∀j σ M',J j σ M'↔SameM M M'/\M' p=some (.lst (((F.map (·.name)).take j).map MV.str))/\∃v,σ=[some (.ref f),some (.ref p),v]:=⟨_,λ_ _ _=>Yn⟩;refine⟨J,(hJ _ _ _).mpr ⟨s1,by simpa using hp1,_,rfl⟩,λj σ M' h=>((hJ _ _ _).mp h).1 _ _ hf,?_,?_⟩
 ·rintro j y σ M' hy h;obtain⟨s2,hp2,v,rfl⟩:=(hJ _ _ _).mp h;obtain⟨hj,rfl⟩:=YU hy;have hj:j<F.length:=hj;have hz:(F.map (·.name))[j]?=some F[j].name:=by rw[Xw,Xd hj];rfl
  delta MK
  repeat (first|walk_at "s"|simp only[Fer.mv])
  refine⟨F[j].name,p,(F.map (·.name)).take j,rfl,hp2,hg _ (Y1 hj),Gy nd hz,λM3 s3=>?_⟩;have hp3:=s3 _ _ hp2;walk_at "s";delta MJ
  repeat (first|walk_at "s"|simp only[Fer.mv,hp3,Xa,YM])
  refine⟨⟨_,rfl⟩,by lia,(hJ _ _ _).mpr ⟨λa o h=>by rw[Xc (old a o h)];exact s3 _ _ (s2 _ _ h),?_,_,rfl⟩⟩
  rw[X9,Gz hz]
 ·rintro σ M' h;obtain⟨s2,_⟩:=(hJ _ _ _).mp h;exact q _ s2
abbrev Bl:SpM:=λvs M Q=>∃(k:Nat) (f:Addr) (ps:List (Str×Int)),vs=[.int k,.ref f]/\M f=some (.lst (ps.map prV))/\k≤64/\ps.length≤6/\(ps.map (·.1)).Nodup/\(∀x∈ps,ZL x.1/\0≤x.2/\x.2<2^k)/\∀M',SameM M M'->Q .non M'
theorem QL:MonW Bl:=by walk_at "m"
theorem Z7N(T:Txt K mg t):FnOk P w K mg base CX0 3 t.f_refuse_variables t.d_refuse_variables ["width","pairs"] (liSp K Bl):=by
 refine T.q_refuse_variables.F.okM Z7J (Xn (P:=P) (w:=w) (K:=K) (mg:=mg) (base:=base) (k:=2) (G:=MX) (Φ:=[("fits",Dj),("refuse_name",UO)]) (Ψ:=[]) (Χ:=[("fits",Dj),("refuse_name",UO)]) rfl (Xo T) (Xp T) rfl (fMc ⟨ZfA,(fMc ⟨Gu,nl0⟩)⟩) (fMc ⟨⟨_,_,_,(FnOk.mono (Zn4 T) (by decide)),T.q_fits.m,T.q_fits.F.kp,T.q_fits.b⟩,(fMc ⟨⟨_,_,_,(FnOk.mono (Gv T) (by decide)),T.q_refuse_name.m,T.q_refuse_name.F.kp,T.q_refuse_name.b⟩,nl0⟩)⟩) nl0 nl0 (Xq T)) FM Z81 (fun vs M Q h=>?_) (fun vs M Q h=>?_)
 ·obtain⟨k,f,F,rfl,_⟩:=h;rfl
 obtain⟨k,f,F,rfl,hf,hk,h6,nd,hg,q⟩:=h;show wSs _ _ _ [some (.int k),some (.ref f),none,none,none] M;delta FM MW;walk_at "s";intro p hp;have s1:=SameM.new hp (.lst []);have hf1:=s1 _ _ hf;have hp1:updM M p (.lst []) p=some (.lst []):=X9;have old:∀a o,M a=some o->a≠p:=λa o h=>neM h hp;generalize updM M p _=M1 at*;delta MU
 repeat (first|walk_at "s"|simp only[hf1])
 obtain⟨J,hJ⟩:∃J:Nat->Sm->MH->Prop,∀j σ M',J j σ M'↔SameM M M'/\M' p=some (.lst (((F.map (·.1)).take j).map MV.str))/\∃v v',σ=[some (.int k),some (.ref f),some (.ref p),v,v']:=⟨_,λ_ _ _=>Yn⟩;refine⟨J,(hJ _ _ _).mpr ⟨s1,by simpa using hp1,_,_,rfl⟩,λj σ M' h=>((hJ _ _ _).mp h).1 _ _ hf,?_,?_⟩
 ·rintro j y σ M' hy h;obtain⟨s2,hp2,v,v',rfl⟩:=(hJ _ _ _).mp h;obtain⟨hj,rfl⟩:=YU hy;have hj:j<F.length:=hj;have hz:(F.map (·.1))[j]?=some F[j].1:=by rw[Xw,Xd hj];rfl
  obtain⟨g1,g2,g3⟩:=hg _ (Y1 hj);delta MS
  repeat (first|walk_at "s"|simp only[prV])
  delta MR;walk_at "s";refine⟨F[j].1,p,(F.map (·.1)).take j,rfl,hp2,g1,Gy nd hz,λM3 s3=>?_⟩;have hp3:=s3 _ _ hp2;walk_at "s";delta MQ
  repeat (first|walk_at "s"|simp only[hp3,Xa,YM])
  refine⟨⟨_,rfl⟩,by lia,?_⟩
  delta MP
  repeat (first|walk_at "s"|simp only[prV])
  refine⟨k,F[j].2,rfl,hk,g2,g3,?_⟩;walk_at "s";refine(hJ _ _ _).mpr ⟨λa o h=>by rw[Xc (old a o h)];exact s3 _ _ (s2 _ _ h),?_,_,_,rfl⟩
  rw[X9,Gz hz]
 ·rintro σ M' h;obtain⟨s2,_⟩:=(hJ _ _ _).mp h;exact q _ s2
abbrev Dk:SpM:=λvs M Q=>∃(U:Tm) (e:Addr) (ns:List Str),vs=[U.mv,.ref e]/\M e=some (.lst (ns.map MV.str))/\ns.length≤6/\TmIn ns U/\∀M',SameM M M'->Q .non M'
theorem Z8j:MonW Dk:=by walk_at "m"
theorem Zc3(T:Txt K mg t):FnOk P w K mg base CX0 51 t.f_refuse_term t.d_refuse_term ["T","known"] (liSp K Dk):=by
 refine T.q_refuse_term.F.okM ZbW (Xn (P:=P) (w:=w) (K:=K) (mg:=mg) (base:=base) (k:=50) (G:=N2) (Φ:=[("refuse_unknown",UP),("size_of",(Vk 8)),("vars_in",Df)]) (Ψ:=[]) (Χ:=[("refuse_unknown",UP),("size_of",(Vk 8)),("vars_in",Df)]) rfl (Xo T) (Xp T) rfl (fMc ⟨Gw,(fMc ⟨(QA _),(fMc ⟨Zc8,nl0⟩)⟩)⟩) (fMc ⟨⟨_,_,_,FnOk.mono (Gx T) (by decide),T.q_refuse_unknown.m,T.q_refuse_unknown.F.kp,T.q_refuse_unknown.b⟩,(fMc ⟨⟨_,_,_,FnOk.mono (QB T 8) (by decide),T.q_size_of.m,T.q_size_of.F.kp,T.q_size_of.b⟩,(fMc ⟨⟨_,_,_,FnOk.mono (Zha T) (by decide),T.q_vars_in.m,T.q_vars_in.F.kp,T.q_vars_in.b⟩,nl0⟩)⟩)⟩) nl0 nl0 (Xq T)) FN Zci (fun vs M Q h=>?_) (fun vs M Q h=>?_)
 ·obtain⟨U,a,ns,rfl,_⟩:=h;rfl
 obtain⟨U,a,ns,rfl,ha,h6,⟨hd,hs,hr⟩,q⟩:=h;show wSs _ _ _ [some U.mv,some (.ref a),none,none] M;delta FN N1;walk_at "s";refine⟨U,rfl,hd,λM1 s1=>?_⟩;walk_at "s";delta N0;walk_at "s";rw[if_neg (by lia:¬((U.size:Nat):Int)>30)]
 rw[if_neg (by lia:¬((U.depth:Nat):Int)>8)]
 delta MZ;walk_at "s";refine⟨U,ns,rfl,by lia,by lia,hr,by lia,λp M2 ys s2 hp hp2 nd hm _=>?_⟩
 repeat (first|walk_at "s"|simp only[hp2])
 obtain⟨J,hJ⟩:∃J:Nat->Sm->MH->Prop,∀j σ M',J j σ M'↔M'=M2/\∃v v',σ=[some U.mv,some (.ref a),v,v']:=⟨_,λ_ _ _=>Yn⟩;refine⟨J,(hJ _ _ _).mpr ⟨rfl,_,_,rfl⟩,λj σ M' h=>by rw[((hJ _ _ _).mp h).1];exact hp2,?_,?_⟩
 ·rintro j y σ M' hy h;obtain⟨rfl,v,v',rfl⟩:=(hJ _ _ _).mp h;obtain⟨hj,rfl⟩:=YU hy;delta MY;walk_at "s";refine⟨ys[j],a,ns,rfl,s2 _ _ (s1 _ _ ha),hr _ ((hm _).mp (Y1 hj)),?_⟩;walk_at "s";exact(hJ _ _ _).mpr ⟨rfl,_,_,rfl⟩
 ·rintro σ M' h;obtain⟨rfl,_⟩:=(hJ _ _ _).mp h;exact q _ (s1.trans s2)
theorem GA{f x:Str}:(Stp.take f x).mv=.tup [.str "take",.str f,.str x]:=rfl
theorem GD{f:Str}{U:Tm}:(Stp.give f U).mv=.tup [.str "give",.str f,U.mv]:=rfl
theorem GE{f:Str}{U:Tm}:(Stp.put f U).mv=.tup [.str "put",.str f,U.mv]:=rfl
theorem GF{i:Int}{U:Tm}:(Stp.jump U i).mv=.tup [.str "jump",U.mv,.int i]:=rfl
abbrev Bm:SpM:=λvs M Q=>∃(S:Stp) (a b:Addr) (ns fs:List Str) (n:Nat),vs=[S.mv,.ref a,.int n,.ref b]/\M a=some (.lst (ns.map MV.str))/\M b=some (.lst (fs.map MV.str))/\ns.length≤6/\U8 fs ns n S/\∀M',SameM M M'->Q .non M'
theorem QN:MonW Bm:=by walk_at "m"
theorem Zc4(T:Txt K mg t):FnOk P w K mg base CX0 52 t.f_refuse_step t.d_refuse_step ["step","known","count","ferry_names"] (liSp K Bm):=by
 refine T.q_refuse_step.F.okM ZbX (Xn (P:=P) (w:=w) (K:=K) (mg:=mg) (base:=base) (k:=51) (G:=Nc) (Φ:=[("refuse_term",Dk),("refuse_unknown",UP)]) (Ψ:=[]) (Χ:=[("refuse_term",Dk),("refuse_unknown",UP)]) rfl (Xo T) (Xp T) rfl (fMc ⟨Z8j,(fMc ⟨Gw,nl0⟩)⟩) (fMc ⟨⟨_,_,_,(FnOk.mono (Zc3 T) (by decide)),T.q_refuse_term.m,T.q_refuse_term.F.kp,T.q_refuse_term.b⟩,(fMc ⟨⟨_,_,_,(FnOk.mono (Gx T) (by decide)),T.q_refuse_unknown.m,T.q_refuse_unknown.F.kp,T.q_refuse_unknown.b⟩,nl0⟩)⟩) nl0 nl0 (Xq T)) FP Zcj (fun vs M Q h=>?_) (fun vs M Q h=>?_)
 ·obtain⟨S,a,b,ns,fs,n,rfl,_⟩:=h;rfl
 obtain⟨S,a,b,ns,fs,n,rfl,ha,hb,h6,hS,q⟩:=h;show wSs _ _ _ [some S.mv,some (.ref a),some (.int n),some (.ref b)] M;delta FP Nb;cases S with
 |take f x=>
  obtain⟨h1,h2⟩:=hS
  repeat (first|walk_at "s"|simp only[GA])
  delta N4;walk_at "s";refine⟨f,b,fs,rfl,hb,h1,?_⟩;walk_at "s";delta N3;walk_at "s";refine⟨x,a,ns,rfl,ha,h2,?_⟩;walk_at "s";exact q _ (SameM.refl _)
 |give f U=>
  obtain⟨h1,h2⟩:=hS
  repeat (first|walk_at "s"|simp only[GD])
  delta CZ;walk_at "s";delta N6;walk_at "s";refine⟨f,b,fs,rfl,hb,h1,?_⟩;walk_at "s";delta N5;walk_at "s";refine⟨U,a,ns,rfl,ha,h6,h2,λM1 s1=>?_⟩;walk_at "s";exact q _ s1
 |put f U=>
  obtain⟨h1,h2⟩:=hS
  repeat (first|walk_at "s"|simp only[GE])
  delta CZ;walk_at "s";delta FO;walk_at "s";delta N8;walk_at "s";refine⟨f,a,ns,rfl,ha,h1,?_⟩;walk_at "s";delta N7;walk_at "s";refine⟨U,a,ns,rfl,ha,h6,h2,λM1 s1=>?_⟩;walk_at "s";exact q _ s1
 |jump U i=>
  obtain⟨h1,h2,h3⟩:=hS
  repeat (first|walk_at "s"|simp only[GF])
  delta CZ;walk_at "s";delta FO;walk_at "s";delta Na;walk_at "s";refine⟨U,a,ns,rfl,ha,h6,h1,λM1 s1=>?_⟩;walk_at "s";delta N9;walk_at "s";rw[if_pos h2];rw[if_neg (by lia:¬¬i≤(n:Int))]
  exact q _ s1
abbrev Dl:SpM:=λvs M Q=>∃(k:Nat) (I:Isl) (y:MV) (b:Addr) (fs:List Str),vs=[.int k,y,.ref b]/\k≤64/\IslIn M I y/\M b=some (.lst (fs.map MV.str))/\IslOk k fs I/\∀M',SameM M M'->Q .non M'
theorem Z6O:MonW Dl:=by walk_at "m"
theorem Zam(T:Txt K mg t):FnOk P w K mg base CX0 53 t.f_refuse_island t.d_refuse_island ["width","island","ferry_names"] (liSp K Dl):=by
 refine T.q_refuse_island.F.okM Zak (Xn (P:=P) (w:=w) (K:=K) (mg:=mg) (base:=base) (k:=52) (G:=Nm) (Φ:=[("refuse_step",Bm),("refuse_variables",Bl)]) (Ψ:=[]) (Χ:=[("refuse_step",Bm),("refuse_variables",Bl)]) rfl (Xo T) (Xp T) rfl (fMc ⟨QN,(fMc ⟨QL,nl0⟩)⟩) (fMc ⟨⟨_,_,_,(FnOk.mono (Zc4 T) (by decide)),T.q_refuse_step.m,T.q_refuse_step.F.kp,T.q_refuse_step.b⟩,(fMc ⟨⟨_,_,_,(FnOk.mono (Z7N T) (by decide)),T.q_refuse_variables.m,T.q_refuse_variables.F.kp,T.q_refuse_variables.b⟩,nl0⟩)⟩) nl0 nl0 (Xq T)) FQ Zav (fun vs M Q h=>?_) (fun vs M Q h=>?_)
 ·obtain⟨k,I,y,b,fs,rfl,_⟩:=h;rfl
 obtain⟨k,I,y,fa,fs,rfl,hk,⟨a,b,rfl,ha,hb⟩,hfa,ok,q⟩:=h;show wSs _ _ _ [some (.int k),some (.tup [.str I.name,.ref a,.ref b]),some (.ref fa),none,none] M;have l1:=ok.nv;have l2:=ok.ns;delta FQ Nk
 repeat (first|walk_at "s"|simp only[ha,Xa])
 refine Yb (λz=>by lia) (λ_=>?_)
 delta Nj
 repeat (first|walk_at "s"|simp only[hb,Xa])
 refine Yb (λz=>by lia) (λ_=>?_)
 delta Ni;walk_at "s";refine⟨k,a,I.prs,rfl,ha,hk,l1,ok.nd,λx hx=>⟨ok.gd _ (XY.mpr ⟨x,hx,rfl⟩),ok.wd _ hx⟩,λM1 s1=>?_⟩;walk_at "s";have ha1:=s1 _ _ ha;delta Nh;walk_at "s";refine U7 I.prs prV (fun p=>.str p.1) ?_ ?_ (UM (Φ:=[("refuse_step",Bm),("refuse_variables",Bl)]) (fMc ⟨QN,(fMc ⟨QL,nl0⟩)⟩)) fun D hD=>?_
 ·repeat (first|walk_at "s"|simp only[ha1])
  exact⟨rfl,by lia,ha1⟩
 ·intro p hp M' s;simp only[sCm,XD,Yf,Ys,Yt,Yk,Yd]
  repeat (first|walk_at "s"|simp only[prV])
  try exact⟨rfl,rfl⟩
 have eV:(I.prs.map λp=>MV.str p.1)=I.vars.map MV.str:=by unfold Isl.vars;rw[Yv];rfl
 rw[eV];have s2:=s1.trans (SameM.new hD (.lst (I.vars.map MV.str)));have hD2:updM M1 D (.lst (I.vars.map MV.str)) D=some (.lst (I.vars.map MV.str)):=X9;generalize updM M1 D _=M2 at*;have hb2:=s2 _ _ hb;delta Nf
 repeat (first|walk_at "s"|simp only[hb2])
 obtain⟨J,hJ⟩:∃J:Nat->Sm->MH->Prop,∀j σ M',J j σ M'↔SameM M2 M'/\∃v,σ=[some (.int k),some (.tup [.str I.name,.ref a,.ref b]),some (.ref fa),some (.ref D),v]:=⟨_,λ_ _ _=>Yn⟩;refine⟨J,(hJ _ _ _).mpr ⟨SameM.refl _,_,rfl⟩,λj σ M' h=>((hJ _ _ _).mp h).1 _ _ hb2,?_,?_⟩
 ·rintro j y σ M' hy h;obtain⟨s3,v,rfl⟩:=(hJ _ _ _).mp h;obtain⟨hj,rfl⟩:=YU hy;have hj:j<I.stps.length:=hj;have hb3:=s3 _ _ hb2;delta Nd
  repeat (first|walk_at "s"|simp only[hb3,Xa])
  refine⟨I.stps[j],D,fa,I.vars,fs,I.stps.length,rfl,s3 _ _ hD2,s3 _ _ (s2 _ _ hfa),by unfold Isl.vars;rw[Xa];exact l1,ok.st _ (Y1 hj),λM4 s4=>?_⟩
  walk_at "s";exact(hJ _ _ _).mpr ⟨s3.trans s4,_,rfl⟩
 ·rintro σ M' h;obtain⟨s3,_⟩:=(hJ _ _ _).mp h;exact q _ (s2.trans s3)
abbrev Bn:SpM:=λvs M Q=>∃(k:Nat) (p b:Addr) (Is:List Isl) (ys:List MV) (fs:List Str),vs=[.int k,.ref p,.ref b]/\k≤64/\M p=some (.lst ys)/\IslsIn M Is ys/\Is.length≤5/\fs.length≤6/\M b=some (.lst (fs.map MV.str))/\(fs++Is.map (·.name)).Nodup/\(∀I∈Is,ZL I.name)/\(∀I∈Is,IslOk k fs I)/\∀M',SameM M M'->Q .non M'
theorem QO:MonW Bn:=by walk_at "m"
theorem Z8Y(T:Txt K mg t):FnOk P w K mg base CX0 54 t.f_refuse_islands t.d_refuse_islands ["width","islands","ferry_names"] (liSp K Bn):=by
 refine T.q_refuse_islands.F.okM Z8V (Xn (P:=P) (w:=w) (K:=K) (mg:=mg) (base:=base) (k:=53) (G:=Nu) (Φ:=[("refuse_island",Dl),("refuse_name",UO)]) (Ψ:=[]) (Χ:=[("refuse_island",Dl),("refuse_name",UO)]) rfl (Xo T) (Xp T) rfl (fMc ⟨Z6O,(fMc ⟨Gu,nl0⟩)⟩) (fMc ⟨⟨_,_,_,(FnOk.mono (Zam T) (by decide)),T.q_refuse_island.m,T.q_refuse_island.F.kp,T.q_refuse_island.b⟩,(fMc ⟨⟨_,_,_,(FnOk.mono (Gv T) (by decide)),T.q_refuse_name.m,T.q_refuse_name.F.kp,T.q_refuse_name.b⟩,nl0⟩)⟩) nl0 nl0 (Xq T)) FR Z9e (fun vs M Q h=>?_) (fun vs M Q h=>?_)
 ·obtain⟨k,p,b,Is,ys,fs,rfl,_⟩:=h;rfl
 obtain⟨k,p,f,Is,ys,fs,rfl,hk,hp,hI,h5,hf6,hf,nd,hg,ok,q⟩:=h;show wSs _ _ _ [some (.int k),some (.ref p),some (.ref f),none,none] M;delta FR Nr
 repeat (first|walk_at "s"|simp only[hf])
 intro e he;have s1:=SameM.new he (.lst (fs.map MV.str));have he1:updM M e (.lst (fs.map MV.str)) e=some (.lst (fs.map MV.str)):=X9;have hp1:=s1 _ _ hp;have old:∀a o,M a=some o->a≠e:=λa o h=>neM h he;generalize updM M e _=M1 at*;delta Nq
 repeat (first|walk_at "s"|simp only[hp1])
 obtain⟨J,hJ⟩:∃J:Nat->Sm->MH->Prop,∀j σ M',J j σ M'↔SameM M M'/\M' e=some (.lst ((fs++(Is.map (·.name)).take j).map MV.str))/\∃v,σ=[some (.int k),some (.ref p),some (.ref f),some (.ref e),v]:=⟨_,λ_ _ _=>Yn⟩;refine⟨J,(hJ _ _ _).mpr ⟨s1,by simpa using he1,_,rfl⟩,λj σ M' h=>((hJ _ _ _).mp h).1 _ _ hp,?_,?_⟩
 ·rintro j y σ M' hy h;obtain⟨s2,he2,v,rfl⟩:=(hJ _ _ _).mp h;have hy:ys[j]?=some y:=hy;have hj:j<Is.length:=by rw[<- hI.1];exact(XV.mp hy).1
  have hi:Is[j]?=some Is[j]:=Xd hj;have hz:(Is.map (·.name))[j]?=some Is[j].name:=by rw[Xw,hi];rfl
  have hm:=Y1 hj;obtain⟨a,b,rfl,_⟩:=(hI.keep s2).2 j Is[j] y hi hy;have nin:Is[j].name∉fs++(Is.map (·.name)).take j:=by
   rw[ZD]at nd;intro z;rcases YN.mp z with z|z
   ·exact nd.2.2 _ z _ (XY.mpr ⟨_,hm,rfl⟩) rfl
   ·exact Gy nd.2.1 hz z
  delta Np;walk_at "s";refine⟨Is[j].name,e,fs++(Is.map (·.name)).take j,rfl,he2,hg _ hm,nin,λM3 s3=>?_⟩;have he3:=s3 _ _ he2;walk_at "s";delta No
  repeat (first|walk_at "s"|simp only[he3,Xa,Yz,YM])
  refine⟨⟨_,rfl⟩,by lia,?_⟩
  have s4:SameM M (updM M3 e (.lst ((fs++(Is.map (·.name)).take j).map MV.str++[.str Is[j].name]))):=λa o h=>by rw[Xc (old a o h)];exact s3 _ _ (s2 _ _ h)
  have he4:updM M3 e (.lst ((fs++(Is.map (·.name)).take j).map MV.str++[.str Is[j].name])) e=some (.lst ((fs++(Is.map (·.name)).take (j+1)).map MV.str)):=by
   rw[X9,Y7,Y7,VE,Gz hz]
  generalize updM M3 e _=M4 at*;delta Nn;walk_at "s";refine⟨k,Is[j],_,f,fs,rfl,hk,(hI.keep s4).2 j _ _ hi hy,s4 _ _ hf,ok _ hm,λM5 s5=>?_⟩;walk_at "s";exact(hJ _ _ _).mpr ⟨s4.trans s5,s5 _ _ he4,_,rfl⟩
 ·rintro σ M' h;obtain⟨s2,_⟩:=(hJ _ _ _).mp h;exact q _ s2
abbrev Bo:SpM:=λvs M Q=>∃(x:Fer) (e:Addr) (zs:List Str),vs=[x.mv,.ref e]/\M e=some (.lst (zs.map MV.str))/\FerOk zs x/\Q .non M
theorem QP:MonW Bo:=by walk_at "m"
theorem Zb1(T:Txt K mg t):FnOk P w K mg base CX0 2 t.f_refuse_ferry t.d_refuse_ferry ["ferry","island_names"] (liSp K Bo):=by
 refine T.q_refuse_ferry.F.okM ZaO (Xn (P:=P) (w:=w) (K:=K) (mg:=mg) (base:=base) (k:=1) (G:=NB) (Φ:=[("refuse_unknown",UP)]) (Ψ:=[]) (Χ:=[("refuse_unknown",UP)]) rfl (Xo T) (Xp T) rfl (fMc ⟨Gw,nl0⟩) (fMc ⟨⟨_,_,_,(FnOk.mono (Gx T) (by decide)),T.q_refuse_unknown.m,T.q_refuse_unknown.F.kp,T.q_refuse_unknown.b⟩,nl0⟩) nl0 nl0 (Xq T)) FS ZbC (fun vs M Q h=>?_) (fun vs M Q h=>?_)
 ·obtain⟨x,a,zs,rfl,_⟩:=h;rfl
 obtain⟨x,a,zs,rfl,ha,ok,q⟩:=h;show wSs _ _ _ [some (.tup [.str x.name,.str x.giver,.str x.taker,.int x.k,.int x.st]),some (.ref a)] M;have k3:=ok.k3;have t1:=ok.s1;have t3:=ok.s3;delta FS NA;walk_at "s";refine⟨_,a,zs,rfl,ha,ok.g,?_⟩;walk_at "s";delta Nz;walk_at "s";refine⟨_,a,zs,rfl,ha,ok.t,?_⟩;walk_at "s";delta Ny;walk_at "s";rw[if_neg ok.ne];delta Nw;walk_at "s";rw[if_pos (by lia:(0:Int)≤(x.k:Int))]
 rw[if_neg (by lia:¬¬(x.k:Int)≤3)]
 delta Nv;walk_at "s";rw[if_pos (by lia:(1:Int)≤(x.st:Int))]
 rw[if_neg (by lia:¬¬(x.st:Int)≤3)]
 exact q
theorem Zh6{F:List Fer}{g:Fer->Str}:∀{c:List (Key×MV)},(F.map (·.name)).Nodup->(∀x∈F,valM c (Xy x.name)=none)->∀x∈F,valM ((F.map λy=>((Xy y.name:Key),MV.str (g y))).foldl (λc z=>putM c z.1 z.2) c) (Xy x.name)=some (.str (g x)):=by
 have stay:∀(F:List Fer) (c:List (Key×MV)) (z:Str),(∀y∈F,y.name≠z)->valM ((F.map λy=>((Xy y.name:Key),MV.str (g y))).foldl (λc z=>putM c z.1 z.2) c) (Xy z)=valM c (Xy z):=by
  intro F
  induction F with
  |nil=>intro c z _;rfl
  |cons y r ih=>
   intro c z h;rw[XD,VI,ih _ _ (λy hy=>h y (XX _ hy)),D0,if_neg (λe=>h y (Yi ..) (W0 e).symm)]
 induction F with
 |nil=>intro c _ _ x hx;cases hx
 |cons y r ih=>
  intro c nd h x hx;rw[XD,YF]at nd;rw[XD,VI];rcases Xr.mp hx with rfl|hx
  ·rw[stay _ _ _ (λz hz e=>nd.1 (XY.mpr ⟨z,hz,e⟩)),D0,if_pos rfl]
  ·refine ih nd.2 (λz hz=>?_) x hx;rw[D0,if_neg (λe=>nd.1 (XY.mpr ⟨z,hz,W0 e⟩))];exact h z (XX _ hz)
def dirK(F:List Fer)(g:Fer->Str):List (Key×MV):=YR (F.map λy=>((Xy y.name:Key),MV.str (g y)))
theorem QQ{F:List Fer}{g:Fer->Str}(nd:(F.map (·.name)).Nodup){x:Fer}(hx:x∈F):valM (dirK F g) (Xy x.name)=some (.str (g x)):=Zh6 nd (λ_ _=>rfl) x hx
abbrev Bp:SpM:=λvs M Q=>∃(z:Str) (S:Stp) (a b:Addr) (F:List Fer),vs=[.str z,S.mv,.ref a,.ref b]/\M a=some (.dic (dirK F (·.giver)))/\M b=some (.dic (dirK F (·.taker)))/\(F.map (·.name)).Nodup/\U9 F z S/\(∀f,(∃x,S=.take f x)\/(∃U,S=.give f U)->f∈F.map (·.name))/\Q .non M
theorem QR:MonW Bp:=by walk_at "m"
theorem Z7M(T:Txt K mg t):FnOk P w K mg base CX0 1 t.f_refuse_wrong_end t.d_refuse_wrong_end ["name","step","givers","takers"] (liSp K Bp):=by
 refine T.q_refuse_wrong_end.F.okM Z7I (Xn (P:=P) (w:=w) (K:=K) (mg:=mg) (base:=base) (k:=0) (G:=ND) (Φ:=[]) (Ψ:=[]) (Χ:=[]) rfl (Xo T) (Xp T) rfl nl0 nl0 nl0 nl0 (Xq T)) FT Z80 (λvs M Q h=>?_) (λvs M Q h=>?_)
 ·obtain⟨z,S,a,b,F,rfl,_⟩:=h;rfl
 obtain⟨z,S,a,b,F,rfl,ha,hb,nd,hE,hF,q⟩:=h;show wSs _ _ _ [some (.str z),some S.mv,some (.ref a),some (.ref b)] M;delta FT NC;cases S with
 |take f x=>
  obtain⟨y,hy,rfl⟩:=XY.mp (hF f (.inl ⟨x,rfl⟩));have v:=QQ (g:=(·.taker)) nd hy;have e:=hE y hy rfl
  repeat (first|walk_at "s"|simp only[GA,hb,v,e])
  delta Be
  repeat (first|walk_at "s"|simp only[GA])
  exact q
 |give f U=>
  obtain⟨y,hy,rfl⟩:=XY.mp (hF f (.inr ⟨U,rfl⟩));have v:=QQ (g:=(·.giver)) nd hy;have e:=hE y hy rfl
  repeat (first|walk_at "s"|simp only[GD])
  delta Be
  repeat (first|walk_at "s"|simp only[GD,ha,v,e])
  exact q
 |put f U=>
  repeat (first|walk_at "s"|simp only[GE])
  delta Be
  repeat (first|walk_at "s"|simp only[GE])
  exact q
 |jump U i=>
  repeat (first|walk_at "s"|simp only[GF])
  delta Be
  repeat (first|walk_at "s"|simp only[GF])
  exact q
theorem Zdn{fs ns:List Str}{n:Nat}{S:Stp}(h:U8 fs ns n S):∀f,(∃x,S=.take f x)\/(∃U,S=.give f U)->f∈fs:=by
 rintro f (⟨x,rfl⟩|⟨U,rfl⟩)
 ·exact h.1
 ·exact h.1
abbrev Bq:SpM:=λvs M Q=>∃(p f:Addr) (ys:List MV) (Is:List Isl) (F:List Fer),vs=[.ref p,.ref f]/\M p=some (.lst ys)/\IslsIn M Is ys/\Is.length≤5/\M f=some (.lst (F.map Fer.mv))/\F.length≤6/\(F.map (·.name)).Nodup/\
 (∀I∈Is,I.stps.length≤12/\∀s∈I.stps,U9 F I.name s/\∃ns n,U8 (F.map (·.name)) ns n s)/\∀M',SameM M M'->Q .non M'
theorem QS:MonW Bq:=by walk_at "m"
theorem QT(F:List Fer)(g:Fer->Str):(F.map λx=>MV.tup [.str x.name,.str (g x)])=(F.map λy=>((Xy y.name:Key),MV.str (g y))).map prM:=by rw[Yv];rfl
theorem Z6N(T:Txt K mg t):FnOk P w K mg base CX0 2 t.f_refuse_wrong_ends t.d_refuse_wrong_ends ["islands","ferries"] (liSp K Bq):=by
 refine T.q_refuse_wrong_ends.F.okM Z6L (Xn (P:=P) (w:=w) (K:=K) (mg:=mg) (base:=base) (k:=1) (G:=NJ) (Φ:=[("refuse_wrong_end",Bp)]) (Ψ:=[]) (Χ:=[("refuse_wrong_end",Bp)]) rfl (Xo T) (Xp T) rfl (fMc ⟨QR,nl0⟩) (fMc ⟨⟨_,_,_,(FnOk.mono (Z7M T) (by decide)),T.q_refuse_wrong_end.m,T.q_refuse_wrong_end.F.kp,T.q_refuse_wrong_end.b⟩,nl0⟩) nl0 nl0 (Xq T)) FU Z6R (fun vs M Q h=>?_) (fun vs M Q h=>?_)
 ·obtain⟨p,f,ys,Is,F,rfl,_⟩:=h;rfl
 obtain⟨p,f,ys,Is,F,rfl,hp,hI,h5,hf,h6,nd,hE,q⟩:=h;show wSs _ _ _ [some (.ref p),some (.ref f),none,none,none,none] M;have hΦ:=(UM (Φ:=[("refuse_wrong_end",Bp)]) (fMc ⟨QR,nl0⟩));delta FU NI;walk_at "s";refine U7 F Fer.mv (λx=>.tup [.str x.name,.str x.giver]) ?_ ?_ hΦ λD hD=>?_
 ·repeat (first|walk_at "s"|simp only[hf])
  exact⟨rfl,by lia,hf⟩
 ·intro x hx M' s;simp only[sCm,XD,Yf,Ys,Yt,Yk,Yd]
  repeat (first|walk_at "s"|simp only[Fer.mv])
  try exact⟨rfl,rfl⟩
 rw[QT F (·.giver)];have s1:=SameM.new hD (.lst ((F.map λy=>((Xy y.name:Key),MV.str y.giver)).map prM));have d1:updM M D (.lst ((F.map λy=>((Xy y.name:Key),MV.str y.giver)).map prM)) D=some (.lst ((F.map λy=>((Xy y.name:Key),MV.str y.giver)).map prM)):=X9;generalize updM M D _=M1 at*;walk_at "s";refine⟨_,d1,λa ha=>?_⟩;have s2:=s1.trans (SameM.new ha (.dic (dirK F (·.giver))));have ha2:updM M1 a (.dic (dirK F (·.giver))) a=some (.dic (dirK F (·.giver))):=X9
 change wSs _ _ _ _ (updM M1 a (.dic (dirK F (·.giver))))
 generalize updM M1 a _=M2 at*;have hf2:=s2 _ _ hf;delta NH;walk_at "s";refine U7 F Fer.mv (λx=>.tup [.str x.name,.str x.taker]) ?_ ?_ hΦ λD2 hD2=>?_
 ·repeat (first|walk_at "s"|simp only[hf2])
  exact⟨rfl,by lia,hf2⟩
 ·intro x hx M' s;simp only[sCm,XD,Yf,Ys,Yt,Yk,Yd]
  repeat (first|walk_at "s"|simp only[Fer.mv])
  try exact⟨rfl,rfl⟩
 rw[QT F (·.taker)];have s3:=SameM.new hD2 (.lst ((F.map λy=>((Xy y.name:Key),MV.str y.taker)).map prM));have d3:updM M2 D2 (.lst ((F.map λy=>((Xy y.name:Key),MV.str y.taker)).map prM)) D2=some (.lst ((F.map λy=>((Xy y.name:Key),MV.str y.taker)).map prM)):=X9;generalize updM M2 D2 _=M3 at*;walk_at "s";refine⟨_,d3,λb hb=>?_⟩;have s4:=s3.trans (SameM.new hb (.dic (dirK F (·.taker))));have hb4:updM M3 b (.dic (dirK F (·.taker))) b=some (.dic (dirK F (·.taker))):=X9
 change wSs _ _ _ _ (updM M3 b (.dic (dirK F (·.taker))))
 generalize updM M3 b _=M4 at*;have ha4:=s4 _ _ ha2;have s5:=s2.trans s4;have hp4:=s5 _ _ hp;have hI4:=hI.keep s5;delta NG
 repeat (first|walk_at "s"|simp only[hp4])
 obtain⟨J,hJ⟩:∃J:Nat->Sm->MH->Prop,∀j σ M',J j σ M'↔M'=M4/\∃v v',σ=[some (.ref p),some (.ref f),some (.ref a),some (.ref b),v,v']:=⟨_,λ_ _ _=>Yn⟩;refine⟨J,(hJ _ _ _).mpr ⟨rfl,_,_,rfl⟩,λj σ M' h=>by rw[((hJ _ _ _).mp h).1];exact hp4,?_,?_⟩
 ·rintro j y σ M' hy h;obtain⟨rfl,v,v',rfl⟩:=(hJ _ _ _).mp h;obtain⟨I,hm,c,d,rfl,hc,hd⟩:=hI4.mem (XE hy);obtain⟨l12,hS⟩:=hE I hm;delta NF
  repeat (first|walk_at "s"|simp only[hd])
  obtain⟨J2,hJ2⟩:∃J2:Nat->Sm->MH->Prop,∀j σ M,J2 j σ M↔M=M'/\∃v',σ=[some (.ref p),some (.ref f),some (.ref a),some (.ref b),some (.tup [.str I.name,.ref c,.ref d]),v']:=⟨_,λ_ _ _=>Yn⟩;refine⟨J2,(hJ2 _ _ _).mpr ⟨rfl,_,rfl⟩,λj σ M h=>by rw[((hJ2 _ _ _).mp h).1];exact hd,?_,?_⟩
  ·rintro i x σ M'' hx h2;obtain⟨rfl,v',rfl⟩:=(hJ2 _ _ _).mp h2;obtain⟨hi,rfl⟩:=YU hx;have hi:i<I.stps.length:=hi;obtain⟨e1,ns,n,e2⟩:=hS _ (Y1 hi);delta NE;walk_at "s";refine⟨I.name,I.stps[i],a,b,F,rfl,ha4,hb4,nd,e1,Zdn e2,?_⟩;walk_at "s";exact(hJ2 _ _ _).mpr ⟨rfl,_,rfl⟩
  ·rintro σ M'' h2;obtain⟨rfl,v',rfl⟩:=(hJ2 _ _ _).mp h2
   try walk_at "s"
   exact(hJ _ _ _).mpr ⟨rfl,_,_,rfl⟩
 ·rintro σ M' h;obtain⟨rfl,_⟩:=(hJ _ _ _).mp h;exact q _ s5
theorem FroD.up{M:MH}:∀{n:Nat} {v v':MV},FroD n M v v'->FroD (n+1) M v v'
 |0,_,_,h=>.inl h
 |n+1,v,v',h=>by
  rcases h with h|⟨ps,h1,h2,h3,h4⟩
  ·exact .inl h
  ·exact .inr ⟨ps,h1,h2,h3,λp hp=>(h4 p hp).up⟩
theorem FroD.to{M:MH}{n m:Nat}{v v':MV}(h:FroD n M v v')(l:n≤m):FroD m M v v':=by
 obtain⟨d,rfl⟩:∃d,m=n+d:=⟨m - n,by lia⟩
 clear l
 induction d with
 |zero=>exact h
 |succ d ih=>exact ih.up
theorem fro_str{M:MH}{z:Str}:FroD 0 M (.str z) (.str z):=⟨.inr ⟨z,rfl⟩,rfl⟩
theorem fro_int{M:MH}{i:Int}:FroD 0 M (.int i) (.int i):=⟨.inl ⟨i,rfl⟩,rfl⟩
theorem Ua{M:MH}{n:Nat}{xs:List MV}(l:xs.length≤1000)(h:∀x∈xs,FroD n M x x):FroD (n+1) M (.tup xs) (.tup xs):=by
 have e1:(xs.map λx=>(x,x)).map (·.1)=xs:=by rw[Yv];exact BU xs
 have e2:(xs.map λx=>(x,x)).map (·.2)=xs:=by rw[Yv];exact BU xs
 refine .inr ⟨xs.map λx=>(x,x),.inl (by rw[e1]),by rw[e2],by rw[Xa];exact l,λp hp=>?_⟩
 obtain⟨x,hx,rfl⟩:=XY.mp hp;exact h x hx
theorem GG{M:MH}{n:Nat}{a:Addr}{xs:List MV}(e:M a=some (.lst xs))(l:xs.length≤1000)(h:∀x∈xs,FroD n M x x):FroD (n+1) M (.ref a) (.tup xs):=by
 have e1:(xs.map λx=>(x,x)).map (·.1)=xs:=by rw[Yv];exact BU xs
 have e2:(xs.map λx=>(x,x)).map (·.2)=xs:=by rw[Yv];exact BU xs
 refine .inr ⟨xs.map λx=>(x,x),.inr ⟨a,rfl,by rw[e1];exact e⟩,by rw[e2],by rw[Xa];exact l,λp hp=>?_⟩
 obtain⟨x,hx,rfl⟩:=XY.mp hp;exact h x hx
theorem UQ{M:MH}:∀U:Tm,FroD U.depth M U.mv U.mv
 |.num n=>Ua (xs:=[.str "num",.int n]) (by simp) (by
   intro x hx;simp only[Xr,XR,or_false]at hx;rcases hx with rfl|rfl
   ·exact fro_str
   ·exact fro_int)
 |.var z=>Ua (xs:=[.str "var",.str z]) (by simp) (by
   intro x hx;simp only[Xr,XR,or_false]at hx;rcases hx with rfl|rfl
   ·exact fro_str
   ·exact fro_str)
 |.two f a b=>by
  have ha:=UQ (M:=M) a;have hb:=UQ (M:=M) b;show FroD (1+max a.depth b.depth) M (.tup [.str f.str,a.mv,b.mv]) (.tup [.str f.str,a.mv,b.mv]);rw[Nat.add_comm];refine Ua (by simp) λx hx=>?_
  simp only[Xr,XR,or_false]at hx;rcases hx with rfl|rfl|rfl
  ·exact fro_str.to (YO _)
  ·exact ha.to (by lia)
  ·exact hb.to (by lia)
 |.pick c a b=>by
  have hc:=UQ (M:=M) c;have ha:=UQ (M:=M) a;have hb:=UQ (M:=M) b;show FroD (1+max c.depth (max a.depth b.depth)) M (.tup [.str "pick",c.mv,a.mv,b.mv]) (.tup [.str "pick",c.mv,a.mv,b.mv]);rw[Nat.add_comm];refine Ua (by simp) λx hx=>?_
  simp only[Xr,XR,or_false]at hx;rcases hx with rfl|rfl|rfl|rfl
  ·exact fro_str.to (YO _)
  ·exact hc.to (by lia)
  ·exact ha.to (by lia)
  ·exact hb.to (by lia)
theorem Zmj{M:MH}{fs ns:List Str}{n:Nat}{S:Stp}(h:U8 fs ns n S):FroD 9 M S.mv S.mv:=by
 cases S with
 |take f x=>
  refine Ua (xs:=[.str "take",.str f,.str x]) (by simp) fun v hv=>?_
  simp only[Xr,XR,or_false]at hv;rcases hv with rfl|rfl|rfl<;>exact fro_str.to (by decide)
 |give f U=>
  refine Ua (xs:=[.str "give",.str f,U.mv]) (by simp) fun v hv=>?_
  simp only[Xr,XR,or_false]at hv;rcases hv with rfl|rfl|rfl
  ·exact fro_str.to (by decide)
  ·exact fro_str.to (by decide)
  ·exact(UQ U).to h.2.1
 |put f U=>
  refine Ua (xs:=[.str "put",.str f,U.mv]) (by simp) fun v hv=>?_
  simp only[Xr,XR,or_false]at hv;rcases hv with rfl|rfl|rfl
  ·exact fro_str.to (by decide)
  ·exact fro_str.to (by decide)
  ·exact(UQ U).to h.2.1
 |jump U i=>
  refine Ua (xs:=[.str "jump",U.mv,.int i]) (by simp) fun v hv=>?_
  simp only[Xr,XR,or_false]at hv;rcases hv with rfl|rfl|rfl
  ·exact fro_str.to (by decide)
  ·exact(UQ U).to h.1.1
  ·exact fro_int.to (by decide)
theorem Zno{M:MH}{k:Nat}{fs:List Str}{I:Isl}{y:MV}(ok:IslOk k fs I)(h:IslIn M I y):FroD 11 M y I.mv:=by
 obtain⟨a,b,rfl,ha,hb⟩:=h;have l1:=ok.nv;have l2:=ok.ns;refine .inr ⟨[(.str I.name,.str I.name),(.ref a,.tup (I.prs.map prV)),(.ref b,.tup (I.stps.map Stp.mv))],.inl rfl,rfl,by simp,λp hp=>?_⟩
 simp only[Xr,XR,or_false]at hp;rcases hp with rfl|rfl|rfl
 ·exact fro_str.to (by decide)
 ·refine GG ha (by rw[Xa];lia) λx hx=>?_
  obtain⟨q,_,rfl⟩:=XY.mp hx;refine(Ua (n:=0) (xs:=[.str q.1,.int q.2]) (by simp) λv hv=>?_).to (by decide)
  simp only[Xr,XR,or_false]at hv;rcases hv with rfl|rfl
  ·exact fro_str
  ·exact fro_int
 ·refine GG hb (by rw[Xa];lia) λx hx=>?_
  obtain⟨S,hS,rfl⟩:=XY.mp hx;exact Zmj (ok.st S hS)
theorem ZnL{M:MH}(f:Fer):FroD 1 M f.mv f.mv:=by
 refine Ua (xs:=[.str f.name,.str f.giver,.str f.taker,.int f.k,.int f.st]) (by simp) λv hv=>?_
 simp only[Xr,XR,or_false]at hv;rcases hv with rfl|rfl|rfl|rfl|rfl
 ·exact fro_str
 ·exact fro_str
 ·exact fro_str
 ·exact fro_int
 ·exact fro_int
theorem ZkM{M:MH}{k:Nat}{fs:List Str}{Is:List Isl}{ys:List MV}{p:Addr}(hp:M p=some (.lst ys))(h:IslsIn M Is ys)(l:Is.length≤5)(ok:∀I∈Is,IslOk k fs I):FroD 12 M (.ref p) (.tup (Is.map Isl.mv)):=by
 have hl:=h.1;have e1:(ys.zip (Is.map Isl.mv)).map (·.1)=ys:=List.map_fst_zip (by rw[Xa];lia)
 have e2:(ys.zip (Is.map Isl.mv)).map (·.2)=Is.map Isl.mv:=List.map_snd_zip (by rw[Xa];lia)
 refine .inr ⟨ys.zip (Is.map Isl.mv),.inr ⟨p,rfl,by rw[e1];exact hp⟩,by rw[e2],by rw[List.length_zip,Xa];lia,λq hq=>?_⟩
 obtain⟨i,hi,rfl⟩:=Yc hq;rw[List.length_zip,Xa]at hi;have hi1:i<ys.length:=by lia
 have hi2:i<Is.length:=by lia
 rw[List.getElem_zip,DP];exact Zno (ok _ (Y1 hi2)) (h.2 i _ _ (Xd hi2) (Xd hi1))
def fstM:MV->MV
 |.tup (x::_)=>x
 |v=>v
abbrev Br:SpM:=λvs M Q=>∃(p f:Addr) (ys:List MV) (W:Wld),vs=[.int W.w,.ref p,.ref f]/\M p=some (.lst ys)/\IslsIn M W.isl ys/\M f=some (.lst (W.fer.map Fer.mv))/\W.Good/\∀M',SameM M M'->Q W.mv M'
theorem QU:MonW Br:=by walk_at "m"
theorem Zn3(T:Txt K mg t):FnOk P w K mg base CX0 56 t.f_made t.d_made ["width","islands","ferries"] (liSp K Br):=by
 refine T.q_made.F.okM Zmp (Xn (P:=P) (w:=w) (K:=K) (mg:=mg) (base:=base) (k:=55) (G:=NV) (Φ:=[("frozen",(Zz 13)),("is_width",Bj),("refuse_ferry",Bo),("refuse_ferry_names",Bk),("refuse_islands",Bn),("refuse_wrong_ends",Bq)]) (Ψ:=[]) (Χ:=[("frozen",(Zz 13)),("is_width",Bj),("refuse_ferry",Bo),("refuse_ferry_names",Bk),("refuse_islands",Bn),("refuse_wrong_ends",Bq)]) rfl (Xo T) (Xp T) rfl (fMc ⟨(Di _),(fMc ⟨QJ,(fMc ⟨QP,(fMc ⟨QK,(fMc ⟨QO,(fMc ⟨QS,nl0⟩)⟩)⟩)⟩)⟩)⟩) (fMc ⟨⟨_,_,_,FnOk.mono (QG T 13) (by decide),T.q_frozen.m,T.q_frozen.F.kp,T.q_frozen.b⟩,(fMc ⟨⟨_,_,_,FnOk.mono (Zfu T) (by decide),T.q_is_width.m,T.q_is_width.F.kp,T.q_is_width.b⟩,(fMc ⟨⟨_,_,_,FnOk.mono (Zb1 T) (by decide),T.q_refuse_ferry.m,T.q_refuse_ferry.F.kp,T.q_refuse_ferry.b⟩,(fMc ⟨⟨_,_,_,FnOk.mono (Z5A T) (by decide),T.q_refuse_ferry_names.m,T.q_refuse_ferry_names.F.kp,T.q_refuse_ferry_names.b⟩,(fMc ⟨⟨_,_,_,FnOk.mono (Z8Y T) (by decide),T.q_refuse_islands.m,T.q_refuse_islands.F.kp,T.q_refuse_islands.b⟩,(fMc ⟨⟨_,_,_,FnOk.mono (Z6N T) (by decide),T.q_refuse_wrong_ends.m,T.q_refuse_wrong_ends.F.kp,T.q_refuse_wrong_ends.b⟩,nl0⟩)⟩)⟩)⟩)⟩)⟩) nl0 nl0 (Xq T)) FY ZnV (fun vs M Q h=>?_) (fun vs M Q h=>?_)
 ·obtain⟨p,f,ys,W,rfl,_⟩:=h;rfl
 obtain⟨p,f,ys,W,rfl,hp,hI,hf,G,q⟩:=h;have hΦ:=UM (Φ:=[("frozen",Zz 13),("is_width",Bj),("refuse_ferry",Bo),("refuse_ferry_names",Bk),("refuse_islands",Bn),("refuse_wrong_ends",Bq)]) (fMc ⟨Di 13,fMc ⟨QJ,fMc ⟨QP,fMc ⟨QK,fMc ⟨QO,fMc ⟨QS,fun _ h=>nomatch h⟩⟩⟩⟩⟩⟩);show wSs _ _ _ [some (.int W.w),some (.ref p),some (.ref f),none,none] M;have w1:=G.w1;have w2:=G.w2;have i5:=G.i5;have f6:=G.f6;have hl:=hI.1;have nd:=ZD.mp G.nd;delta FY NU;walk_at "s";refine⟨W.w,rfl,by lia,by lia,?_⟩
 walk_at "s";delta NT
 repeat (first|walk_at "s"|simp only[hp])
 refine Yb (λz=>by lia) (λ_=>?_)
 delta NS
 repeat (first|walk_at "s"|simp only[hf,Xa])
 refine Yb (λz=>by lia) (λ_=>?_)
 delta NR;walk_at "s";refine⟨f,W.fer,rfl,hf,f6,nd.1,λx hx=>G.fg _ (XY.mpr ⟨x,hx,rfl⟩),λM1 s1=>?_⟩;walk_at "s";have hf1:=s1 _ _ hf;delta NQ;walk_at "s";refine U7 W.fer Fer.mv (λx=>.str x.name) ?_ ?_ hΦ λD hD=>?_
 ·repeat (first|walk_at "s"|simp only[hf1])
  exact⟨rfl,by lia,hf1⟩
 ·intro x hx M' s;simp only[sCm,XD,Yf,Ys,Yt,Yk,Yd]
  repeat (first|walk_at "s"|simp only[Fer.mv])
  try exact⟨rfl,rfl⟩
 have eF:(W.fer.map λx=>MV.str x.name)=W.fns.map MV.str:=by unfold Wld.fns;rw[Yv];rfl
 rw[eF];have s2:=s1.trans (SameM.new hD (.lst (W.fns.map MV.str)));have hD2:updM M1 D (.lst (W.fns.map MV.str)) D=some (.lst (W.fns.map MV.str)):=X9;generalize updM M1 D _=M2 at*
 try walk_at "s"
 refine⟨W.w,p,D,W.isl,ys,W.fns,rfl,w2,s2 _ _ hp,hI.keep s2,i5,by unfold Wld.fns;rw[Xa];exact f6,hD2,G.nd,λI hi=>G.ig _ (XY.mpr ⟨I,hi,rfl⟩),G.io,λM3 s3=>?_⟩
 have s4:=s2.trans s3;have hp3:=s4 _ _ hp;have hf3:=s4 _ _ hf;have hI3:=hI.keep s4;walk_at "s";delta NP;walk_at "s";refine U7 ys (λy=>y) fstM ?_ ?_ hΦ λD hD=>?_
 ·repeat (first|walk_at "s"|simp only[hp3])
  exact⟨by simp[Src.items],by lia,hp3⟩
 ·intro y hy M' s;obtain⟨I,_,a,b,rfl,_⟩:=hI3.mem hy;simp only[sCm,XD,Yf,Ys,Yt,Yk,Yd];walk_at "s"
  rfl
 have eI:ys.map fstM=W.ins.map MV.str:=hI.fst λz r=>rfl;rw[eI];have s5:=s4.trans (SameM.new hD (.lst (W.ins.map MV.str)));have hD5:updM M3 D (.lst (W.ins.map MV.str)) D=some (.lst (W.ins.map MV.str)):=X9;generalize updM M3 D _=M5 at*;have hf5:=s5 _ _ hf;delta NO
 repeat (first|walk_at "s"|simp only[hf5])
 obtain⟨J,hJ⟩:∃J:Nat->Sm->MH->Prop,∀j σ M',J j σ M'↔M'=M5/\∃v,σ=[some (.int W.w),some (.ref p),some (.ref f),some (.ref D),v]:=⟨_,λ_ _ _=>Yn⟩;refine⟨J,(hJ _ _ _).mpr ⟨rfl,_,rfl⟩,λj σ M' h=>by rw[((hJ _ _ _).mp h).1];exact hf5,?_,?_⟩
 ·rintro j y σ M' hy h;obtain⟨rfl,v,rfl⟩:=(hJ _ _ _).mp h;obtain⟨hj,rfl⟩:=YU hy;have hj:j<W.fer.length:=hj;delta NN;walk_at "s";refine⟨W.fer[j],D,W.ins,rfl,hD5,G.fo _ (Y1 hj),?_⟩;walk_at "s";exact(hJ _ _ _).mpr ⟨rfl,_,rfl⟩
 ·rintro σ M' h;obtain⟨rfl,v,rfl⟩:=(hJ _ _ _).mp h;delta NM;walk_at "s";refine⟨p,f,ys,W.isl,W.fer,rfl,s5 _ _ hp,hI.keep s5,i5,hf5,f6,nd.1,λI hi=>⟨(G.io I hi).ns,λS hS=>⟨G.en I hi S hS,_,_,(G.io I hi).st S hS⟩⟩,λM6 s6=>?_⟩;have s7:=s5.trans s6;walk_at "s";delta NL;walk_at "s";refine⟨_,W.mv,rfl,?_,λM' s'=>q M' (s7.trans s')⟩;refine .inr ⟨[(.int W.w,.int W.w),(.ref p,.tup (W.isl.map Isl.mv)),(.ref f,.tup (W.fer.map Fer.mv))],.inl rfl,rfl,by simp,λz hz=>?_⟩
  simp only[Xr,XR,or_false]at hz;rcases hz with rfl|rfl|rfl
  ·exact fro_int.to (by decide)
  ·exact ZkM (s7 _ _ hp) (hI.keep s7) i5 G.io
  ·refine(GG (n:=1) (s7 _ _ hf) (by rw[Xa];lia) λx hx=>?_).to (by decide)
   obtain⟨y,_,rfl⟩:=XY.mp hx;exact ZnL y
theorem Zfw(m:Nat):∀n:Nat,(m^^^n)+2*(m&&& n)=m+n:=by
 induction m using Nat.strongRecOn with
 |ind m ih=>
  intro n;by_cases h0:m=0
  ·subst h0;simp
  ·have ih':=ih (m/2) (by omega) (n/2)
   rw[<- Nat.xor_div_two,<- Nat.and_div_two]at ih';have x1:=@Nat.xor_mod_two_eq_one m n;have a1:=@Nat.and_mod_two_eq_one m n
   omega
def seen(o n c:Nat):Nat:=o^^^((o^^^n)&&& c)
theorem Dm(m n:Nat):Cu (m:Int) (n:Int)=((m^^^n:Nat):Int):=by
 rw[PyProof.Rows.bitXor_and,Hj (WK m) (WK n),YQ,YQ];have:=Zfw m n
 omega
theorem Zl9(m n:Nat):Ct (m:Int) (n:Int)=((m&&& n:Nat):Int):=by
 rw[Hj (WK m) (WK n),YQ,YQ]
def gray(n:Nat):Nat:=n^^^(n/2)
def ugF:Nat->Nat->Nat->Nat
 |0,n,_=>n
 |k+1,n,a=>if a=0 then n else ugF k (n^^^a) (a/2)
theorem ZjW:∀k n,ugF k n 0=n
 |0,_=>rfl
 |k+1,n=>by simp[ugF]
def Wo(w:Nat):Nat:=ugF 64 w (w/2)
def Do(x:Nat):Bool:=x==1||x==2||x==4||x==8
def Zop(m:Nat):Bool:=(Xx (2^(m+1))).all λn=>decide (gray n<16)&&decide (Wo (gray n)=n)&&Do (gray n^^^gray ((n+1)%2^(m+1)))
theorem ZjX:(Xx 4).all Zop=true:=by decide+kernel
theorem QV{m n:Nat}(hm:m<4)(hn:n<2^(m+1)):gray n<16/\Wo (gray n)=n/\Do (gray n^^^gray ((n+1)%2^(m+1)))=true:=by
 have h1:=BS.mp ZjX m (Zg.mpr hm);have h2:=BS.mp h1 n (Zg.mpr hn);simp only[Y2,decide_eq_true_eq]at h2;exact⟨h2.1.1,h2.1.2,h2.2⟩
theorem Zo2{x c:Nat}(h:Do x=true):x&&& c=0\/x&&& c=x:=by
 have key:∀i:Nat,(2^i&&& c)=0\/(2^i&&& c)=2^i:=λi=>by
  cases h:c.testBit i with
  |false=>
   left
   refine Nat.eq_of_testBit_eq λj=>?_;rw[Nat.testBit_and,Nat.testBit_two_pow,Nat.zero_testBit];by_cases e:i=j
   ·subst e;rw[h,C2]
   ·rw[decide_eq_false e,WJ]
  |true=>
   right
   refine Nat.eq_of_testBit_eq λj=>?_;rw[Nat.testBit_and,Nat.testBit_two_pow];by_cases e:i=j
   ·subst e;rw[h,Bool.and_true]
   ·rw[decide_eq_false e,WJ]
 unfold Do at h;simp only[C1,beq_iff_eq]at h;rcases h with((rfl|rfl)|rfl)|rfl
 ·exact key 0
 ·exact key 1
 ·exact key 2
 ·exact key 3
theorem Zi6{m a b c:Nat}(hm:m<4)(h:a=b\/a=b+1):
  seen (gray (b%2^(m+1))) (gray (a%2^(m+1))) c=if c&&&(gray (a%2^(m+1))^^^gray (b%2^(m+1)))=0 then gray (b%2^(m+1))else gray (a%2^(m+1)):=by
 have pos:0<2^(m+1):=ZI _;have hb:=QV hm (VR b pos);have ea:a=b+1->(b%2^(m+1)+1)%2^(m+1)=a%2^(m+1):=λe=>by rw[e,Nat.mod_add_mod]
 unfold seen;rcases h with rfl|h
 ·rw[Nat.xor_self,Nat.and_zero,if_pos rfl,Nat.zero_and,Nat.xor_zero]
 ·have hx:=hb.2.2;rw[ea h]at hx;rw[Nat.and_comm c,Nat.xor_comm (gray (a%2^(m+1)))];rcases Zo2 (c:=c) hx with e|e
  ·rw[e,if_pos rfl,Nat.xor_zero]
  ·rw[e,<- Nat.xor_assoc,Nat.xor_self,Nat.zero_xor];split
   ·rename_i z
    rw[z]at hx;cases hx
   ·rfl
structure Ab where
 k:Nat
 ws:List Nat
 tn:Nat
 gp:Nat
 tp:Nat
 gm:Int
 tm:Int
 gx:List Nat
 tx:List Nat
 lg:Nat
 lt:Nat
def ZM(k n p:Nat)(fresh:Bool)(c:Nat):Nat:=if fresh=true/\c&&&(gray (n%2^(k+1))^^^gray (p%2^(k+1)))=0 then p else n
def XN(xs:List Nat):Nat:=xs.getLastD 0
def Ab.gSamp(A:Ab)(c:Nat):Nat:=ZM A.k A.tn A.tp (decide (A.gm<A.tm)) c
def Ab.tSamp(A:Ab)(c:Nat):Nat:=ZM A.k A.ws.length A.gp (decide (A.tm<A.gm)) c
def Ab.gives(A:Ab)(w:Option Nat):Bool:=w.isSome&&decide (A.ws.length<XN A.gx+2^A.k)
def Ab.takes(A:Ab)(w:Bool):Bool:=w&&decide (XN A.tx≠A.tn)
def Ab.giver(A:Ab)(m:Int)(c:Nat)(w:Option Nat):Ab:=
 {A with ws:=if A.gives w=true then A.ws++[w.getD 0]else A.ws,gp:=A.ws.length,gm:=m,gx:=A.gSamp c::A.gx.dropLast,lg:=A.tn}
def Ab.taker(A:Ab)(m:Int)(c:Nat)(w:Bool):Ab:=
 {A with tn:=if A.takes w=true then A.tn+1 else A.tn,tp:=A.tn,tm:=m,tx:=A.tSamp c::A.tx.dropLast,lt:=A.ws.length}
structure Ab.Ok (A:Ab):Prop where
 k4:A.k<4
 gl:1≤A.gx.length/\A.gx.length≤3
 tl:A.tx.length=A.gx.length
 g1:A.gp≤A.ws.length/\A.ws.length≤A.gp+1
 t1:A.tp≤A.tn/\A.tn≤A.tp+1
 gs:A.gx.Pairwise (·≥ ·)
 ts:A.tx.Pairwise (·≥ ·)
 gb:∀d∈A.gx,d≤A.lg/\A.ws.length≤d+2^A.k
 tb:∀c∈A.tx,c≤A.lt/\A.tn≤c
 lg1:A.lg≤A.tn
 lt1:A.lt≤A.ws.length
 lg2:A.gm<A.tm->A.lg≤A.tp
 lt2:A.tm<A.gm->A.lt≤A.gp
theorem Bs:∀{xs:List Nat},1≤xs.length->xs=xs.dropLast++[XN xs]
 |[],h=>by simp at h
 |[a],_=>rfl
 |a::b::s,_=>by
  have ih:=Bs (xs:=b::s) (by simp)
  have e:XN (a::b::s)=XN (b::s):=by simp[XN]
  rw[e];show a::b::s=a::((b::s).dropLast++[XN (b::s)]);rw[<- ih]
theorem ZA{xs:List Nat}(h:1≤xs.length):XN xs∈xs:=by
 have e:=Bs h;rw[e];have e2:XN (xs.dropLast++[XN xs])=XN xs:=by rw[<- e]
 rw[e2];simp
theorem ZjM{k n p:Nat}{f:Bool}{c:Nat}:ZM k n p f c=p\/ZM k n p f c=n:=by
 unfold ZM;split
 ·exact .inl rfl
 ·exact .inr rfl
theorem ZjL{k n p:Nat}{c:Nat}:ZM k n p false c=n:=by simp[ZM]
theorem QW{k n p l:Nat}{f:Bool}{c:Nat}(h1:p≤n)(h2:l≤n)(h3:f=true->l≤p):l≤ZM k n p f c/\ZM k n p f c≤n:=by
 cases f with
 |false=>rw[ZjL];exact⟨h2,Xi _⟩
 |true=>rcases @ZjM k n p true c with e|e<;>rw[e]
      ·exact⟨h3 rfl,h1⟩
      ·exact⟨h2,Xi _⟩
theorem Ab.Ok.gSamp{A:Ab}(h:A.Ok)(c:Nat):A.lg≤A.gSamp c/\A.gSamp c≤A.tn:=QW h.t1.1 h.lg1 (λf=>h.lg2 (of_decide_eq_true f))
theorem Ab.Ok.tSamp{A:Ab}(h:A.Ok)(c:Nat):A.lt≤A.tSamp c/\A.tSamp c≤A.ws.length:=QW h.g1.1 h.lt1 (λf=>h.lt2 (of_decide_eq_true f))
theorem Ab.Ok.room{A:Ab}(h:A.Ok):A.tn≤A.ws.length/\A.ws.length≤A.tn+2^A.k:=by
 have a:=h.gb _ (ZA h.gl.1);have b:=h.tb _ (ZA (by rw[h.tl];exact h.gl.1))
 have:=h.lg1;have:=h.lt1
 omega
theorem Ab.Ok.giver{A:Ab}(h:A.Ok){m:Int}{c:Nat}{w:Option Nat}(hm:A.tm<m):(A.giver m c w).Ok:=by
 have hs:=h.gSamp c;have hl:=h.gb _ (ZA h.gl.1);have rm:=h.room;have gn:∃n,(A.giver m c w).ws.length=n/\A.ws.length≤n/\n≤A.ws.length+1/\n≤XN A.gx+2^A.k:=by
  unfold Ab.giver;dsimp only;split
  ·rename_i e
   unfold Ab.gives at e;simp only[Y2,decide_eq_true_eq]at e;exact⟨_,rfl,by simp,by simp,by simp;omega⟩
  ·exact⟨_,rfl,by omega,by omega,by omega⟩
 obtain⟨n,en,n1,n2,n3⟩:=gn;refine⟨h.k4,?_,?_,?_,h.t1,?_,h.ts,?_,?_,Xi _,?_,λz=>?_,λz=>?_⟩
 ·show 1≤(A.gSamp c::A.gx.dropLast).length/\(A.gSamp c::A.gx.dropLast).length≤3;have:=h.gl;simp only[Yu,Wy];omega
 ·show A.tx.length=(A.gSamp c::A.gx.dropLast).length;have:=h.gl;have:=h.tl;simp[Wy];omega
 ·rw[en];exact⟨n1,n2⟩
 ·show(A.gSamp c::A.gx.dropLast).Pairwise (·≥ ·);rw[DK];refine⟨λd hd=>?_,HQ (List.dropLast_sublist _) h.gs⟩;have:=(h.gb d (BP _ hd)).1;show d≤A.gSamp c
  omega
 ·intro d hd;rw[en];show d≤A.tn/\n≤d+2^A.k;rcases Xr.mp hd with rfl|hd
  ·have:=hl.1;exact⟨hs.2,by omega⟩
  ·have hm:=BP _ hd;refine⟨Y8 (h.gb d hm).1 h.lg1,?_⟩;have:XN A.gx≤d:=by
    have e:=Bs h.gl.1;have p:=h.gs;rw[e]at p;exact(List.pairwise_append.mp p).2.2 d hd _ (Ya.mpr rfl)
   omega
 ·exact h.tb
 ·rw[en];exact Y8 h.lt1 n1
 ·exact absurd z (by show¬m<A.tm;omega)
 ·exact h.lt1
theorem Ab.Ok.taker{A:Ab}(h:A.Ok){m:Int}{c:Nat}{w:Bool}(hm:A.gm<m):(A.taker m c w).Ok:=by
 have hs:=h.tSamp c;have tl1:1≤A.tx.length:=by rw[h.tl];exact h.gl.1
 have hl:=h.tb _ (ZA tl1);have rm:=h.room;have gn:∃n,(A.taker m c w).tn=n/\A.tn≤n/\n≤A.tn+1/\n≤XN A.tx:=by
  unfold Ab.taker;dsimp only;split
  ·rename_i e
   unfold Ab.takes at e;simp only[Y2,decide_eq_true_eq]at e;exact⟨_,rfl,by simp,by simp,by omega⟩
  ·exact⟨_,rfl,by omega,by omega,by omega⟩
 obtain⟨n,en,n1,n2,n3⟩:=gn;refine⟨h.k4,h.gl,?_,h.g1,?_,h.gs,?_,?_,?_,?_,Xi _,λz=>?_,λz=>?_⟩
 ·show(A.tSamp c::A.tx.dropLast).length=A.gx.length;have:=h.tl;simp[Wy];omega
 ·rw[en];exact⟨n1,n2⟩
 ·show(A.tSamp c::A.tx.dropLast).Pairwise (·≥ ·);rw[DK];refine⟨λd hd=>?_,HQ (List.dropLast_sublist _) h.ts⟩;have:=(h.tb d (BP _ hd)).1;show d≤A.tSamp c
  omega
 ·exact h.gb
 ·intro d hd;rw[en];show d≤A.ws.length/\n≤d;rcases Xr.mp hd with rfl|hd
  ·exact⟨hs.2,by have:=hl.1;omega⟩
  ·have hm:=BP _ hd;refine⟨Y8 (h.tb d hm).1 h.lt1,?_⟩;have:XN A.tx≤d:=by
    have e:=Bs tl1;have p:=h.ts;rw[e]at p;exact(List.pairwise_append.mp p).2.2 d hd _ (Ya.mpr rfl)
   omega
 ·rw[en];exact Y8 h.lg1 n1
 ·exact h.lg1
 ·exact absurd z (by show¬m<A.gm;omega)
def ab0(k st:Nat):Ab:=⟨k,[],0,0,0,-1,-1,Xj st 0,Xj st 0,0,0⟩
theorem QX(n:Nat):(Xj n 0).Pairwise (·≥ ·):=by
 induction n with
 |zero=>exact .nil
 |succ n ih=>rw[Zf,DK];exact⟨λd hd=>by rw[UY hd];exact Xi _,ih⟩
theorem Zqg{k st:Nat}(hk:k<4)(h1:1≤st)(h3:st≤3):(ab0 k st).Ok:=by
 refine⟨hk,by simpa [ab0]using⟨h1,h3⟩,by simp[ab0],by simp[ab0],by simp[ab0],QX _,QX _,?_,?_,Xi _,Xi _,λz=>Xi _,λz=>Xi _⟩
 ·intro d hd;rw[UY hd];exact⟨Xi _,YO _⟩
 ·intro d hd;rw[UY hd];exact⟨Xi _,Xi _⟩
def PlOk(A:Ab)(pl:List (Nat×Nat×Int)):Prop:=pl.length=2^A.k/\∀j (hj:j<A.ws.length),A.ws.length≤j+2^A.k->∃ah,pl[j%2^A.k]?=some (A.ws[j],ah,A.gm)/\(j<A.gp->ah=A.ws[j])
def YV(A:Ab)(m:Int)(w:Option Nat)(pl:List (Nat×Nat×Int)):List (Nat×Nat×Int):=
 (Xx pl.length).map λi=>((if A.gives w=true/\i=A.ws.length%2^A.k then w.getD 0 else(pl.getD i (0,0,0)).1),(pl.getD i (0,0,0)).1,m)
theorem ZpF{a b n:Nat}(h1:a<b)(h2:b<a+n):a%n≠b%n:=by
 intro e;have h3:(b - a)%n=0:=Nat.sub_mod_eq_zero_of_mod_eq e.symm;rw[Nat.mod_eq_of_lt (by omega)]at h3
 omega
theorem Zh8{A:Ab}{m:Int}{c:Nat}{w:Option Nat}{pl:List (Nat×Nat×Int)}(h:PlOk A pl):PlOk (A.giver m c w) (YV A m w pl):=by
 have kpos:0<2^A.k:=ZI _;refine⟨?_,?_⟩
 ·show(YV A m w pl).length=2^A.k;simp[YV,h.1]
 ·intro j hj hr;have hr:(A.giver m c w).ws.length≤j+2^A.k:=hr;show∃ah,(YV A m w pl)[j%2^A.k]?=some ((A.giver m c w).ws[j],ah,m)/\(j<A.ws.length->ah=(A.giver m c w).ws[j]);have lt:j%2^A.k<pl.length:=by rw[h.1];exact VR _ kpos
  have get:(YV A m w pl)[j%2^A.k]?=some ((if A.gives w=true/\j%2^A.k=A.ws.length%2^A.k then w.getD 0 else(pl.getD (j%2^A.k) (0,0,0)).1),(pl.getD (j%2^A.k) (0,0,0)).1,m):=by
   unfold YV;rw[Xw,Wz lt]
   rfl
  rw[get];by_cases g:A.gives w=true
  ·have ew:(A.giver m c w).ws=A.ws++[w.getD 0]:=by unfold Ab.giver;rw[if_pos g]
   have hj2:j<A.ws.length+1:=by rw[ew]at hj;simpa using hj
   have hr2:A.ws.length+1≤j+2^A.k:=by rw[ew]at hr;simpa using hr
   by_cases e:j=A.ws.length
   ·subst e;refine⟨(pl.getD (A.ws.length%2^A.k) (0,0,0)).1,?_,λz=>absurd z (V4 _)⟩;rw[if_pos ⟨g,rfl⟩];simp[ew]
   ·have hj3:j<A.ws.length:=by omega
    obtain⟨ah,ha,_⟩:=h.2 j hj3 (by omega)
    have ne:=ZpF (n:=2^A.k) hj3 (by omega)
    have eg:pl.getD (j%2^A.k) (0,0,0)=(A.ws[j],ah,A.gm):=by rw[Yr,ha];rfl
    have ewj:(A.giver m c w).ws[j]=A.ws[j]:=by simp[ew,hj3]
    refine⟨A.ws[j],?_,λ_=>ewj.symm⟩;rw[if_neg (λz=>ne z.2),eg,ewj]
  ·have ew:(A.giver m c w).ws=A.ws:=by unfold Ab.giver;rw[if_neg g]
   have hj3:j<A.ws.length:=by rw[ew]at hj;exact hj
   obtain⟨ah,ha,_⟩:=h.2 j hj3 (by rw[ew]at hr;exact hr)
   have eg:pl.getD (j%2^A.k) (0,0,0)=(A.ws[j],ah,A.gm):=by rw[Yr,ha];rfl
   have ewj:(A.giver m c w).ws[j]=A.ws[j]:=by simp[ew]
   refine⟨A.ws[j],?_,λ_=>ewj.symm⟩;rw[if_neg (λz=>g z.1),eg,ewj]
theorem ZhQ{A:Ab}(h:A.Ok){pl:List (Nat×Nat×Int)}(hp:PlOk A pl)(ht:XN A.tx≠A.tn):∃(hj:A.tn<A.ws.length) (ah:Nat),pl[A.tn%2^A.k]?=some (A.ws[A.tn],ah,A.gm)/\(A.tm<A.gm->ah=A.ws[A.tn]):=by
 have tl1:1≤A.tx.length:=by rw[h.tl];exact h.gl.1
 have hl:=h.tb _ (ZA tl1);have rm:=h.room;have l1:=h.lt1;have hj:A.tn<A.ws.length:=by omega
 obtain⟨ah,ha,hb⟩:=hp.2 A.tn hj rm.2;exact⟨hj,ah,ha,λz=>hb (by have:=h.lt2 z;omega)⟩
theorem Zi5(a c:Nat):seen a a c=a:=by simp[seen]
theorem Zkg{A:Ab}(h:A.Ok):(((A.ws.length:Int) - ((XN A.gx%2^(A.k+1):Nat):Int))%((2^(A.k+1):Nat):Int)<((2^A.k:Nat):Int))↔A.ws.length<XN A.gx+2^A.k:=by
 have a:=h.gb _ (ZA h.gl.1);have rm:=h.room;have l1:=h.lg1;have e:((A.ws.length:Int) - ((XN A.gx%2^(A.k+1):Nat):Int))%((2^(A.k+1):Nat):Int)=((A.ws.length - XN A.gx:Nat):Int):=by
  rw[E3,Cb,Int.emod_emod,<- Cb];have:(A.ws.length:Int) - (XN A.gx:Int)=((A.ws.length - XN A.gx:Nat):Int):=by omega
  rw[this,<- E3,Nat.mod_eq_of_lt (by rw[Nat.pow_succ];have:=ZI A.k;omega)]
 rw[e]
 omega
theorem QY{A:Ab}(h:A.Ok):(((A.tn:Int) - ((XN A.tx%2^(A.k+1):Nat):Int))%((2^(A.k+1):Nat):Int)=0)↔XN A.tx=A.tn:=by
 have tl1:1≤A.tx.length:=by rw[h.tl];exact h.gl.1
 have a:=h.tb _ (ZA tl1);have rm:=h.room;have l1:=h.lt1;have p:=ZI A.k;rw[E3,Cb,Int.emod_emod,<- Cb];constructor
 ·intro z;have d:=Int.dvd_of_emod_eq_zero z;have d':((2^(A.k+1):Nat):Int)∣((XN A.tx - A.tn:Nat):Int):=by
   have:((XN A.tx - A.tn:Nat):Int)= -((A.tn:Int) - (XN A.tx:Int)):=by omega
   rw[this];exact Int.dvd_neg.mpr d
  have d2:=Int.natCast_dvd_natCast.mp d';have:=Nat.eq_zero_of_dvd_of_lt d2 (by rw[Nat.pow_succ];omega)
  omega
 ·intro z;rw[z,Int.sub_self];rfl
abbrev Dq:SpM:=λvs M Q=>∃(o n c:Nat),vs=[.int o,.int n,.int c]/\Q (.int (seen o n c:Nat)) M
theorem ZfB:MonW Dq:=by walk_at "m"
theorem Zn5(T:Txt K mg t):FnOk P w K mg base CX0 1 t.f_amid t.d_amid ["old","new","choice"] (liSp K Dq):=by
 refine T.q_amid.F.okM Zmr (Xn (P:=P) (w:=w) (K:=K) (mg:=mg) (base:=base) (k:=0) (G:=KF) (Φ:=[]) (Ψ:=[]) (Χ:=[]) rfl (Xo T) (Xp T) rfl nl0 nl0 nl0 nl0 (Xq T)) F0 ZnX (λvs M Q h=>?_) (λvs M Q h=>?_)
 ·obtain⟨o,n,c,rfl,_⟩:=h;rfl
 obtain⟨o,n,c,rfl,q⟩:=h;show wSs _ _ _ [some (.int o),some (.int n),some (.int c)] M;delta F0 KE;walk_at "s";rw[Dm,Zl9,Dm];exact q
abbrev Wp:SpM:=λvs M Q=>∃w:Int,vs=[.int w]/\Q (.tup [.int w,.int w,.int (-1)]) M
theorem QZ:MonW Wp:=by walk_at "m"
theorem R0(T:Txt K mg t):FnOk P w K mg base CX0 1 t.f_first_sign t.d_first_sign ["word"] (liSp K Wp):=by
 refine T.q_first_sign.F.okM Zdc (Xn (P:=P) (w:=w) (K:=K) (mg:=mg) (base:=base) (k:=0) (G:=KQ) (Φ:=[]) (Ψ:=[]) (Χ:=[]) rfl (Xo T) (Xp T) rfl nl0 nl0 nl0 nl0 (Xq T)) F3 ZdK (λvs M Q h=>?_) (λvs M Q h=>?_)
 ·obtain⟨n,rfl,_⟩:=h;rfl
 obtain⟨n,rfl,q⟩:=h;show wSs _ _ _ [some (.int n)] M;delta F3 KP;walk_at "s";exact q
abbrev UR:SpM:=λvs M Q=>∃a b c w m:Int,vs=[.tup [.int a,.int b,.int c],.int w,.int m]/\Q (.tup [.int w,.int a,.int m]) M
theorem GH:MonW UR:=by walk_at "m"
theorem R4(T:Txt K mg t):FnOk P w K mg base CX0 1 t.f_shown t.d_shown ["sign","word","moment"] (liSp K UR):=by
 refine T.q_shown.F.okM Zkc (Xn (P:=P) (w:=w) (K:=K) (mg:=mg) (base:=base) (k:=0) (G:=KS) (Φ:=[]) (Ψ:=[]) (Χ:=[]) rfl (Xo T) (Xp T) rfl nl0 nl0 nl0 nl0 (Xq T)) F4 Zl5 (λvs M Q h=>?_) (λvs M Q h=>?_)
 ·obtain⟨a,b,c,w,m,rfl,_⟩:=h;rfl
 obtain⟨a,b,c,w,m,rfl,q⟩:=h;show wSs _ _ _ [some (.tup [.int a,.int b,.int c]),some (.int w),some (.int m)] M;delta F4 KR;walk_at "s";exact q
abbrev Vl:SpM:=λvs M Q=>∃(a b:Nat) (m s:Int) (c:Nat),vs=[.tup [.int a,.int b,.int m],.int s,.int c]/\Q (.int ((if s<m then seen b a c else a:Nat):Int)) M
theorem R5:MonW Vl:=by walk_at "m"
theorem R6(T:Txt K mg t):FnOk P w K mg base CX0 2 t.f_sampled t.d_sampled ["sign","since","choice"] (liSp K Vl):=by
 refine T.q_sampled.F.okM Zh2 (Xn (P:=P) (w:=w) (K:=K) (mg:=mg) (base:=base) (k:=1) (G:=L1) (Φ:=[("amid",Dq)]) (Ψ:=[]) (Χ:=[("amid",Dq)]) rfl (Xo T) (Xp T) rfl (fMc ⟨ZfB,nl0⟩) (fMc ⟨⟨_,_,_,(FnOk.mono (Zn5 T) (by decide)),T.q_amid.m,T.q_amid.F.kp,T.q_amid.b⟩,nl0⟩) nl0 nl0 (Xq T)) F6 Zhz (fun vs M Q h=>?_) (fun vs M Q h=>?_)
 ·obtain⟨a,b,m,s,c,rfl,_⟩:=h;rfl
 obtain⟨a,b,m,s,c,rfl,q⟩:=h;show wSs _ _ _ [some (.tup [.int a,.int b,.int m]),some (.int s),some (.int c)] M;delta F6 L0;walk_at "s";refine Yb (λh=>?_) (λh=>?_)
 ·rw[if_pos h]at q;delta KZ;walk_at "s";exact⟨b,a,c,rfl,q⟩
 ·rw[if_neg h]at q;delta KY;walk_at "s";exact q
abbrev Dr:SpM:=λvs M Q=>∃(w:Int) (k:Nat),vs=[.int w,.int k]/\1≤k/\k≤3/\Q (.tup ((Xj k w).map MV.int)) M
theorem Z8k:MonW Dr:=by walk_at "m"
theorem GJ{α:Type}(x:α):∀k:Nat,(Xj k [x]).flatten=Xj k x
 |0=>rfl
 |k+1=>by rw[Zf,ZU,GJ x k];rfl
theorem Zc5(T:Txt K mg t):FnOk P w K mg base CX0 1 t.f_first_sight t.d_first_sight ["word","stages"] (liSp K Dr):=by
 refine T.q_first_sight.F.okM ZbZ (Xn (P:=P) (w:=w) (K:=K) (mg:=mg) (base:=base) (k:=0) (G:=KW) (Φ:=[]) (Ψ:=[]) (Χ:=[]) rfl (Xo T) (Xp T) rfl nl0 nl0 nl0 nl0 (Xq T)) F5 Zcl (λvs M Q h=>?_) (λvs M Q h=>?_)
 ·obtain⟨w,k,rfl,_⟩:=h;rfl
 obtain⟨w,k,rfl,h1,h2,q⟩:=h;show wSs _ _ _ [some (.int w),some (.int k)] M;delta F5 KU;walk_at "s";refine⟨by omega,by omega,?_⟩
 rw[YQ,GJ];rw[WB]at q;exact q
abbrev Ds:SpM:=λvs M Q=>∃(xs:List Int) (a:Int),vs=[.tup ((xs++[a]).map MV.int)]/\Q (.int a) M
theorem Zfz:MonW Ds:=by walk_at "m"
theorem Zo4(xs:List Int)(a:Int):atI ((xs++[a]).map MV.int) (-1)=some (.int a):=by
 unfold atI ixN;rw[if_neg (by decide),if_pos (by simp;omega)]
 have e:((-1:Int)+(((xs++[a]).map MV.int).length:Int)).toNat=xs.length:=by simp;omega
 rw[e];simp
theorem Zn2(T:Txt K mg t):FnOk P w K mg base CX0 1 t.f_used t.d_used ["sight"] (liSp K Ds):=by
 refine T.q_used.F.okM Zmo (Xn (P:=P) (w:=w) (K:=K) (mg:=mg) (base:=base) (k:=0) (G:=L6) (Φ:=[]) (Ψ:=[]) (Χ:=[]) rfl (Xo T) (Xp T) rfl nl0 nl0 nl0 nl0 (Xq T)) F8 ZnU (λvs M Q h=>?_) (λvs M Q h=>?_)
 ·obtain⟨xs,a,rfl,_⟩:=h;rfl
 obtain⟨xs,a,rfl,q⟩:=h;show wSs _ _ _ [some (.tup ((xs++[a]).map MV.int))] M;delta F8 L5;walk_at "s";exact⟨_,Zo4 xs a,q⟩
abbrev Du:SpM:=λvs M Q=>∃(xs:List Int) (a w:Int),vs=[.tup ((xs++[a]).map MV.int),.int w]/\xs.length≤100/\Q (.tup ((w::xs).map MV.int)) M
theorem Zev:MonW Du:=by walk_at "m"
theorem ZkB(T:Txt K mg t):FnOk P w K mg base CX0 1 t.f_moved t.d_moved ["sight","word"] (liSp K Du):=by
 refine T.q_moved.F.okM Zkd (Xn (P:=P) (w:=w) (K:=K) (mg:=mg) (base:=base) (k:=0) (G:=L4) (Φ:=[]) (Ψ:=[]) (Χ:=[]) rfl (Xo T) (Xp T) rfl nl0 nl0 nl0 nl0 (Xq T)) F7 Zl6 (λvs M Q h=>?_) (λvs M Q h=>?_)
 ·obtain⟨xs,a,w,rfl,_⟩:=h;rfl
 obtain⟨xs,a,w,rfl,hx,q⟩:=h;show wSs _ _ _ [some (.tup ((xs++[a]).map MV.int)),some (.int w)] M;delta F7 L3;walk_at "s";have len:([MV.int w]++(xs++[a]).map MV.int).length=xs.length+2:=by simp
 have e1:HT.sIx (xs.length+2) (xs.length+2) (some (-1))=xs.length+1:=by
  unfold HT.sIx;dsimp only;rw[if_pos (by decide)]
  omega
 have cut:cutM ([MV.int w]++(xs++[a]).map MV.int) none (some (-1))=(w::xs).map MV.int:=by
  unfold cutM;rw[len,e1,HT.sIx_none,Nat.sub_zero,DT,Y7,<- VE];rw[GZ (by simp),VC (by simp)]
  rfl
 refine⟨by simp;omega,?_⟩
 rw[cut];exact q
abbrev Wq:SpM:=λvs M Q=>∃n:Nat,vs=[.int n]/\Q (.int (gray n:Nat)) M
theorem R7:MonW Wq:=by walk_at "m"
theorem R8(T:Txt K mg t):FnOk P w K mg base CX0 1 t.f_code_of t.d_code_of ["n"] (liSp K Wq):=by
 refine T.q_code_of.F.okM Zh4 (Xn (P:=P) (w:=w) (K:=K) (mg:=mg) (base:=base) (k:=0) (G:=KH) (Φ:=[]) (Ψ:=[]) (Χ:=[]) rfl (Xo T) (Xp T) rfl nl0 nl0 nl0 nl0 (Xq T)) F1 ZhB (λvs M Q h=>?_) (λvs M Q h=>?_)
 ·obtain⟨n,rfl,_⟩:=h;rfl
 obtain⟨n,rfl,q⟩:=h;show wSs _ _ _ [some (.int n)] M;delta F1 KG;walk_at "s";have e:(n:Int)/2=((n/2:Nat):Int):=by omega
 rw[e,Dm];exact q
abbrev Dv:SpM:=λvs M Q=>∃wd:Nat,vs=[.int wd]/\wd<2^60/\Q (.int (Wo wd:Nat)) M
theorem Zap:MonW Dv:=by walk_at "m"
theorem Zek(T:Txt K mg t):FnOk P w K mg base CX0 1 t.f_number_of t.d_number_of ["word"] (liSp K Dv):=by
 refine T.q_number_of.F.okM ZdZ (Xn (P:=P) (w:=w) (K:=K) (mg:=mg) (base:=base) (k:=0) (G:=KO) (Φ:=[]) (Ψ:=[]) (Χ:=[]) rfl (Xo T) (Xp T) rfl nl0 nl0 nl0 nl0 (Xq T)) F2 ZeS (λvs M Q h=>?_) (λvs M Q h=>?_)
 ·obtain⟨n,rfl,_⟩:=h;rfl
 obtain⟨wd,rfl,hw,q⟩:=h;show wSs _ _ _ [some (.int wd),none,none] M;have half:∀a:Nat,(a:Int)/2=((a/2:Nat):Int):=λa=>by omega
 delta F2 KN;walk_at "s";delta KM;walk_at "s";rw[half];delta KL;walk_at "s";refine⟨λm σ M'=>M'=M/\∃n a k:Nat,a=m/\a<2^k/\ugF k n a=Wo wd/\σ=[some (.int wd),some (.int n),some (.int a)],⟨wd/2,rfl,wd,wd/2,64,rfl,by omega,rfl,rfl⟩,?_⟩
 rintro m σ M' ⟨rfl,n,a,k,rfl,ha,hu,rfl⟩;walk_at "s";refine Yb (λc=>?_) (λc=>?_)
 ·delta KK;walk_at "s";rw[Dm];delta KJ;walk_at "s";rw[half];obtain⟨k',rfl⟩:∃k',k=k'+1:=⟨k - 1,by
   cases k with
   |zero=>simp at ha;omega
   |succ k=>rfl⟩
  refine⟨a/2,by omega,?_⟩
  refine⟨_,k',by rw[Nat.pow_succ]at ha;omega,?_,rfl⟩
  rw[ugF,if_neg (by omega)]at hu
  exact hu
 ·have a0:a=0:=by omega
  subst a0;rw[ZjW]at hu;rw[hu];delta KI;walk_at "s";exact q
abbrev natM:Nat->MV:=λn=>.int n
abbrev sgnM(s:Nat×Nat×Int):MV:=.tup [.int s.1,.int s.2.1,.int s.2.2]
def Xm(tu n:Nat)(s:Nat×Nat×Int)(xs:List Nat):MO:=.ins "Side" [("turn",.int tu),("total",.int n),("sign",sgnM s),("sight",.tup (xs.map natM))]
theorem GK(xs:List Nat):xs.map natM=(xs.map λn:Nat=>(n:Int)).map MV.int:=by rw[Yv];rfl
theorem GM(a b:Nat):(a:Int)%(b:Int)=((a%b:Nat):Int):=by omega
theorem R9{k n p:Nat}(hk:k<4)(h:p≤n/\n≤p+1)(s m:Int)(c:Nat):(if s<m then seen (gray (p%2^(k+1))) (gray (n%2^(k+1))) c else gray (n%2^(k+1)))=gray (ZM k n p (decide (s<m)) c%2^(k+1)):=by
 unfold ZM;by_cases e:s<m
 ·rw[if_pos e,Zi6 hk (a:=n) (b:=p) (by omega)]
  by_cases f:c&&&(gray (n%2^(k+1))^^^gray (p%2^(k+1)))=0
  ·rw[if_pos f,if_pos ⟨decide_eq_true e,f⟩]
  ·rw[if_neg f,if_neg (λz=>f z.2)]
 ·rw[if_neg e,if_neg (λz=>e (of_decide_eq_true z.1))]
abbrev Dw:SpM:=fun vs M Q=>∃(a:Addr) (tu st:Nat),vs=[.ref a,.int tu,.int st]/\M a=some (.ins "Side" [])/\1≤st/\st≤3/\Q .non (updM M a (Xm tu 0 (0,0,-1) (Xj st 0)))
theorem Z6P:MonW Dw:=by walk_at "m"
theorem Zan(T:Txt K mg t):FnOk P w K mg base CX0 2 t.f_Side___init__ t.d_Side___init__ ["self","turn","stages"] (liSp K Dw):=by
 refine T.F_Side___init__.okM Zal (Xn (P:=P) (w:=w) (K:=K) (mg:=mg) (base:=base) (k:=1) (G:=Lb) (Φ:=[("code_of",Wq),("first_sight",Dr),("first_sign",Wp)]) (Ψ:=[]) (Χ:=[("code_of",Wq),("first_sight",Dr),("first_sign",Wp)]) rfl (Xo T) (Xp T) rfl (fMc ⟨R7,(fMc ⟨Z8k,(fMc ⟨QZ,nl0⟩)⟩)⟩) (fMc ⟨⟨_,_,_,(FnOk.mono (R8 T) (by decide)),T.q_code_of.m,T.q_code_of.F.kp,T.q_code_of.b⟩,(fMc ⟨⟨_,_,_,(FnOk.mono (Zc5 T) (by decide)),T.q_first_sight.m,T.q_first_sight.F.kp,T.q_first_sight.b⟩,(fMc ⟨⟨_,_,_,(FnOk.mono (R0 T) (by decide)),T.q_first_sign.m,T.q_first_sign.F.kp,T.q_first_sign.b⟩,nl0⟩)⟩)⟩) nl0 nl0 (Xq T)) F9 Zaw (fun vs M Q h=>?_) (fun vs M Q h=>?_)
 ·obtain⟨a,tu,st,rfl,_⟩:=h;rfl
 obtain⟨a,tu,st,rfl,hM,h1,h3,q⟩:=h;show wSs _ _ _ [some (.ref a),some (.int tu),some (.int st)] M;have g0:gray 0=0:=by decide
 delta F9 La
 repeat (first|walk_at "s"|simp only[hM,putM])
 delta L9
 repeat (first|walk_at "s"|simp only[putM,YJ])
 delta L8
 repeat (first|walk_at "s"|simp only[putM,YJ])
 refine⟨0,rfl,?_⟩
 repeat (first|walk_at "s"|simp only[putM,YJ])
 refine⟨_,rfl,?_⟩
 repeat (first|walk_at "s"|simp only[putM,YJ])
 delta L7
 repeat (first|walk_at "s"|simp only[putM,YJ])
 refine⟨0,rfl,?_⟩
 repeat (first|walk_at "s"|simp only[putM,YJ])
 refine⟨_,st,rfl,h1,h3,?_⟩
 repeat (first|walk_at "s"|simp only[putM,YJ])
 rw[g0];have e:List.map MV.int (Xj st (((0:Nat):Int)))=(Xj st 0).map natM:=by rw[WB,WB]
 rw[e];exact q
abbrev Vm:SpM:=λvs M Q=>∃(a:Addr) (tu n:Nat) (s:Nat×Nat×Int) (xs:List Nat),vs=[.ref a]/\M a=some (Xm tu n s xs)/\Q (.int s.2.2) M
theorem Ra:MonW Vm:=by walk_at "m"
theorem Rb(T:Txt K mg t):FnOk P w K mg base CX0 1 t.f_Side_ring_ahead t.d_Side_ring_ahead ["self"] (liSp K Vm):=by
 refine T.F_Side_ring_ahead.okM Z87 (Xn (P:=P) (w:=w) (K:=K) (mg:=mg) (base:=base) (k:=0) (G:=Ld) (Φ:=[]) (Ψ:=[]) (Χ:=[]) rfl (Xo T) (Xp T) rfl nl0 nl0 nl0 nl0 (Xq T)) Fa Z8M (λvs M Q h=>?_) (λvs M Q h=>?_)
 ·obtain⟨a,tu,n,s,xs,rfl,_⟩:=h;rfl
 obtain⟨a,tu,n,s,xs,rfl,hM,q⟩:=h;show wSs _ _ _ [some (.ref a)] M;delta Fa Lc
 repeat (first|walk_at "s"|simp only[hM,Xm,valM])
 exact q
abbrev Uu:SpM:=λvs M Q=>∃(a:Addr) (tu n:Nat) (s:Nat×Nat×Int) (xs:List Nat) (u:Nat),vs=[.ref a]/\M a=some (Xm tu n s (xs++[u]))/\u<2^60/\0<tu/\Q (.int (((n:Int) - (Wo u:Nat))%(tu:Int))) M
theorem GN:MonW Uu:=by walk_at "m"
theorem Rc(T:Txt K mg t):FnOk P w K mg base CX0 2 t.f_Side_less_the_seen t.d_Side_less_the_seen ["self"] (liSp K Uu):=by
 refine T.F_Side_less_the_seen.okM Z5t (Xn (P:=P) (w:=w) (K:=K) (mg:=mg) (base:=base) (k:=1) (G:=Lg) (Φ:=[("number_of",Dv),("used",Ds)]) (Ψ:=[]) (Χ:=[("number_of",Dv),("used",Ds)]) rfl (Xo T) (Xp T) rfl (fMc ⟨Zap,(fMc ⟨Zfz,nl0⟩)⟩) (fMc ⟨⟨_,_,_,(FnOk.mono (Zek T) (by decide)),T.q_number_of.m,T.q_number_of.F.kp,T.q_number_of.b⟩,(fMc ⟨⟨_,_,_,(FnOk.mono (Zn2 T) (by decide)),T.q_used.m,T.q_used.F.kp,T.q_used.b⟩,nl0⟩)⟩) nl0 nl0 (Xq T)) Fb Z6w (fun vs M Q h=>?_) (fun vs M Q h=>?_)
 ·obtain⟨a,tu,n,s,xs,u,rfl,_⟩:=h;rfl
 obtain⟨a,tu,n,s,xs,u,rfl,hM,h1,h2,q⟩:=h;show wSs _ _ _ [some (.ref a)] M;delta Fb Lf
 repeat (first|walk_at "s"|simp only[hM,Xm,valM])
 refine⟨xs.map (λn:Nat=>(n:Int)),(u:Int),by rw[GK,Y7];rfl,?_⟩
 repeat (first|walk_at "s"|simp only[hM,Xm,valM])
 refine⟨u,rfl,h1,?_⟩
 repeat (first|walk_at "s"|simp only[hM,Xm,valM])
 exact⟨by omega,q⟩
abbrev Uv:SpM:=λvs M Q=>∃(a:Addr) (tu n:Nat) (s:Nat×Nat×Int) (xs:List Nat),vs=[.ref a]/\M a=some (Xm tu n s xs)/\Q .non (updM M a (Xm tu (n+1) s xs))
theorem GO:MonW Uv:=by walk_at "m"
theorem Re(T:Txt K mg t):FnOk P w K mg base CX0 1 t.f_Side_grow t.d_Side_grow ["self"] (liSp K Uv):=by
 refine T.F_Side_grow.okM Ze6 (Xn (P:=P) (w:=w) (K:=K) (mg:=mg) (base:=base) (k:=0) (G:=Li) (Φ:=[]) (Ψ:=[]) (Χ:=[]) rfl (Xo T) (Xp T) rfl nl0 nl0 nl0 nl0 (Xq T)) Fc ZeZ (λvs M Q h=>?_) (λvs M Q h=>?_)
 ·obtain⟨a,tu,n,s,xs,rfl,_⟩:=h;rfl
 obtain⟨a,tu,n,s,xs,rfl,hM,q⟩:=h;show wSs _ _ _ [some (.ref a)] M;delta Fc Lh
 repeat (first|walk_at "s"|simp only[hM,Xm,valM,putM])
 exact q
abbrev Uw:SpM:=λvs M Q=>∃(a:Addr) (tu n:Nat) (s:Nat×Nat×Int) (xs:List Nat) (u:Nat) (m:Int) (c:Nat) (o:Nat×Nat×Int),vs=[.ref a,.int m,.int c,sgnM o]/\M a=some (Xm tu n s (xs++[u]))/\xs.length≤100/\0<tu/\
 ∀d:Nat,(if s.2.2<o.2.2 then seen o.2.1 o.1 c else o.1)=d->Q (.int d) (updM M a (Xm tu n (gray (n%tu),s.1,m) (d::xs)))
theorem GP:MonW Uw:=by walk_at "m"
theorem Rf(T:Txt K mg t):FnOk P w K mg base CX0 3 t.f_Side_show_and_see t.d_Side_show_and_see ["self","moment","choice","other_sign"] (liSp K Uw):=by
 refine T.F_Side_show_and_see.okM Z6M (Xn (P:=P) (w:=w) (K:=K) (mg:=mg) (base:=base) (k:=2) (G:=Ln) (Φ:=[("code_of",Wq),("moved",Du),("sampled",Vl),("shown",UR)]) (Ψ:=[("Side_ring_ahead",Vm)]) (Χ:=[("code_of",Wq),("moved",Du),("sampled",Vl),("shown",UR),("Side_ring_ahead",Vm)]) rfl (Xo T) (Xp T) rfl (fMc ⟨R7,(fMc ⟨Zev,(fMc ⟨R5,(fMc ⟨GH,(fMc ⟨Ra,nl0⟩)⟩)⟩)⟩)⟩) (fMc ⟨⟨_,_,_,(FnOk.mono (R8 T) (by decide)),T.q_code_of.m,T.q_code_of.F.kp,T.q_code_of.b⟩,(fMc ⟨⟨_,_,_,(FnOk.mono (ZkB T) (by decide)),T.q_moved.m,T.q_moved.F.kp,T.q_moved.b⟩,(fMc ⟨⟨_,_,_,(FnOk.mono (R6 T) (by decide)),T.q_sampled.m,T.q_sampled.F.kp,T.q_sampled.b⟩,(fMc ⟨⟨_,_,_,(FnOk.mono (R4 T) (by decide)),T.q_shown.m,T.q_shown.F.kp,T.q_shown.b⟩,nl0⟩)⟩)⟩)⟩) (fMc ⟨⟨_,_,rfl,_,_,_,_,(FnOk.mono (Rb T) (by decide)),T.n_Side,T.l_Side,T.m_Side_ring_ahead,T.b_Side_ring_ahead⟩,nl0⟩) nl0 (Xq T)) Fd Z6S (fun vs M Q h=>?_) (fun vs M Q h=>?_)
 ·obtain⟨a,tu,n,s,xs,u,m,c,o,rfl,_⟩:=h;rfl
 obtain⟨a,tu,n,s,xs,u,m,c,o,rfl,hM,h1,h2,q⟩:=h;show wSs _ _ _ [some (.ref a),some (.int m),some (.int c),some (sgnM o),none] M;delta Fd Lm
 repeat (first|walk_at "s"|simp only[hM,Xm,valM])
 refine⟨a,tu,n,s,xs++[u],rfl,hM,?_⟩
 repeat (first|walk_at "s"|simp only[hM,Xm,valM])
 refine⟨o.1,o.2.1,o.2.2,s.2.2,c,rfl,?_⟩;obtain⟨d,hd⟩:∃d:Nat,(if s.2.2<o.2.2 then seen o.2.1 o.1 c else o.1)=d:=⟨_,rfl⟩;rw[hd];delta Ll
 repeat (first|walk_at "s"|simp only[hM,Xm,valM])
 refine⟨by omega,?_⟩
 rw[GM];refine⟨_,rfl,?_⟩
 repeat (first|walk_at "s"|simp only[hM,Xm,valM,putM])
 refine⟨s.1,s.2.1,s.2.2,_,m,rfl,?_⟩
 repeat (first|walk_at "s"|simp only[hM,Xm,valM,putM])
 delta Lk
 repeat (first|walk_at "s"|simp only[hM,Xm,valM,putM,YJ])
 refine⟨xs.map (λn:Nat=>(n:Int)),(u:Int),(d:Int),by rw[GK,Y7];rfl,by rw[Xa];exact h1,?_⟩
 repeat (first|walk_at "s"|simp only[hM,Xm,valM,putM,YJ])
 delta Lj
 repeat (first|walk_at "s"|simp only[hM,Xm,valM,putM,YJ])
 have e:MV.int (d:Int)::List.map MV.int (xs.map λn:Nat=>(n:Int))=(d::xs).map natM:=by rw[XD,GK]
 have z:=q d hd;rw[Xm,<- e]at z
 simpa only[XD]using z
def Y0(p g u:Addr):MO:=.ins "Ferry" [("places",.ref p),("giver",.ref g),("taker",.ref u)]
abbrev Xl(k n:Nat):Nat:=gray (n%2^(k+1))
def wM:Option Nat->MV
 |none=>.non
 |some x=>.int x
structure FyAt (M:MH) (f p g u:Addr) (A:Ab):Prop where
 ok:A.Ok
 fe:M f=some (Y0 p g u)
 pls:∃pl,M p=some (.lst (pl.map sgnM))/\PlOk A pl
 gi:M g=some (Xm (2^(A.k+1)) A.ws.length (Xl A.k A.ws.length,Xl A.k A.gp,A.gm) (A.gx.map (Xl A.k)))
 ta:M u=some (Xm (2^(A.k+1)) A.tn (Xl A.k A.tn,Xl A.k A.tp,A.tm) (A.tx.map (Xl A.k)))
 ne:g≠u
def FrM(M M':MH)(l:List Addr):Prop:=∀a o,M a=some o->a∉l->M' a=some o
theorem FrM.refl(M:MH)(l:List Addr):FrM M M l:=λ_ _ h _=>h
theorem FrM.new{M M':MH}{l:List Addr}(h:FrM M M' l){p:Addr}(hp:M' p=none)(o:MO):FrM M (updM M' p o) l:=λa u e n=>by
 have:=h a u e n;rw[Xc (neM this hp)];exact this
theorem FrM.upd{M M':MH}{l:List Addr}(h:FrM M M' l){p:Addr}(hp:p∈l)(o:MO):FrM M (updM M' p o) l:=λa u e n=>by
 rw[Xc (λz=>n (by rw[z];exact hp))];exact h a u e n
theorem Dx{tu n:Nat}{s:Nat×Nat×Int}{xs:List Nat}{p g u:Addr}:Xm tu n s xs≠Y0 p g u:=by
 intro e;unfold Xm Y0 at e;injection e with e1 _;exact absurd e1 (by rw[Wk];decide)
theorem Z3{M:MH}{a b:Addr}{o u:MO}(h1:M a=some o)(h2:M b=some u)(n:o≠u):a≠b:=by
 intro e;subst e;rw[h1]at h2;cases h2;exact n rfl
theorem Rg{k n:Nat}(hk:k<4):Xl k n<2^60/\Wo (Xl k n)=n%2^(k+1):=by
 have h:=QV hk (VR n (ZI (k+1)));exact⟨YG h.1 (by decide),h.2.1⟩
theorem Rh{k:Nat}{xs:List Nat}(h:1≤xs.length):xs.map (Xl k)=xs.dropLast.map (Xl k)++[Xl k (XN xs)]:=by
 have e:=Bs h;have:xs.map (Xl k)=(xs.dropLast++[XN xs]).map (Xl k):=by rw[<- e]
 rw[this,Y7];rfl
theorem Znn{n j:Nat}(h:j<n):ixN n (j:Int)=some j:=by
 unfold ixN;rw[if_pos (by omega),if_pos (by omega),YQ]
abbrev Bt:SpM:=fun vs M Q=>∃(f:Addr) (k st:Nat),vs=[.ref f,.int k,.int st]/\M f=some (.ins "Ferry" [])/\k<4/\1≤st/\st≤3/\∀p g u M',M p=none->M g=none->M u=none->FrM M M' [f]->FyAt M' f p g u (ab0 k st)->Q .non M'
theorem Ri:MonW Bt:=by walk_at "m"
theorem Z90(T:Txt K mg t):FnOk P w K mg base CX0 4 t.f_Ferry___init__ t.d_Ferry___init__ ["self","k","stages"] (liSp K Bt):=by
 refine T.F_Ferry___init__.okM Z8X (Xn (P:=P) (w:=w) (K:=K) (mg:=mg) (base:=base) (k:=3) (G:=Lr) (Φ:=[("first_sign",Wp),("two_to",Z8)]) (Ψ:=[("Side___init__",Dw)]) (Χ:=[("first_sign",Wp),("two_to",Z8),("Side___init__",Dw)]) rfl (Xo T) (Xp T) rfl (fMc ⟨QZ,(fMc ⟨D5,(fMc ⟨Z6P,nl0⟩)⟩)⟩) (fMc ⟨⟨_,_,_,(FnOk.mono (R0 T) (by decide)),T.q_first_sign.m,T.q_first_sign.F.kp,T.q_first_sign.b⟩,(fMc ⟨⟨_,_,_,(FnOk.mono (D6 T) (by decide)),T.q_two_to.m,T.q_two_to.F.kp,T.q_two_to.b⟩,nl0⟩)⟩) nl0 (fMc ⟨⟨_,_,rfl,_,_,_,_,_,(by decide:2+1≤3),Zan T,T.n_Side,T.m_Side,T.k_Side,T.b_Side___init__⟩,nl0⟩) (Xq T)) Fe Z9g (fun vs M Q h=>?_) (fun vs M Q h=>?_)
 ·obtain⟨f,k,st,rfl,_⟩:=h;rfl
 obtain⟨f,k,st,rfl,hM,hk,h1,h3,q⟩:=h;show wSs _ _ _ [some (.ref f),some (.int k),some (.int st)] M;have pk:∀j:Nat,((2:Int)^j)=((2^j:Nat):Int):=λj=>by rw[V9];rfl
 have kp0:(0:Int)≤((2^k:Nat):Int):=WK _;have k16:2^k≤8:=C7 (by omega) (by omega:k≤3)
 delta Fe Lq
 repeat (first|walk_at "s"|simp only[putM])
 refine⟨0,rfl,?_⟩
 repeat (first|walk_at "s"|simp only[putM])
 intro p0 hp0;have fr0:=(FrM.refl M [f]).new hp0 (.lst [.tup [.int 0,.int 0,.int (-1)]]);have hf0:updM M p0 (.lst [.tup [.int 0,.int 0,.int (-1)]]) f=some (.ins "Ferry" []):=by rw[Xc (neM hM hp0)];exact hM
 have hp1:updM M p0 (.lst [.tup [.int 0,.int 0,.int (-1)]]) p0=some (.lst [.tup [.int 0,.int 0,.int (-1)]]):=X9;generalize updM M p0 _=M0 at*;refine⟨k,rfl,by omega,?_⟩
 repeat (first|walk_at "s"|simp only[hp1,pk])
 rw[YQ];refine⟨by omega,by omega,by omega,λp hp=>?_⟩
 have mp0:M p=none:=by
  cases e:M p with
  |none=>rfl
  |some o=>
   by_cases ez:p=f
   ·subst ez;rw[hf0]at hp;cases hp
   ·rw[fr0 p o e (by simpa using ez)]at hp;cases hp
 have fr1:=fr0.new hp (.lst (Xj (2^k) [MV.tup [.int 0,.int 0,.int (-1)]]).flatten);have hf1:updM M0 p (.lst (Xj (2^k) [MV.tup [.int 0,.int 0,.int (-1)]]).flatten) f=some (.ins "Ferry" []):=by rw[Xc (neM hf0 hp)];exact hf0
 have hpp:updM M0 p (.lst (Xj (2^k) [MV.tup [.int 0,.int 0,.int (-1)]]).flatten) p=some (.lst (Xj (2^k) [MV.tup [.int 0,.int 0,.int (-1)]]).flatten):=X9;generalize updM M0 p _=M1 at*
 repeat (first|walk_at "s"|simp only[hf1,putM])
 have fr2:=fr1.upd (Ya.mpr rfl) (.ins "Ferry" [("places",.ref p)]);have hf2:updM M1 f (.ins "Ferry" [("places",.ref p)]) f=some (.ins "Ferry" [("places",.ref p)]):=X9;have hpp2:updM M1 f (.ins "Ferry" [("places",.ref p)]) p=some (.lst (Xj (2^k) [MV.tup [.int 0,.int 0,.int (-1)]]).flatten):=by rw[Xc (Z3 hpp hf1 (by intro z;cases z))];exact hpp
 have free:∀z,updM M1 f (.ins "Ferry" [("places",.ref p)]) z=none->M z=none:=fun z hz=>by
  cases e:M z with
  |none=>rfl
  |some o=>
   by_cases ez:z=f
   ·subst ez;rw[hf2]at hz;cases hz
   ·rw[fr2 z o e (by simpa using ez)]at hz;cases hz
 generalize updM M1 f _=M2 at*;delta Lp
 repeat (first|walk_at "s"|simp only[hf2,putM])
 refine⟨k+1,rfl,by omega,?_⟩
 repeat (first|walk_at "s"|simp only[hf2,putM,pk])
 intro g hg;refine⟨g,2^(k+1),st,rfl,X9,h1,h3,rfl,?_⟩;rw[YJ];have fr3:=fr2.new hg (Xm (2^(k+1)) 0 (0,0,-1) (Xj st 0));have hf3:updM M2 g (Xm (2^(k+1)) 0 (0,0,-1) (Xj st 0)) f=some (.ins "Ferry" [("places",.ref p)]):=by rw[Xc (neM hf2 hg)];exact hf2
 have hpp3:updM M2 g (Xm (2^(k+1)) 0 (0,0,-1) (Xj st 0)) p=some (.lst (Xj (2^k) [MV.tup [.int 0,.int 0,.int (-1)]]).flatten):=by rw[Xc (neM hpp2 hg)];exact hpp2
 have hgg:updM M2 g (Xm (2^(k+1)) 0 (0,0,-1) (Xj st 0)) g=some (Xm (2^(k+1)) 0 (0,0,-1) (Xj st 0)):=X9;have mg0:=free g hg;generalize updM M2 g _=M3 at*
 repeat (first|walk_at "s"|simp only[hf3,putM])
 have gf:g≠f:=Z3 hgg hf3 (by intro z;unfold Xm at z;injection z with z1 _;exact absurd z1 (by rw[Wk];decide))
 have fr4:=fr3.upd (Ya.mpr rfl) (.ins "Ferry" [("places",.ref p),("giver",.ref g)]);have hf4:updM M3 f (.ins "Ferry" [("places",.ref p),("giver",.ref g)]) f=some (.ins "Ferry" [("places",.ref p),("giver",.ref g)]):=X9;have hpp4:updM M3 f (.ins "Ferry" [("places",.ref p),("giver",.ref g)]) p=some (.lst (Xj (2^k) [MV.tup [.int 0,.int 0,.int (-1)]]).flatten):=by rw[Xc (Z3 hpp3 hf3 (by intro z;cases z))];exact hpp3
 have hgg4:updM M3 f (.ins "Ferry" [("places",.ref p),("giver",.ref g)]) g=some (Xm (2^(k+1)) 0 (0,0,-1) (Xj st 0)):=by rw[Xc gf];exact hgg
 generalize updM M3 f _=M4 at*;have free4:∀z,M4 z=none->M z=none:=λz hz=>by
  cases e:M z with
  |none=>rfl
  |some o=>
   by_cases ez:z=f
   ·subst ez;rw[hf4]at hz;cases hz
   ·rw[fr4 z o e (by simpa using ez)]at hz;cases hz
 delta Lo
 repeat (first|walk_at "s"|simp only[hf4,putM])
 refine⟨k+1,rfl,by omega,?_⟩
 repeat (first|walk_at "s"|simp only[hf4,putM,pk])
 intro u hu;refine⟨u,2^(k+1),st,rfl,X9,h1,h3,rfl,?_⟩;rw[YJ];have fr5:=fr4.new hu (Xm (2^(k+1)) 0 (0,0,-1) (Xj st 0));have hf5:updM M4 u (Xm (2^(k+1)) 0 (0,0,-1) (Xj st 0)) f=some (.ins "Ferry" [("places",.ref p),("giver",.ref g)]):=by rw[Xc (neM hf4 hu)];exact hf4
 have hpp5:updM M4 u (Xm (2^(k+1)) 0 (0,0,-1) (Xj st 0)) p=some (.lst (Xj (2^k) [MV.tup [.int 0,.int 0,.int (-1)]]).flatten):=by rw[Xc (neM hpp4 hu)];exact hpp4
 have hgg5:updM M4 u (Xm (2^(k+1)) 0 (0,0,-1) (Xj st 0)) g=some (Xm (2^(k+1)) 0 (0,0,-1) (Xj st 0)):=by rw[Xc (neM hgg4 hu)];exact hgg4
 have huu:updM M4 u (Xm (2^(k+1)) 0 (0,0,-1) (Xj st 0)) u=some (Xm (2^(k+1)) 0 (0,0,-1) (Xj st 0)):=X9;have gu:=neM hgg4 hu;have mu0:=free4 u hu;generalize updM M4 u _=M5 at*
 repeat (first|walk_at "s"|simp only[hf5,putM])
 have uf:u≠f:=Z3 huu hf5 (by intro z;unfold Xm at z;injection z with z1 _;exact absurd z1 (by rw[Wk];decide))
 have fr6:=fr5.upd (Ya.mpr rfl) (Y0 p g u);have g0:gray 0=0:=by decide
 have g1:∀j,Xl j 0=0:=λj=>by unfold Xl;rw[Nat.zero_mod,g0]
 have gr:(Xj st 0).map (Xl k)=Xj st 0:=by rw[WB,g1]
 refine q p g u _ mp0 mg0 mu0 fr6 ⟨Zqg hk h1 h3,X9,⟨Xj (2^k) (0,0,-1),?_,by simp[ab0],λj hj=>absurd hj (by simp[ab0])⟩,?_,?_,gu⟩
 ·rw[Xc (Z3 hpp5 hf5 (by intro z;cases z)),hpp5,GJ,WB]
  rfl
 ·rw[Xc gf,hgg5];show some (Xm _ 0 (0,0,-1) _)=some (Xm (2^(k+1)) 0 (Xl k 0,Xl k 0,-1) ((Xj st 0).map (Xl k)));rw[g1,gr]
 ·rw[Xc uf,huu];show some (Xm _ 0 (0,0,-1) _)=some (Xm (2^(k+1)) 0 (Xl k 0,Xl k 0,-1) ((Xj st 0).map (Xl k)));rw[g1,gr]
abbrev Vn:SpM:=λvs M Q=>∃(f p g u:Addr) (A:Ab) (m:Int) (c:Nat) (x:Option Nat),vs=[.ref f,.int m,.int c,wM x]/\FyAt M f p g u A/\A.gm<m/\A.tm<m/\
 ∀p' M',M p'=none->FrM M M' [f,g,u]->FyAt M' f p' g u (A.giver m c x)->Q (.tup [.bl (A.gives x),.int (Xl A.k (A.gSamp c):Nat)]) M'
theorem Z4S:MonW Vn:=by walk_at "m"
theorem Z7P(T:Txt K mg t):FnOk P w K mg base CX0 4 t.f_Ferry_ring_giver t.d_Ferry_ring_giver ["self","moment","choice","word"] (liSp K Vn):=by
 refine T.F_Ferry_ring_giver.okM Z7L (Xn (P:=P) (w:=w) (K:=K) (mg:=mg) (base:=base) (k:=3) (G:=Ly) (Φ:=[("shown",UR)]) (Ψ:=[("Side_grow",Uv),("Side_less_the_seen",Uu),("Side_show_and_see",Uw)]) (Χ:=[("shown",UR),("Side_grow",Uv),("Side_less_the_seen",Uu),("Side_show_and_see",Uw)]) rfl (Xo T) (Xp T) rfl (fMc ⟨GH,(fMc ⟨GO,(fMc ⟨GN,(fMc ⟨GP,nl0⟩)⟩)⟩)⟩) (fMc ⟨⟨_,_,_,(FnOk.mono (R4 T) (by decide)),T.q_shown.m,T.q_shown.F.kp,T.q_shown.b⟩,nl0⟩) (fMc ⟨⟨_,_,rfl,_,_,_,_,(FnOk.mono (Re T) (by decide)),T.n_Side,T.l_Side,T.m_Side_grow,T.b_Side_grow⟩,(fMc ⟨⟨_,_,rfl,_,_,_,_,(FnOk.mono (Rc T) (by decide)),T.n_Side,T.l_Side,T.m_Side_less_the_seen,T.b_Side_less_the_seen⟩,(fMc ⟨⟨_,_,rfl,_,_,_,_,(FnOk.mono (Rf T) (by decide)),T.n_Side,T.l_Side,T.m_Side_show_and_see,T.b_Side_show_and_see⟩,nl0⟩)⟩)⟩) nl0 (Xq T)) Fh Z83 (fun vs M Q h=>?_) (fun vs M Q h=>?_)
 ·obtain⟨f,p,g,u,A,m,c,x,rfl,_⟩:=h;rfl
 obtain⟨f,p,g,u,A,m,c,x,rfl,hF,h1,h2,q⟩:=h;have hf:=hF.fe;obtain⟨pl,hp,hpl⟩:=hF.pls;have hg:=hF.gi;have hu:=hF.ta;have ok:=hF.ok;have hΦ:=(UM (Φ:=[("shown",UR),("Side_grow",Uv),("Side_less_the_seen",Uu),("Side_show_and_see",Uw)]) (fMc ⟨GH,(fMc ⟨GO,(fMc ⟨GN,(fMc ⟨GP,nl0⟩)⟩)⟩)⟩));have kpos:0<2^A.k:=ZI _;have k8:2^A.k≤8:=C7 (by omega) (by have:=ok.k4;omega:A.k≤3)
 have pll:pl.length=2^A.k:=hpl.1;have gs:=Rg (n:=XN A.gx) ok.k4;have eg:=Rh (k:=A.k) ok.gl.1;have gf:g≠f:=Z3 hg hf Dx;have uf:u≠f:=Z3 hu hf Dx;have tail:∀(M1:MH) (D:Addr) (n:Nat),FrM M M1 [f,g,u]->M1 f=some (Y0 p g u)->M1 p=some (.lst (pl.map sgnM))->M1 u=M u->M1 g=some (Xm (2^(A.k+1)) n (Xl A.k A.ws.length,Xl A.k A.gp,A.gm) (A.gx.map (Xl A.k)))->n=(A.giver m c x).ws.length->
   M1 D=some (.lst ((Xx pl.length).map λi=>MV.int ((if A.gives x=true/\i=A.ws.length%2^A.k then x.getD 0 else(pl.getD i (0,0,0)).1:Nat):Int)))->
   wSs ([("shown",UR),("Side_grow",Uv),("Side_less_the_seen",Uu),("Side_show_and_see",Uw)]:List (Str×SpM)) Ff {nx:=fun _ M'=>Q .non M',rt:=Q} [some (.ref f),some (.int m),some (.int c),some (wM x),some (.ref D),some (.bl (A.gives x))] M1:=by
  intro M1 D n fr hf1 hp1 hu1 hg1 hn hD;delta Ff;walk_at "s";refine U7 (Xx pl.length) (λi=>.int (0+(i:Nat))) (λi=>sgnM ((if A.gives x=true/\i=A.ws.length%2^A.k then x.getD 0 else(pl.getD i (0,0,0)).1),(pl.getD i (0,0,0)).1,m)) ?_ ?_ hΦ λD2 hD2=>?_
  ·repeat (first|walk_at "s"|simp only[hD,Xa,UC])
   rw[YQ];exact⟨by omega,by omega,rfl,by omega,trivial⟩
  ·intro i hi M' s;have hi:i<pl.length:=by simpa using hi
   have f':=s _ _ hf1;have p':=s _ _ hp1;have d':=s _ _ hD;simp only[sCm,XD,Yf,Ys,Yt,Yk,Yd];have a1:atI (pl.map sgnM) (0+(i:Int))=some (sgnM (pl.getD i (0,0,0))):=by
    rw[WL];refine YI ?_;rw[Xw,Xd hi,Yr,Xd hi];rfl
   have a2:atI ((Xx pl.length).map λi=>MV.int ((if A.gives x=true/\i=A.ws.length%2^A.k then x.getD 0 else(pl.getD i (0,0,0)).1:Nat):Int)) (0+(i:Int))=some (.int ((if A.gives x=true/\i=A.ws.length%2^A.k then x.getD 0 else(pl.getD i (0,0,0)).1:Nat):Int)):=by
    rw[WL];refine YI ?_;rw[Xw,Wz hi];rfl
   repeat (first|walk_at "s"|simp only[f',p',d',a1,a2,Y0,valM])
   exact⟨_,_,_,_,_,rfl,rfl,rfl⟩
  have md2:M D2=none:=by
   cases e:M D2 with
   |none=>rfl
   |some o=>
    by_cases e1:D2=f
    ·subst e1;rw[hf1]at hD2;cases hD2
    ·by_cases e2:D2=g
     ·subst e2;rw[hg1]at hD2;cases hD2
     ·by_cases e3:D2=u
      ·subst e3;rw[hu1,hu]at hD2;cases hD2
      ·rw[fr D2 o e (by simp[e1,e2,e3])]at hD2;cases hD2
  have fr2:=fr.new hD2 (.lst ((Xx pl.length).map λi=>sgnM ((if A.gives x=true/\i=A.ws.length%2^A.k then x.getD 0 else(pl.getD i (0,0,0)).1),(pl.getD i (0,0,0)).1,m)));have hpl2:(Xx pl.length).map (λi=>sgnM ((if A.gives x=true/\i=A.ws.length%2^A.k then x.getD 0 else(pl.getD i (0,0,0)).1),(pl.getD i (0,0,0)).1,m))=(YV A m x pl).map sgnM:=by
   unfold YV;rw[Yv];rfl
  rw[hpl2]at fr2 ⊢;have hf2:updM M1 D2 (.lst ((YV A m x pl).map sgnM)) f=some (Y0 p g u):=by rw[Xc (neM hf1 hD2)];exact hf1
  have hg2:updM M1 D2 (.lst ((YV A m x pl).map sgnM)) g=some (Xm (2^(A.k+1)) n (Xl A.k A.ws.length,Xl A.k A.gp,A.gm) (A.gx.map (Xl A.k))):=by rw[Xc (neM hg1 hD2)];exact hg1
  have hu2:updM M1 D2 (.lst ((YV A m x pl).map sgnM)) u=M u:=by rw[Xc (neM (hu1.trans hu) hD2)];exact hu1
  have hd2:updM M1 D2 (.lst ((YV A m x pl).map sgnM)) D2=some (.lst ((YV A m x pl).map sgnM)):=X9;generalize updM M1 D2 _=M2 at*
  repeat (first|walk_at "s"|simp only[hf2,Y0,putM])
  have fr3:=fr2.upd (p:=f) (by simp) (Y0 D2 g u)
  have hf3:updM M2 f (Y0 D2 g u) f=some (Y0 D2 g u):=X9;have hg3:updM M2 f (Y0 D2 g u) g=some (Xm (2^(A.k+1)) n (Xl A.k A.ws.length,Xl A.k A.gp,A.gm) (A.gx.map (Xl A.k))):=by rw[Xc gf];exact hg2
  have hu3:updM M2 f (Y0 D2 g u) u=M u:=by rw[Xc uf];exact hu2
  have hd3:updM M2 f (Y0 D2 g u) D2=some (.lst ((YV A m x pl).map sgnM)):=by rw[Xc (Z3 hd2 hf2 (by intro z;cases z))];exact hd2
  rw[Y0]at fr3 hf3 hg3 hu3 hd3;generalize updM M2 f _=M3 at*;delta Ls;rw[hu]at hu3
  repeat (first|walk_at "s"|simp only[hf3,hg3,hu3,Xm,valM])
  rw[eg]at hg3;refine⟨g,2^(A.k+1),n,(Xl A.k A.ws.length,Xl A.k A.gp,A.gm),A.gx.dropLast.map (Xl A.k),Xl A.k (XN A.gx),m,c,(Xl A.k A.tn,Xl A.k A.tp,A.tm),rfl,hg3,?_,ZI _,?_⟩
  ·have:=ok.gl;rw[Xa,Wy];omega
  intro d hd;have ed:d=Xl A.k (A.gSamp c):=by
   rw[<- hd];exact R9 ok.k4 ok.t1 _ _ c
  repeat (first|walk_at "s"|simp only[ed])
  have fr4:=fr3.upd (p:=g) (by simp) (Xm (2^(A.k+1)) n (gray (n%2^(A.k+1)),Xl A.k A.ws.length,m) (d::A.gx.dropLast.map (Xl A.k)))
  rw[ed]at fr4;refine q D2 _ md2 fr4 ⟨ok.giver h2,?_,⟨YV A m x pl,?_,Zh8 hpl⟩,?_,?_,hF.ne⟩
  ·rw[Xc gf.symm];exact hf3
  ·rw[Xc (Z3 hd3 hg3 (by intro z;unfold Xm at z;cases z))];exact hd3
  ·rw[X9];show _=some (Xm (2^(A.k+1)) (A.giver m c x).ws.length (Xl A.k (A.giver m c x).ws.length,Xl A.k A.ws.length,m) ((A.gSamp c::A.gx.dropLast).map (Xl A.k)));rw[<- hn];rfl
  ·rw[Xc hF.ne.symm];exact hu3
 show wSs _ _ _ [some (.ref f),some (.int m),some (.int c),some (wM x),none,none] M;delta Fh Lx;walk_at "s";refine U7 pl sgnM (λs=>.int s.1) ?_ ?_ hΦ λD hD=>?_
 ·repeat (first|walk_at "s"|simp only[hf,hp,Y0,valM])
  exact⟨rfl,by omega,hp⟩
 ·intro s hs M' same;simp only[sCm,XD,Yf,Ys,Yt,Yk,Yd];walk_at "s"
 have fr0:=(FrM.refl M [f,g,u]).new hD (.lst (pl.map λs=>MV.int s.1));have hf0:updM M D (.lst (pl.map λs=>MV.int s.1)) f=some (Y0 p g u):=by rw[Xc (neM hf hD)];exact hf
 have hp0:updM M D (.lst (pl.map λs=>MV.int s.1)) p=some (.lst (pl.map sgnM)):=by rw[Xc (neM hp hD)];exact hp
 have hg0:updM M D (.lst (pl.map λs=>MV.int s.1)) g=some (Xm (2^(A.k+1)) A.ws.length (Xl A.k A.ws.length,Xl A.k A.gp,A.gm) (A.gx.map (Xl A.k))):=by rw[Xc (neM hg hD)];exact hg
 have hu0:updM M D (.lst (pl.map λs=>MV.int s.1)) u=M u:=by rw[Xc (neM hu hD)]
 have hd0:updM M D (.lst (pl.map λs=>MV.int s.1)) D=some (.lst (pl.map λs=>MV.int s.1)):=X9;generalize updM M D _=M0 at*;have no:¬A.gives x=true->pl.map (λs=>MV.int s.1)=(Xx pl.length).map λi=>MV.int ((if A.gives x=true/\i=A.ws.length%2^A.k then x.getD 0 else(pl.getD i (0,0,0)).1:Nat):Int):=λz=>by
  refine BT (by simp) λi h1 h2=>?_
  have hi:i<pl.length:=by simpa using h1
  simp[z,hi]
 delta Lw;cases x with
 |none=>
  have z:¬A.gives none=true:=by simp[Ab.gives]
  have z':A.gives none=false:=by simpa using z
  repeat (first|walk_at "s"|simp only[wM])
  delta Fg
  repeat (first|walk_at "s"|simp only[true_and])
  rw[no z]at hd0;have tl:=tail M0 D A.ws.length fr0 hf0 hp0 hu0 hg0 (by unfold Ab.giver;rw[if_neg z]) hd0
  rw[z',wM]at tl;exact tl
 |some y=>
  have hg00:=hg0;rw[eg]at hg00
  repeat (first|walk_at "s"|simp only[wM,hf0,hg0,Y0,Xm,valM])
  refine⟨g,_,_,_,_,_,rfl,hg00,gs.1,ZI _,?_⟩
  repeat (first|walk_at "s"|simp only[hd0])
  rw[gs.2,Xa,pll];have er:decide ((((A.ws.length:Int) - ((XN A.gx%2^(A.k+1):Nat):Int))%((2^(A.k+1):Nat):Int)<((2^A.k:Nat):Int)))=A.gives (some y):=by
   unfold Ab.gives;simp only[Ed,C4];exact decide_eq_decide.mpr (Zkg ok)
  rw[er];delta Fg;cases z:A.gives (some y)with
  |false=>
   repeat (first|walk_at "s"|simp only[true_and])
   rw[no (by rw[z];exact XC)]at hd0
   have tl:=tail M0 D A.ws.length fr0 hf0 hp0 hu0 hg0 (by unfold Ab.giver;rw[if_neg (by rw[z];exact XC)]) hd0
   rw[z,wM]at tl;exact tl
  |true=>
   repeat (first|walk_at "s"|simp only[true_and])
   delta Lv
   repeat (first|walk_at "s"|simp only[wM,hf0,hg0,hd0,Y0,Xm,valM,Xa])
   rw[pll,GM];refine⟨by omega,A.ws.length%2^A.k,Znn (VR _ kpos),?_⟩
   have fr1:FrM M (updM M0 D (.lst ((pl.map λs=>MV.int s.1).set (A.ws.length%2^A.k) (.int y)))) [f,g,u]:=λa o e n=>by
    rw[Xc (neM e hD)];exact fr0 a o e n
   have eset:(pl.map λs=>MV.int s.1).set (A.ws.length%2^A.k) (.int y)=(Xx pl.length).map λi=>MV.int ((if A.gives (some y)=true/\i=A.ws.length%2^A.k then(some y).getD 0 else(pl.getD i (0,0,0)).1:Nat):Int):=by
    refine BT (by simp) λi h1 h2=>?_
    have hi:i<pl.length:=by simpa using h1
    rw[DQ];by_cases e:A.ws.length%2^A.k=i
    ·subst e;rw[if_pos rfl];simp[z]
    ·rw[if_neg e];have e2:¬(A.gives (some y)=true/\i=A.ws.length%2^A.k):=λw=>e w.2.symm;simp[e2,hi]
   rw[eset]at fr1 ⊢;have hf1:updM M0 D (.lst ((Xx pl.length).map λi=>MV.int ((if A.gives (some y)=true/\i=A.ws.length%2^A.k then(some y).getD 0 else(pl.getD i (0,0,0)).1:Nat):Int))) f=some (Y0 p g u):=by rw[Xc (neM hf hD)];exact hf0
   have hp1:updM M0 D (.lst ((Xx pl.length).map λi=>MV.int ((if A.gives (some y)=true/\i=A.ws.length%2^A.k then(some y).getD 0 else(pl.getD i (0,0,0)).1:Nat):Int))) p=some (.lst (pl.map sgnM)):=by rw[Xc (neM hp hD)];exact hp0
   have hg1:updM M0 D (.lst ((Xx pl.length).map λi=>MV.int ((if A.gives (some y)=true/\i=A.ws.length%2^A.k then(some y).getD 0 else(pl.getD i (0,0,0)).1:Nat):Int))) g=some (Xm (2^(A.k+1)) A.ws.length (Xl A.k A.ws.length,Xl A.k A.gp,A.gm) (A.gx.map (Xl A.k))):=by rw[Xc (neM hg hD)];exact hg0
   have hu1:updM M0 D (.lst ((Xx pl.length).map λi=>MV.int ((if A.gives (some y)=true/\i=A.ws.length%2^A.k then(some y).getD 0 else(pl.getD i (0,0,0)).1:Nat):Int))) u=M u:=by rw[Xc (neM hu hD)];exact hu0
   have hd1:updM M0 D (.lst ((Xx pl.length).map λi=>MV.int ((if A.gives (some y)=true/\i=A.ws.length%2^A.k then(some y).getD 0 else(pl.getD i (0,0,0)).1:Nat):Int))) D=some (.lst ((Xx pl.length).map λi=>MV.int ((if A.gives (some y)=true/\i=A.ws.length%2^A.k then(some y).getD 0 else(pl.getD i (0,0,0)).1:Nat):Int))):=X9;generalize updM M0 D _=M1 at*;delta Lu
   repeat (first|walk_at "s"|simp only[hf1,hg1,Y0,Xm,valM])
   refine⟨g,_,_,_,_,rfl,hg1,?_⟩;have fr2:=fr1.upd (p:=g) (by simp) (Xm (2^(A.k+1)) (A.ws.length+1) (Xl A.k A.ws.length,Xl A.k A.gp,A.gm) (A.gx.map (Xl A.k)))
   have tl:=tail _ D (A.ws.length+1) fr2 (by rw[Xc gf.symm];exact hf1) (by rw[Xc (Z3 hp1 hg1 (by intro z;unfold Xm at z;cases z))];exact hp1) (by rw[Xc hF.ne.symm];exact hu1) X9
    (by unfold Ab.giver;rw[if_pos z];simp) (by rw[Xc (Z3 hd1 hg1 (by intro z;unfold Xm at z;cases z))];exact hd1)
   rw[z,wM]at tl;exact tl
def takM(A:Ab)(x:Bool):MV:=if A.takes x=true then .int (A.ws.getD A.tn 0:Nat)else .non
abbrev Wr:SpM:=λvs M Q=>∃(f p g u:Addr) (A:Ab) (m:Int) (c:Nat) (x:Bool),vs=[.ref f,.int m,.int c,.bl x]/\FyAt M f p g u A/\A.gm<m/\A.tm<m/\
 ∀M',FrM M M' [f,g,u]->FyAt M' f p g u (A.taker m c x)->Q (.tup [takM A x,.int (Xl A.k (A.tSamp c):Nat)]) M'
theorem Z4R:MonW Wr:=by walk_at "m"
theorem Z7O(T:Txt K mg t):FnOk P w K mg base CX0 4 t.f_Ferry_ring_taker t.d_Ferry_ring_taker ["self","moment","choice","wished"] (liSp K Wr):=by
 refine T.F_Ferry_ring_taker.okM Z7K (Xn (P:=P) (w:=w) (K:=K) (mg:=mg) (base:=base) (k:=3) (G:=LE) (Φ:=[("sampled",Vl)]) (Ψ:=[("Side_grow",Uv),("Side_less_the_seen",Uu),("Side_ring_ahead",Vm),("Side_show_and_see",Uw)]) (Χ:=[("sampled",Vl),("Side_grow",Uv),("Side_less_the_seen",Uu),("Side_ring_ahead",Vm),("Side_show_and_see",Uw)]) rfl (Xo T) (Xp T) rfl (fMc ⟨R5,(fMc ⟨GO,(fMc ⟨GN,(fMc ⟨Ra,(fMc ⟨GP,nl0⟩)⟩)⟩)⟩)⟩) (fMc ⟨⟨_,_,_,(FnOk.mono (R6 T) (by decide)),T.q_sampled.m,T.q_sampled.F.kp,T.q_sampled.b⟩,nl0⟩) (fMc ⟨⟨_,_,rfl,_,_,_,_,(FnOk.mono (Re T) (by decide)),T.n_Side,T.l_Side,T.m_Side_grow,T.b_Side_grow⟩,(fMc ⟨⟨_,_,rfl,_,_,_,_,(FnOk.mono (Rc T) (by decide)),T.n_Side,T.l_Side,T.m_Side_less_the_seen,T.b_Side_less_the_seen⟩,(fMc ⟨⟨_,_,rfl,_,_,_,_,(FnOk.mono (Rb T) (by decide)),T.n_Side,T.l_Side,T.m_Side_ring_ahead,T.b_Side_ring_ahead⟩,(fMc ⟨⟨_,_,rfl,_,_,_,_,(FnOk.mono (Rf T) (by decide)),T.n_Side,T.l_Side,T.m_Side_show_and_see,T.b_Side_show_and_see⟩,nl0⟩)⟩)⟩)⟩) nl0 (Xq T)) Fj Z82 (fun vs M Q h=>?_) (fun vs M Q h=>?_)
 ·obtain⟨f,p,g,u,A,m,c,x,rfl,_⟩:=h;rfl
 obtain⟨f,p,g,u,A,m,c,x,rfl,hF,h1,h2,q⟩:=h;have hf:=hF.fe;obtain⟨pl,hp,hpl⟩:=hF.pls;have hg:=hF.gi;have hu:=hF.ta;have ok:=hF.ok;have kpos:0<2^A.k:=ZI _;have k8:2^A.k≤8:=C7 (by omega) (by have:=ok.k4;omega:A.k≤3)
 have pll:pl.length=2^A.k:=hpl.1;have gs:=Rg (n:=XN A.tx) ok.k4;have tl1:1≤A.tx.length:=by rw[ok.tl];exact ok.gl.1
 have eg:=Rh (k:=A.k) tl1;have gf:g≠f:=Z3 hg hf Dx;have uf:u≠f:=Z3 hu hf Dx;have up:u≠p:=Z3 hu hp (by intro z;unfold Xm at z;cases z)
 have tail:∀(M1:MH) (n:Nat) (pz:Option MV),FrM M M1 [f,g,u]->M1 f=some (Y0 p g u)->M1 p=some (.lst (pl.map sgnM))->M1 g=M g->M1 u=some (Xm (2^(A.k+1)) n (Xl A.k A.tn,Xl A.k A.tp,A.tm) (A.tx.map (Xl A.k)))->n=(A.taker m c x).tn->
   wSs ([("sampled",Vl),("Side_grow",Uv),("Side_less_the_seen",Uu),("Side_ring_ahead",Vm),("Side_show_and_see",Uw)]:List (Str×SpM)) Fi {nx:=fun _ M'=>Q .non M',rt:=Q} [some (.ref f),some (.int m),some (.int c),some (.bl x),some (takM A x),pz] M1:=by
  intro M1 n pz fr hf1 hp1 hg1 hu1 hn;rw[hg]at hg1;delta Fi
  repeat (first|walk_at "s"|simp only[hf1,hu1,hg1,Y0,Xm,valM])
  rw[eg]at hu1;refine⟨u,2^(A.k+1),n,(Xl A.k A.tn,Xl A.k A.tp,A.tm),A.tx.dropLast.map (Xl A.k),Xl A.k (XN A.tx),m,c,(Xl A.k A.ws.length,Xl A.k A.gp,A.gm),rfl,hu1,?_,ZI _,?_⟩
  ·have:=ok.gl;have:=ok.tl;rw[Xa,Wy];omega
  intro d hd;have ed:d=Xl A.k (A.tSamp c):=by
   rw[<- hd];exact R9 ok.k4 ok.g1 _ _ c
  repeat (first|walk_at "s"|simp only[ed])
  have fr4:=fr.upd (p:=u) (by simp) (Xm (2^(A.k+1)) n (gray (n%2^(A.k+1)),Xl A.k A.tn,m) (d::A.tx.dropLast.map (Xl A.k)))
  rw[ed]at fr4;refine q _ fr4 ⟨ok.taker h1,?_,⟨pl,?_,hpl⟩,?_,?_,hF.ne⟩
  ·rw[Xc uf.symm];exact hf1
  ·rw[Xc up.symm];exact hp1
  ·rw[Xc hF.ne];exact hg1
  ·rw[X9];show _=some (Xm (2^(A.k+1)) (A.taker m c x).tn (Xl A.k (A.taker m c x).tn,Xl A.k A.tn,m) ((A.tSamp c::A.tx.dropLast).map (Xl A.k)));rw[<- hn];rfl
 show wSs _ _ _ [some (.ref f),some (.int m),some (.int c),some (.bl x),none,none] M;delta Fj LD;walk_at "s";delta LC;cases x with
 |false=>
  have z:¬A.takes false=true:=by simp[Ab.takes]
  repeat (first|walk_at "s"|simp only[true_and])
  have tl:=tail M A.tn none (FrM.refl _ _) hf hp rfl hu (by unfold Ab.taker;rw[if_neg z])
  rw[takM,if_neg z]at tl;exact tl
 |true=>
  have hu00:=hu;rw[eg]at hu00
  repeat (first|walk_at "s"|simp only[hf,hu,Y0,Xm,valM])
  refine⟨u,_,_,_,_,_,rfl,hu00,gs.1,ZI _,?_⟩
  repeat (first|walk_at "s"|simp only[true_and])
  rw[gs.2];refine Yb (λhne=>?_) (λhne=>?_)
  ·have ne:XN A.tx≠A.tn:=λe=>hne ((QY ok).mpr e);have z:A.takes true=true:=by unfold Ab.takes;simpa using ne
   obtain⟨hj,ah,ha,hb⟩:=ZhQ ok hpl ne;delta LB
   repeat (first|walk_at "s"|simp only[hf,hu,hp,Y0,Xm,valM,Xa])
   rw[pll,GM];have a1:atI (pl.map sgnM) ((A.tn%2^A.k:Nat):Int)=some (sgnM (A.ws[A.tn],ah,A.gm)):=by
    refine YI ?_;rw[Xw,ha];rfl
   refine⟨by omega,_,a1,?_⟩
   delta LA
   repeat (first|walk_at "s"|simp only[hf,hu,Y0,Xm,valM])
   refine⟨u,_,_,_,_,rfl,hu,?_⟩
   repeat (first|walk_at "s"|simp only[true_and])
   refine⟨A.ws[A.tn],ah,A.gm,A.tm,c,rfl,?_⟩;have ew:(if A.tm<A.gm then seen ah A.ws[A.tn] c else A.ws[A.tn])=A.ws[A.tn]:=by
    split
    ·rename_i w;rw[hb w,Zi5]
    ·rfl
   rw[ew];delta Lz
   repeat (first|walk_at "s"|simp only[hf,hu,Y0,Xm,valM])
   refine⟨u,_,_,_,_,rfl,hu,?_⟩;have fr2:=(FrM.refl M [f,g,u]).upd (p:=u) (by simp) (Xm (2^(A.k+1)) (A.tn+1) (Xl A.k A.tn,Xl A.k A.tp,A.tm) (A.tx.map (Xl A.k)))
   have tl:=tail _ (A.tn+1) (some (sgnM (A.ws[A.tn],ah,A.gm))) fr2 (by rw[Xc uf.symm];exact hf) (by rw[Xc up.symm];exact hp) (by rw[Xc hF.ne]) X9 (by unfold Ab.taker;rw[if_pos z])
   have eg2:A.ws.getD A.tn 0=A.ws[A.tn]:=by rw[Yr,Xd hj];rfl
   rw[takM,if_pos z,eg2]at tl;exact tl
  ·have e:XN A.tx=A.tn:=(QY ok).mp (Decidable.not_not.mp hne);have z:¬A.takes true=true:=by unfold Ab.takes;simpa using e
   have tl:=tail M A.tn none (FrM.refl _ _) hf hp rfl hu (by unfold Ab.taker;rw[if_neg z])
   rw[takM,if_neg z]at tl;exact tl
theorem FyAt.same{M M':MH}{f p g u:Addr}{A:Ab}(h:FyAt M f p g u A)(s:∀a o,M a=some o->(∀xs,o=.lst xs->a=p)->M' a=some o):FyAt M' f p g u A:=by
 obtain⟨pl,hp,hpl⟩:=h.pls;exact⟨h.ok,s _ _ h.fe (λxs z=>by cases z),⟨pl,s _ _ hp (λxs _=>rfl),hpl⟩,s _ _ h.gi (λxs z=>by cases z),s _ _ h.ta (λxs z=>by cases z),h.ne⟩
theorem FyAt.keep{M M':MH}{f p g u:Addr}{A:Ab}(h:FyAt M f p g u A)(s:SameM M M'):FyAt M' f p g u A:=h.same λa o e _=>s a o e
theorem FyAt.put{M:MH}{f p g u q:Addr}{A:Ab}{xs:List MV}(h:FyAt M f p g u A)(hq:M q=some (.lst xs))(n:q≠p)(ys:List MV):FyAt (updM M q (.lst ys)) f p g u A:=h.same λa o e z=>by
 by_cases w:a=q
 ·subst w;rw[hq]at e;cases e;exact absurd (z xs rfl) n
 ·rw[Xc w];exact e
theorem Rj{M:MH}{f p g u q:Addr}{A:Ab}{xs:List MV}(h:FyAt M f p g u A)(hq:M q=some (.lst xs)):q∉ [f,g,u]:=by
 intro z;rcases Xr.mp z with rfl|z
 ·rw[h.fe]at hq;cases hq
 rcases Xr.mp z with rfl|z
 ·rw[h.gi]at hq;cases hq
 rcases Xr.mp z with rfl|z
 ·rw[h.ta]at hq;cases hq
 ·cases z
abbrev Dy:SpM:=λvs M Q=>∃(ns:List Int) (k:Nat),vs=[.frl (ns.map .int),.int k]/\Q (.int (ns.getD k 0)) M
theorem Z7S:MonW Dy:=by walk_at "m"
theorem Zb4(T:Txt K mg t):FnOk P w K mg base CX0 1 t.f__law_cell_at t.d__law_cell_at ["script","k"] (liSp K Dy):=by
 refine T.q__law_cell_at.F.okM ZaR (Xn (P:=P) (w:=w) (K:=K) (mg:=mg) (base:=base) (k:=0) (G:=P0) (Φ:=[]) (Ψ:=[]) (Χ:=[]) rfl (Xo T) (Xp T) rfl nl0 nl0 nl0 nl0 (Xq T)) Gd ZbF (λvs M Q h=>?_) (λvs M Q h=>?_)
 ·obtain⟨ns,k,rfl,_⟩:=h;rfl
 obtain⟨ns,k,rfl,q⟩:=h;show wSs _ _ _ [some (.frl (ns.map .int)),some (.int k)] M;delta Gd OZ;walk_at "s";refine Yb (λc=>?_) (λc=>?_)
 ·rw[Xa]at c;have hk:k<ns.length:=by omega
  delta OY;walk_at "s";have e:ns.getD k 0=ns[k]:=by simp[Yr,hk]
  rw[e]at q;exact⟨_,YI (by rw[Xw,Xd hk];rfl),q⟩
 ·rw[Xa]at c;have e:ns.getD k 0=0:=by simp[Yr,DH.mpr (show ns.length≤k by omega)]
  rw[e]at q;delta OX;walk_at "s";exact q
abbrev Bu:SpM:=λvs M Q=>∃i,vs=[.int i]/\Q (.bl true) M
theorem Rk:MonW Bu:=by walk_at "m"
theorem Zdk(T:Txt K mg t):FnOk P w K mg base CX0 1 t.f__law_whole t.d__law_whole ["found"] (liSp K Bu):=by
 refine T.q__law_whole.F.okM Zdd (Xn (P:=P) (w:=w) (K:=K) (mg:=mg) (base:=base) (k:=0) (G:=P2) (Φ:=[]) (Ψ:=[]) (Χ:=[]) rfl (Xo T) (Xp T) rfl nl0 nl0 nl0 nl0 (Xq T)) Ge ZdL (λvs M Q h=>?_) (λvs M Q h=>?_)
 ·obtain⟨i,rfl,_⟩:=h;rfl
 obtain⟨i,rfl,q⟩:=h;show wSs _ _ _ [some (.int i)] M;delta Ge P1;walk_at "s"
 simpa using q
def alph:Str:="abcdefghijklmnopqrstuvwxyz"
theorem Zli:alph.cps.toList.length=26:=by decide+kernel
theorem ZjK:alph.length≤16777216:=by decide+kernel
theorem GQ{i:Int}(h0:0≤i)(h1:i<26):∃c,atI alph.cps.toList i=some c:=by
 have hk:i.toNat<alph.cps.toList.length:=by rw[Zli];omega
 refine⟨alph.cps.toList[i.toNat],?_⟩;have:=YI (xs:=alph.cps.toList) (j:=i.toNat) (Xd hk)
 rwa [UG h0]at this
theorem Rm(c:Nat):(⟨#[c]⟩:Str).length=1:=rfl
theorem Zoc(a b:Str):(a++b).length=a.length+b.length:=by
 show(a.cps++b.cps).size=_;rw[Array.size_append]
 rfl
def ltr(i:Int):Str:=match atI alph.cps.toList i with
 |some c=>⟨#[c]⟩
 |none=>Uo
def YW(n k:Int):Str:=if n%3=2 then Txt.mul (ltr (n/192%26)) (1+(3*k+n/192)%7)++Txt.mul (ltr ((n/192%26+1+n/4992%25)%26)) (k/7)
 else Txt.mul (ltr (n/192%26)) (n/24%8%(1+n/3%8))++ltr ((n/4992+7*k)%26)++Txt.mul (ltr (n/192%26)) (1+n/3%8 - 1 - n/24%8%(1+n/3%8))
abbrev Vo:SpM:=λvs M Q=>∃(n k:Int),vs=[.int n,.int k]/\0≤k/\k≤50/\Q (.str (YW n k)) M
theorem Rn:MonW Vo:=by walk_at "m"
theorem Ro(T:Txt K mg t):FnOk P w K mg base CX0 1 t.f__law_name t.d__law_name ["number","k"] (liSp K Vo):=by
 refine T.q__law_name.F.okM Ze5 (Xn (P:=P) (w:=w) (K:=K) (mg:=mg) (base:=base) (k:=0) (G:=Pc) (Φ:=[]) (Ψ:=[]) (Χ:=[]) rfl (Xo T) (Xp T) rfl nl0 nl0 nl0 nl0 (Xq T)) Gf ZeY (λvs M Q h=>?_) (λvs M Q h=>?_)
 ·obtain⟨n,k,rfl,_⟩:=h;rfl
 obtain⟨n,k,rfl,hk0,hk1,q⟩:=h;show wSs _ _ _ [some (.int n),some (.int k),none,none,none,none,none,none] M;delta Gf Pb;walk_at "s";delta Pa;walk_at "s";delta P9;walk_at "s";have al:=ZjK;obtain⟨c1,a1⟩:=GQ (i:=n/192%26) (by omega) (by omega)
 have e1:ltr (n/192%26)=⟨#[c1]⟩:=by unfold ltr;rw[a1]
 unfold YW at q;rw[e1]at q;refine Yb (λc=>?_) (λc=>?_)
 ·rw[if_pos c]at q;delta P8;walk_at "s";obtain⟨c2,a2⟩:=GQ (i:=(n/192%26+1+n/4992%25)%26) (by omega) (by omega)
  have e2:ltr ((n/192%26+1+n/4992%25)%26)=⟨#[c2]⟩:=by unfold ltr;rw[a2]
  rw[e2]at q;refine⟨al,c2,a2,?_⟩;delta P7;walk_at "s";refine⟨al,c1,a1,?_⟩;have l1:=CG (z:=⟨#[c1]⟩) (i:=1+(3*k+n/192)%7) 8 (by omega) (Xi 1)
  have l2:=CG (z:=⟨#[c2]⟩) (i:=k/7) 8 (by omega) (Xi 1)
  simp only[Rm];exact⟨by decide,by omega,by omega,by decide,by omega,by omega,by omega,q⟩
 ·rw[if_neg c]at q;obtain⟨lo,hlo⟩:∃lo:Int,1+n/3%8=lo:=⟨_,rfl⟩;obtain⟨c3,a3⟩:=GQ (i:=(n/4992+7*k)%26) (by omega) (by omega)
  have e3:ltr ((n/4992+7*k)%26)=⟨#[c3]⟩:=by unfold ltr;rw[a3]
  rw[e3,hlo]at q;delta P6;walk_at "s";rw[hlo];delta P5;walk_at "s";have hp:(0:Int)<lo:=by omega
  refine⟨hp,?_⟩;obtain⟨at',hat⟩:∃at':Int,n/24%8%lo=at':=⟨_,rfl⟩;have h0:0≤at':=by rw[<- hat];exact ZW _ (by omega)
  have h1:at'<lo:=by rw[<- hat];exact Um _ hp
  rw[hat]at q;rw[hat];delta P4;walk_at "s";refine⟨al,c3,a3,?_⟩;delta P3;walk_at "s";have l1:=CG (z:=⟨#[c1]⟩) (i:=at') 8 (by omega) (Xi 1)
  have l2:=CG (z:=⟨#[c1]⟩) (i:=lo - 1 - at') 8 (by omega) (Xi 1)
  refine⟨al,c1,a1,?_⟩;simp only[Rm,Zoc];exact⟨by decide,by omega,by omega,by omega,al,c1,a1,by decide,by omega,by omega,by omega,q⟩
theorem Rp(c:Nat):∀(k:Nat) (acc:Array Nat),((Xj k #[c]).foldl (·++·) acc).toList=acc.toList++Xj k c
 |0,acc=>by simp
 |k+1,acc=>by
  rw[Zf,VI,Rp c k,Array.toList_append,VE,Zf];rfl
theorem mul_one(c:Nat)(i:Int):(Txt.mul (⟨#[c]⟩:Str) i).cps.toList=Xj i.toNat c:=by
 unfold Txt.mul;by_cases h:i<1
 ·rw[if_pos h];have:i.toNat=0:=by omega
  rw[this];rfl
 rw[if_neg h];by_cases h2:(i==1||(⟨#[c]⟩:Str).length==0)=true
 ·rw[if_pos h2];rcases(C1 _ _).mp h2 with e|e
  ·have:i=1:=by simpa using e
   subst this;rfl
  ·have:(⟨#[c]⟩:Str).length=0:=by simpa using e
   cases this
 ·rw[if_neg h2];show((Xj i.toNat #[c]).foldl (·++·) #[]).toList=_;rw[Rp];rfl
theorem Zod:alph.cps.toList=(Xx 26).map (97+·):=by decide+kernel
theorem Dz{i:Int}(h0:0≤i)(h1:i<26):ltr i=⟨#[97+i.toNat]⟩:=by
 unfold ltr;have hk:i.toNat<26:=by omega
 have e:atI alph.cps.toList i=some (97+i.toNat):=by
  have:=YI (xs:=alph.cps.toList) (j:=i.toNat) (v:=97+i.toNat) (by rw[Zod,Xw,Wz hk];rfl)
  rwa [UG h0]at this
 rw[e]
theorem GR(a b:Str):(a++b).cps.toList=a.cps.toList++b.cps.toList:=by
 show(a.cps++b.cps).toList=_;rw[Array.toList_append]
theorem GS{n:Int}(c:n%3=2){k:Int}(h0:0≤k)(h1:k≤10):∃c1 c2:Nat,c1≠c2/\97≤c1/\c1≤122/\97≤c2/\c2≤122/\c1=97+(n/192%26).toNat/\c2=97+((n/192%26+1+n/4992%25)%26).toNat/\(YW n k).cps.toList=Xj (1+(3*k+n/192)%7).toNat c1++Xj (k/7).toNat c2:=by
 refine⟨_,_,?_,?_,?_,?_,?_,rfl,rfl,?_⟩
 ·omega
 ·omega
 ·omega
 ·omega
 ·omega
 ·unfold YW;rw[if_pos c,GR,Dz (by omega) (by omega),Dz (by omega) (by omega),mul_one,mul_one]
theorem GT{n:Int}(c:¬n%3=2)(k:Int):∃at' lo c1:Nat,at'<lo/\lo≤8/\97≤c1/\c1≤122/\at'=(n/24%8%(1+n/3%8)).toNat/\
  (YW n k).cps.toList=Xj at' c1++(97+((n/4992+7*k)%26).toNat)::Xj (lo - 1 - at') c1:=by
 have h0:0≤n/24%8%(1+n/3%8):=ZW _ (by omega)
 have h1:n/24%8%(1+n/3%8)<1+n/3%8:=Um _ (by omega)
 refine⟨(n/24%8%(1+n/3%8)).toNat,(1+n/3%8).toNat,97+(n/192%26).toNat,by omega,by omega,by omega,by omega,rfl,?_⟩
 unfold YW;rw[if_neg c,GR,GR,Dz (by omega) (by omega),Dz (by omega) (by omega),mul_one,mul_one]
 have e:(1+n/3%8 - 1 - n/24%8%(1+n/3%8)).toNat=(1+n/3%8).toNat - 1 - (n/24%8%(1+n/3%8)).toNat:=by omega
 rw[e,VE];rfl
theorem DA{n k:Int}(h0:0≤k)(h1:k≤10):ZL (YW n k):=by
 have el:∀z:Str,z.length=z.cps.toList.length:=λz=>Y3.symm;by_cases c:n%3=2
 ·obtain⟨c1,c2,ne,a1,a2,b1,b2,_,_,e⟩:=GS c h0 h1;refine⟨?_,?_,?_⟩
  ·rw[el,e,Yz,Ze,Ze];omega
  ·rw[el,e,Yz,Ze,Ze];omega
  ·intro x hx;rw[e]at hx;rcases YN.mp hx with hx|hx
   ·rw[UY hx];exact⟨a1,a2⟩
   ·rw[UY hx];exact⟨b1,b2⟩
 ·obtain⟨at',lo,c1,l1,l2,a1,a2,_,e⟩:=GT c k;refine⟨?_,?_,?_⟩
  ·rw[el,e,Yz,Yu,Ze,Ze];omega
  ·rw[el,e,Yz,Yu,Ze,Ze];omega
  ·intro x hx;rw[e]at hx;rcases YN.mp hx with hx|hx
   ·rw[UY hx];exact⟨a1,a2⟩
   ·rcases Xr.mp hx with hx|hx
    ·rw[hx];omega
    ·rw[UY hx];exact⟨a1,a2⟩
theorem Bv{n k k':Int}(h0:0≤k)(h1:k≤10)(h0':0≤k')(h1':k'≤10)(h:YW n k=YW n k'):k=k':=by
 by_cases c:n%3=2
 ·obtain⟨c1,c2,ne,_,_,_,_,e1,e2,e⟩:=GS c h0 h1;obtain⟨d1,d2,_,_,_,_,_,f1,f2,f⟩:=GS c h0' h1';rw[<- e1]at f1;rw[<- e2]at f2;subst f1 f2;rw[<- h,e]at f;have p1:=congrArg (List.count d1) f;have p2:=congrArg (List.count d2) f;simp only[List.count_append,List.count_replicate,beq_iff_eq,if_true,ne,XU ne,if_false,Nat.add_zero,Nat.zero_add]at p1 p2
  try simp at p1 p2
  omega
 ·obtain⟨at',lo,c1,l1,l2,a1,a2,e0,e⟩:=GT c k;obtain⟨at2,lo2,c2,_,_,_,_,f0,f⟩:=GT c k';rw[<- e0]at f0;subst f0;rw[<- h,e]at f;have p:=congrArg (λl=>l[at2]?) f
  try simp only at p
  rw[ZS (by rw[Ze];exact Xi _),ZS (by rw[Ze];exact Xi _),Ze,Nat.sub_self]at p
  have p:97+((n/4992+7*k)%26).toNat=97+((n/4992+7*k')%26).toNat:=by simpa using p
  omega
abbrev Vp:SpM:=λvs M Q=>∃(n:Int) (a:Addr) (x y:Str),vs=[.int n,.ref a]/\M a=some (.lst [.str x,.str y])/\0≤n/\n≤10^8/\∀(U:Tm) M',SameM M M'->TmIn [x,y] U->Q U.mv M'
theorem Rq:MonW Vp:=by walk_at "m"
theorem Zen(T:Txt K mg t):FnOk P w K mg base CX0 1 t.f__law_term t.d__law_term ["number","names"] (liSp K Vp):=by
 refine T.q__law_term.F.okM Ze3 (Xn (P:=P) (w:=w) (K:=K) (mg:=mg) (base:=base) (k:=0) (G:=Pn) (Φ:=[]) (Ψ:=[]) (Χ:=[]) rfl (Xo T) (Xp T) rfl nl0 nl0 nl0 nl0 (Xq T)) Gg ZeW (λvs M Q h=>?_) (λvs M Q h=>?_)
 ·obtain⟨n,a,x,y,rfl,_⟩:=h;rfl
 obtain⟨n,a,x,y,rfl,ha,n0,n1,q⟩:=h;show wSs _ _ _ [some (.int n),some (.ref a),none,none] M;obtain⟨z,hz,az⟩:∃z,(z=x\/z=y)/\atI [MV.str x,.str y] (n/8%2)=some (.str z):=by
  rcases(show n/8%2=0\/n/8%2=1 by lia)with e|e<;>rw[e]
  ·exact⟨x,.inl rfl,at0⟩
  ·exact⟨y,.inr rfl,at1⟩
 obtain⟨z',hz',az'⟩:∃z,(z=x\/z=y)/\atI [MV.str x,.str y] (n/224%2)=some (.str z):=by
  rcases(show n/224%2=0\/n/224%2=1 by lia)with e|e<;>rw[e]
  ·exact⟨x,.inl rfl,at0⟩
  ·exact⟨y,.inr rfl,at1⟩
 delta Gg Pl
 repeat (first|walk_at "s"|simp only[ha,az])
 delta Pk;walk_at "s";intro p hp;obtain⟨r,hr⟩:∃r:Int,atI [MV.int (n/16%7 - 3),MV.int (n/16*1000000007%100000000000000000000)] (n/112%2)=some (.int r):=by
  rcases(show n/112%2=0\/n/112%2=1 by lia)with e|e<;>rw[e]
  ·exact⟨_,at0⟩
  ·exact⟨_,at1⟩
 refine⟨_,hr,?_⟩;have s1:=SameM.new hp (.lst [MV.int (n/16%7 - 3),MV.int (n/16*1000000007%100000000000000000000)]);generalize updM M p _=M1 at*;have ha1:=s1 _ _ ha;have rd:∀u,u∈ [z]->u∈ [x,y]:=λu hu=>by
  rw[Ya.mp hu];rcases hz with rfl|rfl<;>simp
 delta Pj;walk_at "s";refine Yb (λ_=>?_) (λc2=>?_)
 ·delta Pi;walk_at "s";intro p2 hp2;have s2:=s1.trans (SameM.new hp2 (.lst [.tup [.str "var",.str z],.tup [.str "num",.int r]]));rcases(show n%2=0\/n%2=1 by lia)with e|e<;>rw[e]
  ·exact⟨_,at0,q (.var z) _ s2 ⟨by simp[Tm.depth],by simp[Tm.size],λu hu=>rd u hu⟩⟩
  ·exact⟨_,at1,q (.num r) _ s2 ⟨by simp[Tm.depth],by simp[Tm.size],λu hu=>by simp[Tm.reads]at hu⟩⟩
 delta Ph;walk_at "s";refine Yb (λc5=>?_) (λc5=>?_)
 ·delta Pg;walk_at "s";intro p2 hp2;have s2:=s1.trans (SameM.new hp2 (.lst [.str "plus",.str "minus",.str "times"]));have fin:∀f:Form,Q (.tup [.str f.str,.tup [.str "var",.str z],.tup [.str "num",.int r]]) (updM M1 p2 (.lst [.str "plus",.str "minus",.str "times"])):=fun f=>
   q (.two f (.var z) (.num r)) _ s2 ⟨by simp[Tm.depth],by simp[Tm.size],λu hu=>rd u (by simpa [Tm.reads]using hu)⟩
  rcases(show n%8 - 2=0\/n%8 - 2=1\/n%8 - 2=2 by lia)with e|e|e<;>rw[e]
  ·exact⟨_,at0,fin .plus⟩
  ·exact⟨_,at1,fin .minus⟩
  ·exact⟨_,at2,fin .times⟩
 delta Pf;walk_at "s";refine Yb (λ_=>?_) (λ_=>?_)
 ·delta Pe;walk_at "s";exact q (.pick (.two .less (.var z) (.num r)) (.num r) (.var z)) _ s1 ⟨by simp[Tm.depth],by simp[Tm.size],λu hu=>rd u (by simpa [Tm.reads]using hu)⟩
 ·delta Pd
  repeat (first|walk_at "s"|simp only[ha1,az'])
  refine q (.two .plus (.var z) (.var z')) _ s1 ⟨by simp[Tm.depth],by simp[Tm.size],λu hu=>?_⟩
  simp only[Tm.reads,Yk,Yd,Xr,XR,or_false]at hu;rcases hu with rfl|rfl
  ·rcases hz with rfl|rfl<;>simp
  ·rcases hz' with rfl|rfl<;>simp
theorem Rr{Φ:List (Str×SpM)}{own:List Str}{fr:List Nat}{src:ISr}{tg:ITg}{test elt:IE}{σ:Sm}{M:MH}{Q:QM}{α:Type}(xs:List α)(f g:α->MV)(b:α->Bool)
  (hs:wSr Φ src σ M λS M1=>S.items=xs.map f/\xs.length<sizeLine/\S.okF M1/\M1=M)
  (ht:∀x∈xs,∀M',SameM M M'->wTg tg (f x) (sCm own fr σ) λσ2=>wE Φ test σ2 M' λv M2=>v=.bl (b x)/\M2=M'/\(b x=true->wE Φ elt σ2 M' λy M2=>y=g x/\M2=M'))
  (hΦ:∀(j:Nat) f sp,Φ[j]?=some (f,sp)->MonW sp) (q:∀D,M D=none->Q (.ref D) (updM M D (.lst ((xs.filter b).map g)))):wE Φ (.comp own fr src tg (.some test) elt) σ M Q:=by
 rw[Af];refine mon_sr hΦ src (λS M1 ⟨h1,h2,h3,h4⟩=>?_) hs;subst h4;have hl:S.len=xs.length:=by rw[<- S.items_len,h1,Xa]
 refine⟨by rw[hl];exact h2,λD hD=>⟨λi ys M2=>M2=updM M1 D (.lst ys)/\ys=((xs.take i).filter b).map g,⟨rfl,by simp⟩,?_,?_,?_⟩⟩
 ·rintro i ys M2 ⟨rfl,rfl⟩;refine⟨X9,?_,?_⟩
  ·rw[Xa];have h1:=List.length_filter_le b (xs.take i);rw[YM]at h1;lia
  cases S with
  |tup _=>trivial
  |rng _ _=>trivial
  |rst _ _ _=>trivial
  |dic _ _ _=>exact h3.elim
  |str _=>trivial
  |lst a zs=>exact SameM.new hD _ _ _ h3
 ·rintro i x ys M2 hx ⟨rfl,rfl⟩;rw[h1]at hx;obtain⟨hi,rfl⟩:=YU hx;refine UK tg (λσ2 h=>?_) (ht xs[i] (Y1 hi) _ (SameM.new hD (.lst (((xs.take i).filter b).map g))));rw[wI];refine X7 hΦ test (λv M2 ⟨e1,e2,e3⟩=>?_) h;subst e1 e2;have et:xs.take (i+1)=xs.take i++[xs[i]]:=by rw[Ui,Xd hi];rfl
  refine⟨b xs[i],rfl,?_⟩;by_cases hb:b xs[i]=true
  ·rw[if_pos hb];refine X7 hΦ elt (λy M2 ⟨e1,e2⟩=>?_) (e3 hb);subst e1 e2;refine⟨X9,YJ,?_⟩;rw[et,List.filter_append,Y7,List.filter_cons_of_pos hb]
   rfl
  ·rw[if_neg hb];refine⟨rfl,?_⟩;rw[et,List.filter_append,Y7,List.filter_cons_of_neg hb];simp
 ·rintro ys M2 ⟨rfl,rfl⟩;rw[hl,VC (Xi _),Ag h3];exact q D hD
abbrev Bw:SpM:=λvs M Q=>∃(n:Int) (z:Str) (a f:Addr) (x y:Str) (F:List Fer) (m:Nat),vs=[.int n,.str z,.ref a,.ref f,.int m]/\M a=some (.lst [.str x,.str y])/\M f=some (.lst (F.map Fer.mv))/\F.length≤6/\0≤n/\n≤10^8/\m≤100/\(F.map (·.name)).Nodup/\
 ∀(S:Stp) M',SameM M M'->U8 (F.map (·.name)) [x,y] m S->U9 F z S->Q S.mv M'
theorem Zar:MonW Bw:=by walk_at "m"
theorem Rs{F:List Fer}(nd:(F.map (·.name)).Nodup){u v:Fer}(hu:u∈F)(hv:v∈F)(e:u.name=v.name):u=v:=by
 obtain⟨i,hi,rfl⟩:=Yc hu;obtain⟨j,hj,rfl⟩:=Yc hv;have:i=j:=by
  refine(BR (xs:=F.map (·.name)) (h₀:=by simpa using hi) (h₁:=by simpa using hj) nd).mp ?_
  rw[DP,DP];exact e
 subst this;rfl
theorem Rt{F:List Fer}{b:Fer->Bool}{i:Int}(h:F.filter b≠ []):∃v∈F,b v=true/\atI ((F.filter b).map λv=>MV.str v.name) (i%((F.filter b).length:Int))=some (.str v.name):=by
 have hl:0<(F.filter b).length:=DJ.mpr h;have h0:=ZW i (b:=((F.filter b).length:Int)) (by lia)
 have h1:=Um i (b:=((F.filter b).length:Int)) (by lia)
 obtain⟨j,hj⟩:∃j:Nat,i%((F.filter b).length:Int)=(j:Int):=⟨(i%((F.filter b).length:Int)).toNat,by lia⟩
 have hj2:j<(F.filter b).length:=by lia
 have hm:=Y1 hj2;rw[DR]at hm;refine⟨(F.filter b)[j],hm.1,hm.2,?_⟩;rw[hj];exact YI (by rw[Xw,Xd hj2];rfl)
theorem Zeo(T:Txt K mg t):FnOk P w K mg base CX0 2 t.f__law_step t.d__law_step ["number","name","names","ferries","many"] (liSp K Bw):=by
 refine T.q__law_step.F.okM Ze4 (Xn (P:=P) (w:=w) (K:=K) (mg:=mg) (base:=base) (k:=1) (G:=Pw) (Φ:=[("_law_term",Vp)]) (Ψ:=[]) (Χ:=[("_law_term",Vp)]) rfl (Xo T) (Xp T) rfl (fMc ⟨Rq,nl0⟩) (fMc ⟨⟨_,_,_,(FnOk.mono (Zen T) (by decide)),T.q__law_term.m,T.q__law_term.F.kp,T.q__law_term.b⟩,nl0⟩) nl0 nl0 (Xq T)) Gj ZeX (fun vs M Q h=>?_) (fun vs M Q h=>?_)
 ·obtain⟨n,z,a,f,x,y,F,m,rfl,_⟩:=h;rfl
 obtain⟨n,z,a,f,x,y,F,m,rfl,ha,hf,h6,n0,n1,hm,nd,q⟩:=h;show wSs _ _ _ [some (.int n),some (.str z),some (.ref a),some (.ref f),some (.int m),none,none,none] M;have hΦ:=(UM (Φ:=[("_law_term",Vp)]) (fMc ⟨Rq,nl0⟩));delta Gj Pv;walk_at "s";refine Rr F Fer.mv (λv=>.str v.name) (λv=>decide (v.taker=z)) ?_ ?_ hΦ λD1 hD1=>?_
 ·repeat (first|walk_at "s"|simp only[hf])
  exact⟨rfl,by lia,hf⟩
 ·intro v hv M' s;simp only[sCm,XD,Yf,Ys,Yt,Yk,Yd]
  repeat (first|walk_at "s"|simp only[Fer.mv])
  try simp
 have s1:=SameM.new hD1 (.lst ((F.filter λv=>decide (v.taker=z)).map λv=>MV.str v.name));have d1:updM M D1 (.lst ((F.filter λv=>decide (v.taker=z)).map λv=>MV.str v.name)) D1=some (.lst ((F.filter λv=>decide (v.taker=z)).map λv=>MV.str v.name)):=X9;generalize updM M D1 _=M1 at*;have hf1:=s1 _ _ hf;delta Pu;walk_at "s";refine Rr F Fer.mv (λv=>.str v.name) (λv=>decide (v.giver=z)) ?_ ?_ hΦ λD2 hD2=>?_
 ·repeat (first|walk_at "s"|simp only[hf1])
  exact⟨rfl,by lia,hf1⟩
 ·intro v hv M' s;simp only[sCm,XD,Yf,Ys,Yt,Yk,Yd]
  repeat (first|walk_at "s"|simp only[Fer.mv])
  try simp
 have s2:=SameM.new hD2 (.lst ((F.filter λv=>decide (v.giver=z)).map λv=>MV.str v.name));have d2:updM M1 D2 (.lst ((F.filter λv=>decide (v.giver=z)).map λv=>MV.str v.name)) D2=some (.lst ((F.filter λv=>decide (v.giver=z)).map λv=>MV.str v.name)):=X9;generalize updM M1 D2 _=M2 at*;have d12:=s2 _ _ d1;have ss:=s1.trans s2;have ha2:=ss _ _ ha;delta Pt;walk_at "s";have last:∀M3,SameM M2 M3->wSs ([("_law_term",Vp)]:List (Str×SpM)) Gh {nx:=fun x M'=>Q MV.non M',rt:=Q} [some (.int n),some (.str z),some (.ref a),some (.ref f),some (.int m),some (.ref D1),some (.ref D2),some (.int (n/128))] M3:=by
  intro M3 s3;have ha3:=s3 _ _ ha2;have st:=ss.trans s3;delta Gh;walk_at "s";refine Yb (λ_=>?_) (λ_=>?_)
  ·delta Pp;walk_at "s";refine⟨n/128,a,x,y,rfl,ha3,by lia,by lia,λU M4 s4 hU=>?_⟩
   walk_at "s";have hp:(0:Int)<(m:Int)+1:=by lia
   exact⟨hp,q (.jump U (n/8%(m+1))) M4 (st.trans s4) ⟨hU,ZW _ (by lia),by have:=Um (n/8) hp;lia⟩ trivial⟩
  ·delta Po;obtain⟨u,hu,au⟩:∃u,u∈ [x,y]/\atI [MV.str x,.str y] (n/8%2)=some (.str u):=by
    rcases(show n/8%2=0\/n/8%2=1 by lia)with e|e<;>rw[e]
    ·exact⟨x,by simp,at0⟩
    ·exact⟨y,by simp,at1⟩
   repeat (first|walk_at "s"|simp only[ha3,au])
   refine⟨n/128,a,x,y,rfl,ha3,by lia,by lia,λU M4 s4 hU=>?_⟩
   try walk_at "s"
   exact q (.put u U) M4 (st.trans s4) ⟨hu,hU⟩ trivial
 have mid:∀M3,SameM M2 M3->wSs ([("_law_term",Vp)]:List (Str×SpM)) Gi {nx:=fun x M'=>Q MV.non M',rt:=Q} [some (.int n),some (.str z),some (.ref a),some (.ref f),some (.int m),some (.ref D1),some (.ref D2),some (.int (n/128))] M3:=by
  intro M3 s3;delta Gi;walk_at "s";refine Yb (λ_=>?_) (λ_=>last M3 s3);intro p hp;have s4:=s3.trans (SameM.new hp (.lst []));have p4:updM M3 p (.lst []) p=some (.lst []):=X9;generalize updM M3 p _=M4 at*;have d4:=s4 _ _ d2;have ha4:=s4 _ _ ha2;refine EU d4 p4 ?_;by_cases hn:(F.filter λv=>decide (v.giver=z))=[]
  ·rw[hn];exact last M4 s4
  ·have he:((F.filter λv=>decide (v.giver=z)).map λv=>MV.str v.name).isEmpty=false:=by
    cases e:F.filter λv=>decide (v.giver=z)with
    |nil=>exact absurd e hn
    |cons _ _=>rfl
   rw[he,if_pos rfl];delta Pq;obtain⟨v,hv,hb,av⟩:=Rt (i:=n/8) hn;have hl:0<(F.filter λv=>decide (v.giver=z)).length:=DJ.mpr hn
   repeat (first|walk_at "s"|simp only[d4,Xa,av])
   refine⟨by lia,?_⟩
   try repeat (first|walk_at "s"|simp only[av])
   refine⟨n/128,a,x,y,rfl,ha4,by lia,by lia,λU M5 s5 hU=>?_⟩
   try walk_at "s"
   refine q (.give v.name U) M5 ((ss.trans s4).trans s5) ⟨XY.mpr ⟨v,hv,rfl⟩,hU⟩ (λu hu e=>?_);rw[Rs nd hu hv e];exact of_decide_eq_true hb
 delta Ps;walk_at "s";refine Yb (λ_=>?_) (λ_=>mid M2 (SameM.refl _));intro p hp;have s4:=SameM.new hp (.lst []);have p4:updM M2 p (.lst []) p=some (.lst []):=X9;generalize updM M2 p _=M4 at*;have d4:=s4 _ _ d12;have ha4:=s4 _ _ ha2;refine EU d4 p4 ?_;by_cases hn:(F.filter λv=>decide (v.taker=z))=[]
 ·rw[hn];exact mid M4 s4
 ·have he:((F.filter λv=>decide (v.taker=z)).map λv=>MV.str v.name).isEmpty=false:=by
   cases e:F.filter λv=>decide (v.taker=z)with
   |nil=>exact absurd e hn
   |cons _ _=>rfl
  rw[he,if_pos rfl];delta Pr;obtain⟨v,hv,hb,av⟩:=Rt (i:=n/8) hn;have hl:0<(F.filter λv=>decide (v.taker=z)).length:=DJ.mpr hn;obtain⟨u,hu,au⟩:∃u,u∈ [x,y]/\atI [MV.str x,.str y] (n/128%2)=some (.str u):=by
   rcases(show n/128%2=0\/n/128%2=1 by lia)with e|e<;>rw[e]
   ·exact⟨x,by simp,at0⟩
   ·exact⟨y,by simp,at1⟩
  repeat (first|walk_at "s"|simp only[d4,Xa,av,ha4,au])
  refine⟨by lia,?_⟩
  try repeat (first|walk_at "s"|simp only[av,ha4,au])
  refine q (.take v.name u) M4 (ss.trans s4) ⟨XY.mpr ⟨v,hv,rfl⟩,hu⟩ (λu' hu' e=>?_);rw[Rs nd hu' hv e];exact of_decide_eq_true hb
abbrev DB:SpM:=λvs M Q=>∃(n nm ar:Int) (k:Nat) (f:Addr) (F:List Fer),vs=[.int n,.int k,.int nm,.ref f,.int ar]/\M f=some (.lst (F.map Fer.mv))/\F.length≤6/\(F.map (·.name)).Nodup/\0≤n/\n≤10^60/\k≤4/\
 ∀(I:Isl) (a b:Addr) M',SameM M M'->M a=none->M b=none->a≠b->M' a=some (.lst (I.prs.map prV))->M' b=some (.lst (I.stps.map Stp.mv))->I.name=YW nm k->(∀w,1≤w->IslOk w (F.map (·.name)) I)->(∀s∈I.stps,U9 F I.name s)->Q (.tup [.str I.name,.ref a,.ref b]) M'
theorem Z8l:MonW DB:=by walk_at "m"
theorem Zc7(T:Txt K mg t):FnOk P w K mg base CX0 3 t.f__law_island t.d__law_island ["number","k","naming","ferries","around"] (liSp K DB):=by
 refine T.q__law_island.F.okM Zc1 (Xn (P:=P) (w:=w) (K:=K) (mg:=mg) (base:=base) (k:=2) (G:=PN) (Φ:=[("_law_name",Vo),("_law_step",Bw)]) (Ψ:=[]) (Χ:=[("_law_name",Vo),("_law_step",Bw)]) rfl (Xo T) (Xp T) rfl (fMc ⟨Rn,(fMc ⟨Zar,nl0⟩)⟩) (fMc ⟨⟨_,_,_,(FnOk.mono (Ro T) (by decide)),T.q__law_name.m,T.q__law_name.F.kp,T.q__law_name.b⟩,(fMc ⟨⟨_,_,_,(FnOk.mono (Zeo T) (by decide)),T.q__law_step.m,T.q__law_step.F.kp,T.q__law_step.b⟩,nl0⟩)⟩) nl0 nl0 (Xq T)) Gm Zcn (fun vs M Q h=>?_) (fun vs M Q h=>?_)
 ·obtain⟨n,nm,ar,k,f,F,rfl,_⟩:=h;rfl
 obtain⟨n,nm,ar,k,f,F,rfl,hf,h6,nd,n0,n1,hk,q⟩:=h;show wSs _ _ _ [some (.int n),some (.int k),some (.int nm),some (.ref f),some (.int ar),none,none,none,none,none,none,none] M;delta Gm PM;walk_at "s";refine⟨nm,k,rfl,by lia,by lia,?_⟩
 obtain⟨z,hz⟩:∃z,YW nm k=z:=⟨_,rfl⟩;rw[hz]at q ⊢;delta PL;walk_at "s";refine⟨nm,9,rfl,by lia,by lia,?_⟩
 refine⟨nm,10,rfl,by lia,by lia,?_⟩
 walk_at "s";intro pn hpn;obtain⟨x,hx⟩:∃x,YW nm 9=x:=⟨_,rfl⟩;obtain⟨y,hy⟩:∃y,YW nm 10=y:=⟨_,rfl⟩;have gx:ZL x:=hx▸DA (by decide) (by decide)
 have gy:ZL y:=hy▸DA (by decide) (by decide)
 have xy:x≠y:=λe=>by
  have:=Bv (n:=nm) (k:=9) (k':=10) (by decide) (by decide) (by decide) (by decide) (by rw[hx,hy];exact e)
  lia
 rw[hx,hy];have s1:=SameM.new hpn (.lst [.str x,.str y]);have a1:updM M pn (.lst [.str x,.str y]) pn=some (.lst [.str x,.str y]):=X9;generalize updM M pn _=M1 at*;delta PK
 repeat (first|walk_at "s"|simp only[a1])
 intro pp hpp;have s2:=SameM.new hpp (.lst [.tup [.str x,.int (n%2)],.tup [.str y,.int (n/2%2)]]);have b2:updM M1 pp (.lst [.tup [.str x,.int (n%2)],.tup [.str y,.int (n/2%2)]]) pp=some (.lst ([(x,n%2),(y,n/2%2)].map prV)):=X9;generalize updM M1 pp _=M2 at*;have a2:=s2 _ _ a1;have fpp:=s1.free hpp;delta PJ;walk_at "s";obtain⟨m,hm,hm7⟩:∃m:Nat,n/4%7=(m:Int)/\m<7:=⟨(n/4%7).toNat,by lia,by lia⟩
 rw[hm];delta PH;walk_at "s";obtain⟨en,hen,hen2⟩:∃en:Nat,(if n/28%4<ar then(1:Int)else 0)=(en:Int)/\en≤1:=by
  by_cases c:n/28%4<ar
  ·exact⟨1,by rw[if_pos c];rfl,by decide⟩
  ·exact⟨0,by rw[if_neg c];rfl,by decide⟩
 rw[hen];delta PF;walk_at "s";delta PD;walk_at "s";intro ps hps;have s3:=SameM.new hps (.lst []);have c3:updM M2 ps (.lst []) ps=some (.lst []):=X9;have fps:=(s1.trans s2).free hps;have pps:=neM b2 hps;have old:∀a o,M2 a=some o->a≠ps:=λa o h=>neM h hps;generalize updM M2 ps _=M3 at*;delta PC;walk_at "s";obtain⟨J,hJ⟩:∃J:Nat->Sm->MH->Prop,∀j σ M',J j σ M'↔∃(n':Int) (Ss:List Stp) (v:Option MV),σ=[some (.int n'),some (.int k),some (.int nm),some (.ref f),some (.int ar),some (.str z),some (.ref pn),some (.ref pp),some (.int m),some (.int en),some (.ref ps),v]/\0≤n'/\Ss.length=j/\SameM M2 M'/\M' ps=some (.lst (Ss.map Stp.mv))/\(∀S∈Ss,U8 (F.map (·.name)) [x,y] (m+en) S/\U9 F z S):=⟨_,λ_ _ _=>Yn⟩;refine⟨by lia,by lia,J,(hJ _ _ _).mpr ⟨n/112,[],_,rfl,by lia,rfl,s3,c3,λS hS=>nomatch hS⟩,λ_ _ _ _=>trivial,?_,?_⟩
 ·rintro j u σ M' hu h;obtain⟨n',Ss,v,rfl,p0,hl,s4,c4,hS⟩:=(hJ _ _ _).mp h;obtain⟨hj,rfl⟩:=Bh hu;delta PB
  repeat (first|walk_at "s"|simp only[c4])
  refine⟨⟨_,rfl⟩,n'%100000000,z,pn,f,x,y,F,m+en,rfl,s4 _ _ a2,s4 _ _ (s2 _ _ (s1 _ _ hf)),h6,by lia,by lia,by lia,nd,λS M5 s5 hS1 hS2=>?_⟩
  have c5:=s5 _ _ c4
  repeat (first|walk_at "s"|simp only[c5,Xa])
  refine⟨by lia,?_⟩
  delta Pz;walk_at "s";refine(hJ _ _ _).mpr ⟨n'/100000000,Ss++[S],_,rfl,by lia,by simp[hl],λa o h=>by rw[Xc (old a o h)];exact s5 _ _ (s4 _ _ h),by rw[X9,Y7];rfl,λS' hS'=>?_⟩
  rcases YN.mp hS' with h'|h'
  ·exact hS _ h'
  ·rw[Ya.mp h'];exact⟨hS1,hS2⟩
 ·rintro σ M' h;obtain⟨n',Ss,v,rfl,p0,hl,s4,c4,hS⟩:=(hJ _ _ _).mp h;have hl:Ss.length=m:=hl;have fin:∀(M5:MH) (Ss:List Stp) (v:Option MV),SameM M2 M5->M5 ps=some (.lst (Ss.map Stp.mv))->Ss.length=m+en->(∀S∈Ss,U8 (F.map (·.name)) [x,y] (m+en) S/\U9 F z S)->wSs ([("_law_name",Vo),("_law_step",Bw)]:List (Str×SpM)) Gk {nx:=fun x M'=>Q MV.non M',rt:=Q} [some (.int n'),some (.int k),some (.int nm),some (.ref f),some (.int ar),some (.str z),some (.ref pn),some (.ref pp),some (.int m),some (.int en),some (.ref ps),v] M5:=by
   intro M5 Ss v s5 c5 hl5 hS5;delta Gk;walk_at "s";refine q ⟨z,[(x,n%2),(y,n/2%2)],Ss⟩ pp ps M5 ((s1.trans s2).trans s5) fpp fps pps (s5 _ _ b2) c5 rfl (λw hw=>?_) (λS hS=>(hS5 S hS).2);refine⟨by simp,?_,?_,?_,?_,?_⟩
   ·show Ss.length≤12;lia
   ·show [x,y].Nodup;simp[xy]
   ·intro u hu;have hu:u∈ [x,y]:=hu;simp only[Xr,XR,or_false]at hu;rcases hu with rfl|rfl
    ·exact gx
    ·exact gy
   ·intro p hp;have:=Qo hw;have hp:p∈ [(x,n%2),(y,n/2%2)]:=hp;simp only[Xr,XR,or_false]at hp;rcases hp with rfl|rfl
    ·exact⟨by show 0≤n%2;lia,by show n%2<_;lia⟩
    ·exact⟨by show 0≤n/2%2;lia,by show n/2%2<_;lia⟩
   ·intro S hS;show U8 _ [x,y] Ss.length S;rw[hl5];exact(hS5 S hS).1
  delta Py;walk_at "s";refine Yb (λc=>?_) (λc=>?_)
  ·delta Px
   repeat (first|walk_at "s"|simp only[c4,Xa])
   have e1:en=1:=by lia
   refine⟨⟨_,rfl⟩,by lia,fin _ (Ss++[.jump (.num 1) 0]) _ (λa o h=>by rw[Xc (old a o h)];exact s4 _ _ h) (by rw[X9,Y7];rfl) (by simp;lia) λS' hS'=>?_⟩
   rcases YN.mp hS' with h'|h'
   ·exact hS _ h'
   ·rw[Ya.mp h'];exact⟨⟨⟨by simp[Tm.depth],by simp[Tm.size],λu hu=>by simp[Tm.reads]at hu⟩,by lia,by lia⟩,trivial⟩
  ·exact fin M' Ss _ s4 c4 (by lia) hS
structure IslsNew (M0 M:MH) (Is:List Isl) (ys:List MV):Prop where
 len:ys.length=Is.length
 at_:∀(i:Nat) (I:Isl) (y:MV),Is[i]?=some I->ys[i]?=some y->∃a b,y=.tup [.str I.name,.ref a,.ref b]/\M0 a=none/\M0 b=none/\M a=some (.lst (I.prs.map prV))/\M b=some (.lst (I.stps.map Stp.mv))
theorem IslsNew.inn{M0 M:MH}{Is:List Isl}{ys:List MV}(h:IslsNew M0 M Is ys):IslsIn M Is ys:=⟨h.len,λi I y a b=>by
 obtain⟨c,d,e,_,_,h1,h2⟩:=h.at_ i I y a b;exact⟨c,d,e,h1,h2⟩⟩
theorem IslsNew.keep{M0 M M':MH}{Is:List Isl}{ys:List MV}(h:IslsNew M0 M Is ys)(s:∀a o,M a=some o->M0 a=none->M' a=some o):IslsNew M0 M' Is ys:=⟨h.len,λi I y a b=>by
 obtain⟨c,d,e,n1,n2,h1,h2⟩:=h.at_ i I y a b;exact⟨c,d,e,n1,n2,s _ _ h1 n1,s _ _ h2 n2⟩⟩
theorem Ru{α:Type}{v y:α}{xs:List α}{i:Nat}(h:(xs++[v])[i]?=some y):xs[i]?=some y\/(i=xs.length/\y=v):=by
 rw[List.getElem?_append]at h;split at h
 ·exact .inl h
 ·rename_i e
  obtain⟨d,hd⟩:∃d,i - xs.length=d:=⟨_,rfl⟩;rw[hd]at h;cases d with
  |zero=>simp at h;exact .inr ⟨by lia,h.symm⟩
  |succ d=>simp at h
theorem IslsNew.add{M0 M:MH}{Is:List Isl}{ys:List MV}(h:IslsNew M0 M Is ys){I:Isl}{a b:Addr}(n1:M0 a=none)(n2:M0 b=none)(h1:M a=some (.lst (I.prs.map prV)))(h2:M b=some (.lst (I.stps.map Stp.mv))):IslsNew M0 M (Is++[I]) (ys++[.tup [.str I.name,.ref a,.ref b]]):=by
 refine⟨by simp[h.len],λi J y hJ hy=>?_⟩
 have l:=h.len;rcases Ru hJ with hJ'|⟨e1,rfl⟩<;>rcases Ru hy with hy'|⟨e2,rfl⟩
 ·exact h.at_ i J y hJ' hy'
 ·have:=(XV.mp hJ').1;lia
 ·have:=(XV.mp hy').1;lia
 ·exact⟨a,b,rfl,n1,n2,h1,h2⟩
def fnm(nm:Int)(i:Nat):Str:=YW nm (5+(i:Int))
def inm(nm:Int)(i:Nat):Str:=YW nm (i:Int)
theorem Rv{f:Nat->Str}{n:Nat}(h:∀a b,a<n->b<n->f a=f b->a=b):((Xx n).map f).Nodup:=by
 unfold List.Nodup;rw[List.pairwise_map];exact List.Pairwise.imp_of_mem (λha hb ne e=>ne (h _ _ (Zg.mp ha) (Zg.mp hb) e)) List.nodup_range
abbrev Bx:SpM:=λvs M Q=>∃(ns:List Int) (ar:Int),vs=[.frl (ns.map .int),.int ar]/\
 ∀(W:Wld) (pi pf:Addr) (ys:List MV) M',SameM M M'->W.Good->1≤W.isl.length->M pi=none->M pf=none->pi≠pf->M' pi=some (.lst ys)->IslsIn M' W.isl ys->M' pf=some (.lst (W.fer.map Fer.mv))->Q (.tup [.int W.w,.ref pi,.ref pf]) M'
theorem Rw:MonW Bx:=by walk_at "m"
theorem Zc6(T:Txt K mg t):FnOk P w K mg base CX0 4 t.f__law_things t.d__law_things ["script","around"] (liSp K Bx):=by
 refine T.q__law_things.F.okM Zc0 (Xn (P:=P) (w:=w) (K:=K) (mg:=mg) (base:=base) (k:=3) (G:=Q7) (Φ:=[("_law_cell_at",Dy),("_law_island",DB),("_law_name",Vo)]) (Ψ:=[]) (Χ:=[("_law_cell_at",Dy),("_law_island",DB),("_law_name",Vo)]) rfl (Xo T) (Xp T) rfl (fMc ⟨Z7S,(fMc ⟨Z8l,(fMc ⟨Rn,nl0⟩)⟩)⟩) (fMc ⟨⟨_,_,_,(FnOk.mono (Zb4 T) (by decide)),T.q__law_cell_at.m,T.q__law_cell_at.F.kp,T.q__law_cell_at.b⟩,(fMc ⟨⟨_,_,_,(FnOk.mono (Zc7 T) (by decide)),T.q__law_island.m,T.q__law_island.F.kp,T.q__law_island.b⟩,(fMc ⟨⟨_,_,_,(FnOk.mono (Ro T) (by decide)),T.q__law_name.m,T.q__law_name.F.kp,T.q__law_name.b⟩,nl0⟩)⟩)⟩) nl0 nl0 (Xq T)) Gn Zcm (fun vs M Q h=>?_) (fun vs M Q h=>?_)
 ·obtain⟨ns,ar,rfl,_⟩:=h;rfl
 obtain⟨ns,ar,rfl,q⟩:=h;show wSs _ _ _ [some (.frl (ns.map .int)),some (.int ar),none,none,none,none,none,none,none,none,none,none,none] M;delta Gn Q6;walk_at "s";refine⟨ns,0,rfl,?_⟩;walk_at "s";delta Q5;walk_at "s";refine⟨ns,1,rfl,?_⟩;walk_at "s";obtain⟨hd,hhd,hd0⟩:∃hd:Int,ns.getD 0 0%1000000000=hd/\0≤hd:=⟨_,rfl,by lia⟩
 obtain⟨nm,hnm⟩:∃nm:Int,ns.getD 1 0%1000000000=nm:=⟨_,rfl⟩;rw[hhd,hnm];delta Q4;walk_at "s";intro p0 hp0;obtain⟨w,hw,w1,w2⟩:∃w:Nat,atI [MV.int (1+hd/16%64),MV.int (1+hd/16%5)] (hd/1024%2)=some (.int w)/\1≤w/\w≤64:=by
  rcases(show hd/1024%2=0\/hd/1024%2=1 by lia)with e|e<;>rw[e]
  ·refine⟨(1+hd/16%64).toNat,?_,by lia,by lia⟩
   rw[UG (by lia)];exact at0
  ·refine⟨(1+hd/16%5).toNat,?_,by lia,by lia⟩
   rw[UG (by lia)];exact at1
 refine⟨_,hw,?_⟩;have s0:=SameM.new hp0 (.lst [MV.int (1+hd/16%64),MV.int (1+hd/16%5)]);generalize updM M p0 _=M0 at*;obtain⟨my,hmy,my1,my5⟩:∃my:Nat,1+hd%5=(my:Int)/\1≤my/\my≤5:=⟨(1+hd%5).toNat,by lia,by lia,by lia⟩
 delta Q3;walk_at "s";rw[hmy];delta Q2;walk_at "s";intro pf hpf;have s1:=SameM.new hpf (.lst []);have f1:updM M0 pf (.lst []) pf=some (.lst []):=X9;have fpf:=s0.free hpf;have old:∀a o,M0 a=some o->a≠pf:=λa o h=>neM h hpf;generalize updM M0 pf _=M1 at*;delta Q1;walk_at "s";obtain⟨cn,hcn,cn6,cn1⟩:∃cn:Nat,(if hd/2048%7<6*(my:Int) - 6 then hd/2048%7 else 6*(my:Int) - 6)=(cn:Int)/\cn≤6/\(1≤cn->2≤my):=by
  by_cases c:hd/2048%7<6*(my:Int) - 6
  ·exact⟨(hd/2048%7).toNat,by rw[if_pos c];lia,by lia,by lia⟩
  ·exact⟨(6*(my:Int) - 6).toNat,by rw[if_neg c];lia,by lia,by lia⟩
 rw[hcn,YQ];obtain⟨J,hJ⟩:∃J:Nat->Sm->MH->Prop,∀j σ M',J j σ M'↔∃(Fs:List Fer) (v7 v8 v9 v10 v11:Option MV),σ=[some (.frl (ns.map .int)),some (.int ar),some (.int hd),some (.int nm),some (.int w),some (.int my),some (.ref pf),v7,v8,v9,v10,v11,none]/\Fs.map (·.name)=(Xx j).map (fnm nm)/\SameM M0 M'/\M' pf=some (.lst (Fs.map Fer.mv))/\(∀F∈Fs,FerOk ((Xx my).map (inm nm)) F):=⟨_,λ_ _ _=>Yn⟩;refine⟨by lia,by lia,J,(hJ _ _ _).mpr ⟨[],_,_,_,_,_,rfl,rfl,s1,f1,λF hF=>nomatch hF⟩,λ_ _ _ _=>trivial,?_,?_⟩
 ·rintro j u σ M' hu h;obtain⟨Fs,v7,v8,v9,v10,v11,rfl,hN,s2,f2,hF⟩:=(hJ _ _ _).mp h;obtain⟨hj,rfl⟩:=Bh hu;have my2:=cn1 (by lia)
  have hl:Fs.length=j:=by have:=congrArg WF hN;simpa using this
  rw[WL];delta Q0;obtain⟨c,hc⟩:∃c:Nat,2+(j:Int)%4=(c:Int):=⟨(2+(j:Int)%4).toNat,by lia⟩
  repeat (first|walk_at "s"|simp only[hc])
  refine⟨ns,c,rfl,?_⟩;walk_at "s";intro p1 hp1;obtain⟨dv,hdv,dv0⟩:∃dv:Int,atI [MV.int 1,MV.int 1000000] ((j:Int)/4)=some (.int dv)/\(dv=1\/dv=1000000):=by
   rcases(show(j:Int)/4=0\/(j:Int)/4=1 by lia)with e|e<;>rw[e]
   ·exact⟨1,at0,.inl rfl⟩
   ·exact⟨1000000,at1,.inr rfl⟩
  refine⟨_,hdv,?_⟩;have s3:=s2.trans (SameM.new hp1 (.lst [MV.int 1,MV.int 1000000]));have f3:=SameM.new hp1 (.lst [MV.int 1,MV.int 1000000]) _ _ f2;generalize updM M' p1 _=M3 at*;walk_at "s";obtain⟨nb,hnb,nb0⟩:∃nb:Int,ns.getD c 0%1000000000000000/dv=nb/\0≤nb:=by
   refine⟨_,rfl,?_⟩;rcases dv0 with rfl|rfl<;>lia
  rw[hnb];refine⟨by rcases dv0 with rfl|rfl<;>decide,?_⟩
  delta PZ;walk_at "s";have gp:(0:Int)<(my:Int):=by lia
  refine⟨gp,?_⟩;obtain⟨g,hg,hg2⟩:∃g:Nat,nb%(my:Int)=(g:Int)/\g<my:=by
   have h0:=ZW nb (b:=(my:Int)) (by lia)
   have h1:=Um nb gp;exact⟨(nb%(my:Int)).toNat,by lia,by lia⟩
  rw[hg];delta PY;walk_at "s";have gp1:(0:Int)<(my:Int) - 1:=by lia
  refine⟨gp1,gp,?_⟩;obtain⟨tk,ht,ht2,ht3⟩:∃tk:Nat,((g:Int)+1+nb/5%((my:Int) - 1))%(my:Int)=(tk:Int)/\tk<my/\tk≠g:=by
   have r0:=ZW (nb/5) (b:=(my:Int) - 1) (by lia)
   have r1:=Um (nb/5) gp1;obtain⟨r,hr⟩:∃r,nb/5%((my:Int) - 1)=r:=⟨_,rfl⟩;rw[hr]at r0 r1 ⊢;have h0:=ZW ((g:Int)+1+r) (b:=(my:Int)) (by lia)
   have h1:=Um ((g:Int)+1+r) gp;refine⟨(((g:Int)+1+r)%(my:Int)).toNat,by lia,by lia,λe=>?_⟩
   have e2:((g:Int)+1+r)%(my:Int)=(g:Int):=by lia
   rcases(show my=2\/my=3\/my=4\/my=5 by lia)with rfl|rfl|rfl|rfl<;>lia
  rw[ht];delta PX;walk_at "s";refine⟨nm,g,rfl,by lia,by lia,?_⟩
  refine⟨nm,tk,rfl,by lia,by lia,?_⟩
  try walk_at "s"
  delta PV
  repeat (first|walk_at "s"|simp only[f3])
  refine⟨⟨_,rfl⟩,nm,5+(j:Int),rfl,by lia,by lia,?_⟩
  obtain⟨kk,hkk,kk3⟩:∃kk:Nat,nb/20%4=(kk:Int)/\kk≤3:=⟨(nb/20%4).toNat,by lia,by lia⟩
  obtain⟨st,hst,st1,st3⟩:∃st:Nat,1+nb/80%3=(st:Int)/\1≤st/\st≤3:=⟨(1+nb/80%3).toNat,by lia,by lia,by lia⟩
  repeat (first|walk_at "s"|simp only[f3,hkk,hst,Xa])
  refine⟨by lia,(hJ _ _ _).mpr ⟨Fs++[⟨fnm nm j,inm nm g,inm nm tk,kk,st⟩],_,_,_,_,_,rfl,?_,λa o h=>by rw[Xc (old a o h)];exact s3 _ _ h,by rw[X9,Y7];rfl,λF hF'=>?_⟩⟩
  ·rw[Y7,hN,List.range_succ,Y7];rfl
  ·rcases YN.mp hF' with h'|h'
   ·exact hF _ h'
   ·rw[Ya.mp h'];refine⟨XY.mpr ⟨g,Zg.mpr hg2,rfl⟩,XY.mpr ⟨tk,Zg.mpr ht2,rfl⟩,λe=>?_,kk3,st1,st3⟩;have:=Bv (n:=nm) (k:=(g:Int)) (k':=(tk:Int)) (by lia) (by lia) (by lia) (by lia) e
    lia
 ·rintro σ M2 h;obtain⟨Fs,v7,v8,v9,v10,v11,rfl,hN,s2,f2,hF⟩:=(hJ _ _ _).mp h;have hN:Fs.map (·.name)=(Xx cn).map (fnm nm):=hN;have hl:Fs.length=cn:=by have:=congrArg WF hN;simpa using this
  have ndF:(Fs.map (·.name)).Nodup:=by
   rw[hN];refine Rv λa b ha hb e=>?_;have:=Bv (n:=nm) (k:=5+(a:Int)) (k':=5+(b:Int)) (by lia) (by lia) (by lia) (by lia) e
   lia
  clear hJ h;delta PU;walk_at "s";intro pi hpi;have s3:=SameM.new hpi (.lst []);have i3:updM M2 pi (.lst []) pi=some (.lst []):=X9;have fpi:=(s0.trans s2).free hpi;have ipf:=(neM f2 hpi).symm;have old2:∀a o,M2 a=some o->a≠pi:=λa o h=>neM h hpi;have only:∀a o,updM M2 pi (.lst []) a=some o->a≠pi->M2 a=some o:=λa o h n=>by rw[Xc n]at h;exact h
  generalize updM M2 pi _=M3 at*;delta PR;walk_at "s";obtain⟨J,hJ⟩:∃J:Nat->Sm->MH->Prop,∀j σ M',J j σ M'↔∃(Is:List Isl) (ys:List MV) (v7:Option MV),σ=[some (.frl (ns.map .int)),some (.int ar),some (.int hd),some (.int nm),some (.int w),some (.int my),some (.ref pf),v7,v8,v9,v10,v11,some (.ref pi)]/\Is.map (·.name)=(Xx j).map (inm nm)/\SameM M2 M'/\M' pi=some (.lst ys)/\IslsNew M3 M' Is ys/\(∀I∈Is,IslOk w (Fs.map (·.name)) I/\∀s∈I.stps,U9 Fs I.name s):=⟨_,λ_ _ _=>Yn⟩;refine⟨by lia,by lia,J,(hJ _ _ _).mpr ⟨[],[],_,rfl,rfl,s3,i3,⟨rfl,λi I y hI=>by simp at hI⟩,λI hI=>nomatch hI⟩,λ_ _ _ _=>trivial,?_,?_⟩
  ·rintro j u σ M4 hu h;obtain⟨Is,ys,v7,rfl,hNI,s4,i4,hI,hO⟩:=(hJ _ _ _).mp h;obtain⟨hj,rfl⟩:=Bh hu;have hlI:Is.length=j:=by have:=congrArg WF hNI;simpa using this
   have hly:=hI.len;rw[WL];delta PQ;obtain⟨c,hc⟩:∃c:Nat,6+(j:Int)=(c:Int):=⟨6+j,by lia⟩
   repeat (first|walk_at "s"|simp only[i4,hc])
   refine⟨⟨_,rfl⟩,ns,c,rfl,?_⟩;walk_at "s";refine⟨ns.getD c 0%1000000000000000000000000000000000000000000000000000000000000,nm,ar,j,pf,Fs,rfl,s4 _ _ f2,by lia,ndF,by lia,by lia,by lia,λI a b M5 s5 na nb nab ha hb hn hok hen=>?_⟩
   have i5:=s5 _ _ i4
   repeat (first|walk_at "s"|simp only[i5])
   have bk:∀x,M4 x=none->M3 x=none:=λx hx=>by
    cases e:M3 x with
    |none=>rfl
    |some v=>
     by_cases hx2:x=pi
     ·subst hx2;rw[i4]at hx;cases hx
     ·rw[s4 _ _ (only _ _ e hx2)]at hx;cases hx
   refine⟨by lia,(hJ _ _ _).mpr ⟨Is++[I],ys++[.tup [.str I.name,.ref a,.ref b]],_,rfl,?_,λa o h=>by rw[Xc (old2 a o h)];exact s5 _ _ (s4 _ _ h),X9,?_,?_⟩⟩
   ·rw[Y7,hNI,List.range_succ,Y7];show _++[I.name]=_;rw[hn];rfl
   ·have h3:∀x o,M5 x=some o->M3 x=none->updM M5 pi (.lst (ys++[.tup [.str I.name,.ref a,.ref b]])) x=some o:=λx o h n=>by
     rw[Xc (λe=>by subst e;rw[i3]at n;cases n)];exact h
    have hI5:=hI.keep (M':=updM M5 pi (.lst (ys++[.tup [.str I.name,.ref a,.ref b]]))) λx o h n=>h3 x o (s5 _ _ h) n;exact hI5.add (bk _ na) (bk _ nb) (h3 _ _ ha (bk _ na)) (h3 _ _ hb (bk _ nb))
   ·intro I' hI';rcases YN.mp hI' with h'|h'
    ·exact hO _ h'
    ·rw[Ya.mp h'];exact⟨hok w w1,hen⟩
  ·rintro σ M4 h;obtain⟨Is,ys,v7,rfl,hNI,s4,i4,hI,hO⟩:=(hJ _ _ _).mp h;have hNI:Is.map (·.name)=(Xx my).map (inm nm):=hNI;have hlI:Is.length=my:=by have:=congrArg WF hNI;simpa using this
   delta PP;walk_at "s";refine q ⟨w,Is,Fs⟩ pi pf ys M4 ((s0.trans s2).trans s4) ?_ (by show 1≤Is.length;lia) fpi fpf ipf i4 hI.inn (s4 _ _ f2)
   refine⟨w1,w2,by show Is.length≤5;lia,by show Fs.length≤6;lia,?_,?_,?_,λI hi=>(hO I hi).1,?_,λI hi=>(hO I hi).2⟩
   ·intro z hz;have hz:z∈Fs.map (·.name):=hz;rw[hN]at hz;obtain⟨i,hi,rfl⟩:=XY.mp hz;have:=Zg.mp hi;exact DA (by lia) (by lia)
   ·intro z hz;have hz:z∈Is.map (·.name):=hz;rw[hNI]at hz;obtain⟨i,hi,rfl⟩:=XY.mp hz;have:=Zg.mp hi;exact DA (by lia) (by lia)
   ·show(Fs.map (·.name)++Is.map (·.name)).Nodup;rw[ZD];refine⟨ndF,?_,?_⟩
    ·rw[hNI];refine Rv λa b ha hb e=>?_;have:=Bv (n:=nm) (k:=(a:Int)) (k':=(b:Int)) (by lia) (by lia) (by lia) (by lia) e
     lia
    ·rw[hN,hNI];intro a ha b hb e;obtain⟨i,hi,rfl⟩:=XY.mp ha;obtain⟨j,hj,rfl⟩:=XY.mp hb;have hi:=Zg.mp hi;have hj:=Zg.mp hj;have:=Bv (n:=nm) (k:=5+(i:Int)) (k':=(j:Int)) (by lia) (by lia) (by lia) (by lia) e
     lia
   ·intro F hF';show FerOk (Is.map (·.name)) F;rw[hNI];exact hF F hF'
def zipK:List Str->List MV->List (Key×MV)
 |k::ks,v::vs=>(Xy k,v)::zipK ks vs
 |_,_=>[]
theorem GU:∀{ks:List Str} {vs:List MV},vs.length=ks.length->(zipK ks vs).length=ks.length
 |[],[],_=>rfl
 |[],_::_,h=>by cases h
 |_::_,[],h=>by cases h
 |k::ks,v::vs,h=>by
  show(zipK ks vs).length+1=_;rw[GU (by simpa using h)];rfl
theorem Rx:∀{ks:List Str} {vs:List MV},vs.length=ks.length->(zipK ks vs).map (·.1)=ks.map Xy
 |[],[],_=>rfl
 |[],_::_,h=>by cases h
 |_::_,[],h=>by cases h
 |k::ks,v::vs,h=>by
  show Xy k::(zipK ks vs).map (·.1)=_;rw[Rx (by simpa using h)];rfl
theorem US:∀{ks:List Str} {vs:List MV} {i:Nat} {k:Str} {v:MV},ks.Nodup->ks[i]?=some k->vs[i]?=some v->valM (zipK ks vs) (Xy k)=some v
 |[],_,_,_,_,_,h,_=>by simp at h
 |_::_,[],_,_,_,_,_,h=>by simp at h
 |a::ks,b::vs,0,k,v,_,h1,h2=>by
  simp at h1 h2;subst h1 h2;simp[zipK,valM]
 |a::ks,b::vs,i+1,k,v,nd,h1,h2=>by
  rw[YF]at nd;simp at h1 h2;have:a≠k:=λe=>nd.1 (e▸XE h1);simp only[zipK,valM];rw[if_neg (λe=>this (W0 e))];exact US nd.2 h1 h2
theorem By:∀{ks:List Str} {vs:List MV} {i:Nat} {k:Str} {v:MV},vs.length=ks.length->ks.Nodup->ks[i]?=some k->putM (zipK ks vs) (Xy k) v=zipK ks (vs.set i v)
 |[],_,_,_,_,_,_,h=>by simp at h
 |_::_,[],_,_,_,h,_,_=>by cases h
 |a::ks,b::vs,0,k,v,_,_,h1=>by
  simp at h1;subst h1;simp[zipK,putM]
 |a::ks,b::vs,i+1,k,v,hl,nd,h1=>by
  rw[YF]at nd;simp at h1;have:a≠k:=λe=>nd.1 (e▸XE h1);simp only[zipK,putM,List.set_cons_succ];rw[if_neg (λe=>this (W0 e)),By (by simpa using hl) nd.2 h1]
theorem Zkh{kvs:List (Key×MV)}{k:Key}{v:MV}:(∀p∈kvs,p.1≠k)->putM kvs k v=kvs++[(k,v)]:=by
 induction kvs with
 |nil=>intro _;rfl
 |cons p r ih=>
  intro h;unfold putM;rw[if_neg (h p (Yi ..)),ih λq hq=>h q (XX _ hq)];rfl
theorem Zij{ps:List (Key×MV)}(nd:(ps.map (·.1)).Nodup):YR ps=ps:=by
 have gen:∀(ps c:List (Key×MV)),((c++ps).map (·.1)).Nodup->ps.foldl (λc z=>putM c z.1 z.2) c=c++ps:=by
  intro ps
  induction ps with
  |nil=>intro c _;simp
  |cons p r ih=>
   intro c nd;rw[VI,Zkh,ih]
   ·simp
   ·simpa using nd
   ·intro q hq e;rw[Y7,ZD]at nd;exact nd.2.2 _ (XY.mpr ⟨q,hq,rfl⟩) _ (XY.mpr ⟨p,Yi ..,rfl⟩) e
 have:=gen ps [] (by simpa using nd)
 rw[Yd]at this;exact this
theorem GV{ks:List Str}{vs:List MV}(hl:vs.length=ks.length)(nd:ks.Nodup):YR (zipK ks vs)=zipK ks vs:=by
 refine Zij ?_;rw[Rx hl];unfold List.Nodup;rw[List.pairwise_map];exact List.Pairwise.imp (λh e=>h (W0 e)) nd
theorem Ry{α:Type}(xs:List α)(f:α->Str)(g:α->MV):(xs.map λx=>MV.tup [.str (f x),g x])=(zipK (xs.map f) (xs.map g)).map prM:=by
 induction xs with
 |nil=>rfl
 |cons x r ih=>
  rw[XD,ih];rfl
def SrcFrom(S:Src)(M M1:MH):Prop:=(S.okF M1/\M1=M)\/∃a o kvs,S=.dic a o kvs/\M a=some (.dic kvs)/\M1=updM M a (.fdic o kvs)
theorem SrcFrom.free{S:Src}{M M1:MH}(h:SrcFrom S M M1){p:Addr}(hp:M1 p=none):M p=none:=by
 rcases h with⟨_,rfl⟩|⟨a,o,kvs,_,h1,rfl⟩
 ·exact hp
 ·by_cases e:p=a
  ·subst e;rw[X9]at hp;cases hp
  ·rwa [Xc e]at hp
theorem SrcFrom.ok{S:Src}{M M1 M2:MH}(h:SrcFrom S M M1)(s:SameM M1 M2):S.ok M2:=by
 rcases h with⟨h1,rfl⟩|⟨a,o,kvs,rfl,h1,rfl⟩
 ·cases S with
  |tup _=>trivial
  |rng _ _=>trivial
  |rst _ _ _=>trivial
  |dic _ _ _=>exact h1.elim
  |str _=>trivial
  |lst a zs=>exact s _ _ h1
 ·exact s _ _ X9
theorem SrcFrom.thaw{S:Src}{M M1 M2:MH}(h:SrcFrom S M M1)(s:SameM M1 M2):SameM M (S.thaw M2)/\∀a,M1 a=none->(S.thaw M2) a=M2 a:=by
 rcases h with⟨h1,rfl⟩|⟨a,o,kvs,rfl,h1,rfl⟩
 ·rw[Ag h1];exact⟨s,λ_ _=>rfl⟩
 ·refine⟨λb u e=>?_,λb hb=>?_⟩
  ·show updM M2 a (.dic kvs) b=_;by_cases z:b=a
   ·subst z;rw[X9];rw[h1]at e;exact e
   ·rw[Xc z];exact s _ _ (by rw[Xc z];exact e)
  ·show updM M2 a (.dic kvs) b=_;refine Xc λz=>?_;subst z;rw[X9]at hb;cases hb
theorem Rz{Φ:List (Str×SpM)}{own:List Str}{fr:List Nat}{src:ISr}{tg:ITg}{elt:IE}{σ:Sm}{M:MH}{Q:QM}{α:Type}(xs:List α)(f:α->MV)(C:α->MV->List Addr->MH->Prop)(Pm:MH->Prop)
  (hC:∀x y N M2 M3,(∀a∈N,M3 a=M2 a)->C x y N M2->C x y N M3)
  (hs:wSr Φ src σ M λS M1=>S.items=xs.map f/\xs.length<sizeLine/\SrcFrom S M M1/\Pm M1)
  (ht:∀x∈xs,∀M1 M',Pm M1->SameM M1 M'->wTg tg (f x) (sCm own fr σ) λσ2=>wE Φ elt σ2 M' λy M2=>SameM M' M2/\∃N:List Addr,N.Nodup/\(∀a∈N,M' a=none/\∃o,M2 a=some o)/\C x y N M2)
  (hΦ:∀(j:Nat) f sp,Φ[j]?=some (f,sp)->MonW sp)
  (q:∀D (ys:List MV) (Ns:List (List Addr)) M',M D=none->SameM M M'->ys.length=xs.length->Ns.length=xs.length->Ns.flatten.Nodup->D∉Ns.flatten->(∀a∈Ns.flatten,M a=none)->
   (∀(j:Nat) x y N,xs[j]?=some x->ys[j]?=some y->Ns[j]?=some N->C x y N M')->M' D=some (.lst ys)->Q (.ref D) M'):wE Φ (.comp own fr src tg .none elt) σ M Q:=by
 rw[Af];refine mon_sr hΦ src (λS M1 ⟨h1,h2,h3,h4⟩=>?_) hs;have hl:S.len=xs.length:=by rw[<- S.items_len,h1,Xa]
 refine⟨by rw[hl];exact h2,λD hD=>⟨λi ys M2=>SameM M1 M2/\M2 D=some (.lst ys)/\ys.length=i/\∃Ns:List (List Addr),Ns.length=i/\Ns.flatten.Nodup/\D∉Ns.flatten/\(∀a∈Ns.flatten,M1 a=none/\∃o,M2 a=some o)/\(∀(j:Nat) x y N,xs[j]?=some x->ys[j]?=some y->Ns[j]?=some N->C x y N M2),⟨SameM.new hD _,X9,rfl,[],rfl,by simp,by simp,by simp,by simp⟩,?_,?_,?_⟩⟩
 ·rintro i ys M2 ⟨s2,d2,e,_⟩;exact⟨d2,by lia,h3.ok s2⟩
 ·rintro i x ys M2 hx ⟨s2,d2,e,Ns,n1,n2,n3,n4,n5⟩;rw[h1]at hx;obtain⟨hi,rfl⟩:=YU hx;refine UK tg (λσ2 h=>?_) (ht xs[i] (Y1 hi) M1 M2 h4 s2);rw[wI,if_pos rfl];refine X7 hΦ elt (λy M3 ⟨s3,N,m1,m2,m3⟩=>?_) h;have dN:D∉N:=λz=>by have:=(m2 _ z).1;rw[d2]at this;cases this
  have keep:∀a,a≠D->updM M3 D (.lst (ys++[y])) a=M3 a:=λa z=>Xc z;have fl:(Ns++[N]).flatten=Ns.flatten++N:=by simp
  refine⟨s3 _ _ d2,λa o z=>by rw[Xc (neM z hD)];exact s3 _ _ (s2 _ _ z),X9,by simp[e],Ns++[N],by simp[n1],?_,?_,?_,?_⟩
  ·rw[fl,ZD];refine⟨n2,m1,λa ha b hb z=>?_⟩;subst z;obtain⟨_,o,ho⟩:=n4 _ ha;rw[(m2 _ hb).1]at ho;cases ho
  ·rw[fl,YN];exact λz=>z.elim n3 dN
  ·rw[fl];intro a ha;have aD:a≠D:=λz=>by
    subst z;rcases YN.mp ha with ha|ha
    ·exact n3 ha
    ·exact dN ha
   rw[keep a aD];rcases YN.mp ha with ha|ha
   ·obtain⟨z1,o,z2⟩:=n4 _ ha;exact⟨z1,o,s3 _ _ z2⟩
   ·exact⟨s2.free (m2 _ ha).1,(m2 _ ha).2⟩
  ·intro j x' y' N' hxj hy hN;by_cases hj:j<i
   ·rw[Uh (by lia)]at hy hN
    refine hC _ _ _ M2 _ (λa ha=>?_) (n5 j x' y' N' hxj hy hN);have hm:a∈Ns.flatten:=VG.mpr ⟨N',XE hN,ha⟩;rw[keep a λz=>n3 (z▸hm)];obtain⟨_,o,z2⟩:=n4 _ hm;rw[z2];exact s3 _ _ z2
   ·have hj:j=i:=by
     have:=(XV.mp hy).1;simp at this;lia
    subst hj;rw[ZS (by lia),e,Nat.sub_self]at hy
    rw[ZS (by lia),n1,Nat.sub_self]at hN
    rw[Xd hi]at hxj;simp at hxj hy hN;subst hxj hy hN;exact hC _ _ _ M3 _ (λa ha=>keep a λz=>dN (z▸ha)) m3
 ·rintro ys M2 ⟨s2,d2,e,Ns,n1,n2,n3,n4,n5⟩;obtain⟨t1,t2⟩:=h3.thaw s2;refine q D ys Ns _ (h3.free hD) t1 (by lia) (by lia) n2 n3 (λa ha=>h3.free (n4 a ha).1) (λj x y N a b c=>?_) (by rw[t2 _ hD];exact d2)
  exact hC _ _ _ M2 _ (λz hz=>t2 _ (n4 z (VG.mpr ⟨N,XE c,hz⟩)).1) (n5 j x y N a b c)
theorem GW{Φ:List (Str×SpM)}{own:List Str}{fr:List Nat}{src:ISr}{tg:ITg}{elt:IE}{σ:Sm}{M:MH}{Q:QM}{α:Type}(xs:List α)(f:α->MV)(nm:α->Str)(ob:α->MO)(Pm:MH->Prop)
  (hs:wSr Φ src σ M λS M1=>S.items=xs.map f/\xs.length<sizeLine/\SrcFrom S M M1/\Pm M1)
  (ht:∀x∈xs,∀M1 M',Pm M1->SameM M1 M'->wTg tg (f x) (sCm own fr σ) λσ2=>wE Φ elt σ2 M' λy M2=>∃p,M' p=none/\y=.tup [.str (nm x),.ref p]/\M2=updM M' p (ob x))
  (hΦ:∀(j:Nat) f sp,Φ[j]?=some (f,sp)->MonW sp)
  (q:∀D (as:List Addr) M',M D=none->SameM M M'->as.length=xs.length->as.Nodup->D∉as->(∀a∈as,M a=none)->
   (∀(j:Nat) a x,as[j]?=some a->xs[j]?=some x->M' a=some (ob x))->M' D=some (.lst ((zipK (xs.map nm) (as.map MV.ref)).map prM))->Q (.ref D) M'):wE Φ (.comp own fr src tg .none elt) σ M Q:=by
 refine Rz xs f (λx y N M2=>∃p,N=[p]/\y=.tup [.str (nm x),.ref p]/\M2 p=some (ob x)) Pm ?_ hs ?_ hΦ ?_
 ·rintro x y N M2 M3 hk ⟨p,rfl,e1,e2⟩;exact⟨p,rfl,e1,by rw[hk p (by simp)];exact e2⟩
 ·intro x hx M1 M' h1 h2;refine UK tg (λσ2 h=>?_) (ht x hx M1 M' h1 h2);refine X7 hΦ elt (λy M3 ⟨p,m1,m2,m3⟩=>?_) h;subst m3;exact⟨SameM.new m1 _,[p],by simp,by simp[m1,X9],p,rfl,m2,X9⟩
 ·intro D ys Ns M' h1 h2 h3 h4 h5 h6 h7 h8 h9;have key:∀(xs:List α) (ys:List MV) (Ns:List (List Addr)),ys.length=xs.length->Ns.length=xs.length->(∀(j:Nat) x y N,xs[j]?=some x->ys[j]?=some y->Ns[j]?=some N->∃p,N=[p]/\y=.tup [.str (nm x),.ref p]/\M' p=some (ob x))->
    Ns.flatten.length=xs.length/\ys=(zipK (xs.map nm) (Ns.flatten.map MV.ref)).map prM/\∀(j:Nat) a x,Ns.flatten[j]?=some a->xs[j]?=some x->M' a=some (ob x):=by
   intro xs
   induction xs with
   |nil=>
    intro ys Ns h1 h2 _;cases ys with
    |nil=>
     cases Ns with
     |nil=>exact⟨rfl,rfl,λj a x h=>by simp at h⟩
     |cons _ _=>cases h2
    |cons _ _=>cases h1
   |cons x xs ih=>
    intro ys Ns h1 h2 h3;cases ys with
    |nil=>cases h1
    |cons y ys=>
     cases Ns with
     |nil=>cases h2
     |cons N Ns=>
      obtain⟨p,rfl,rfl,ep⟩:=h3 0 x y N rfl rfl rfl;obtain⟨i1,i2,i3⟩:=ih ys Ns (by simpa using h1) (by simpa using h2) λj x y N a b c=>h3 (j+1) x y N (by simpa using a) (by simpa using b) (by simpa using c)
      refine⟨by simp at i1 ⊢;lia,?_,?_⟩
      ·show _=prM (Xy (nm x),MV.ref p)::((zipK (xs.map nm) (Ns.flatten.map MV.ref)).map prM);rw[<- i2];rfl
      ·intro j a x' ha hx;cases j with
       |zero=>simp at ha hx;subst ha hx;exact ep
       |succ j=>exact i3 j a x' (by simpa using ha) (by simpa using hx)
  obtain⟨k1,k2,k3⟩:=key xs ys Ns h3 h4 h8;exact q D Ns.flatten M' h1 h2 k1 h5 h6 h7 k3 (by rw[<- k2];exact h9)
def WdOk(w:Nat)(I:Isl)(kvs:List (Key×MV)):Prop:=∃vs:List Int,vs.length=I.vars.length/\kvs=zipK I.vars (vs.map MV.int)/\∀v∈vs,0≤v/\v<2^w
def rhoK(kvs:List (Key×MV))(x:Str):Int:=match valM kvs (Xy x)with
 |some (.int i)=>i
 |_=>0
theorem WdOk.at{k:Nat}{I:Isl}{kvs:List (Key×MV)}(h:WdOk k I kvs)(nd:I.vars.Nodup){x:Str}(hx:x∈I.vars):valM kvs (Xy x)=some (.int (rhoK kvs x))/\0≤rhoK kvs x/\rhoK kvs x<2^k:=by
 obtain⟨vs,hl,rfl,hv⟩:=h;obtain⟨i,hi,rfl⟩:=Yc hx;have hi2:i<vs.length:=by lia
 have e:valM (zipK I.vars (vs.map MV.int)) (Xy I.vars[i])=some (.int vs[i]):=US (i:=i) nd (Xd hi) (by rw[Xw,Xd hi2];rfl)
 have e2:rhoK (zipK I.vars (vs.map MV.int)) I.vars[i]=vs[i]:=by unfold rhoK;rw[e]
 rw[e2];exact⟨e,hv _ (Y1 hi2)⟩
theorem WdOk.reads{k:Nat}{I:Isl}{kvs:List (Key×MV)}(h:WdOk k I kvs)(nd:I.vars.Nodup):readsOk I.vars kvs (rhoK kvs) k:=λ_ hx=>h.at nd hx
theorem WdOk.len{k:Nat}{I:Isl}{kvs:List (Key×MV)}(h:WdOk k I kvs):kvs.length=I.vars.length:=by
 obtain⟨vs,hl,rfl,hv⟩:=h;exact GU (by rw[Xa];exact hl)
theorem WdOk.put{k:Nat}{I:Isl}{kvs:List (Key×MV)}(h:WdOk k I kvs)(nd:I.vars.Nodup){x:Str}(hx:x∈I.vars){v:Int}(hv:0≤v/\v<2^k):WdOk k I (putM kvs (Xy x) (.int v)):=by
 obtain⟨vs,hl,rfl,hr⟩:=h;obtain⟨i,hi,rfl⟩:=Yc hx;refine⟨vs.set i v,by rw[UD];exact hl,?_,λu hu=>?_⟩
 ·rw[By (i:=i) (by rw[Xa];exact hl) nd (Xd hi),WE]
 ·rcases Hb hu with hu|rfl
  ·exact hr u hu
  ·exact hv
structure Boat where
 b:Addr
 p:Addr
 g:Addr
 u:Addr
 gl:Addr
 tl:Addr
 A:Ab
def Boat.ads(x:Boat):List Addr:=[x.b,x.p,x.g,x.u,x.gl,x.tl]
structure BoatAt (M:MH) (f:Fer) (w:Nat) (m:Int) (x:Boat):Prop where
 fy:FyAt M x.b x.p x.g x.u x.A
 gv:M x.gl=some (.lst (x.A.ws.map natM))
 tk:M x.tl=some (.lst ((x.A.ws.take x.A.tn).map natM))
 n1:x.gl≠x.tl/\x.gl≠x.p/\x.tl≠x.p
 k:x.A.k=f.k
 gm:x.A.gm<m
 tm:x.A.tm<m
 wd:∀z∈x.A.ws,z<2^w
theorem BoatAt.at_{M:MH}{f:Fer}{w:Nat}{m:Int}{x:Boat}(h:BoatAt M f w m x):∀a∈x.ads,∃o,M a=some o/\(∀kvs,o≠.dic kvs)/\∀fs,o≠.ins "Run" fs:=by
 have e1:¬(("Ferry":Str)="Run"):=by rw[Wk];decide
 have e2:¬(("Side":Str)="Run"):=by rw[Wk];decide
 obtain⟨pl,hp,_⟩:=h.fy.pls;intro a ha;simp only[Boat.ads,Xr,XR,or_false]at ha;rcases ha with rfl|rfl|rfl|rfl|rfl|rfl
 ·exact⟨_,h.fy.fe,(λ_ z=>by cases z),(λfs z=>e1 (by injection z))⟩
 ·exact⟨_,hp,(λ_ z=>by cases z),(λfs z=>by cases z)⟩
 ·exact⟨_,h.fy.gi,(λ_ z=>by cases z),(λfs z=>e2 (by injection z))⟩
 ·exact⟨_,h.fy.ta,(λ_ z=>by cases z),(λfs z=>e2 (by injection z))⟩
 ·exact⟨_,h.gv,(λ_ z=>by cases z),(λfs z=>by cases z)⟩
 ·exact⟨_,h.tk,(λ_ z=>by cases z),(λfs z=>by cases z)⟩
theorem BoatAt.dic{M:MH}{f:Fer}{w:Nat}{m:Int}{x:Boat}(h:BoatAt M f w m x){a:Addr}{kvs:List (Key×MV)}(ha:M a=some (.dic kvs)):a∉x.ads:=λz=>by
 obtain⟨o,e,n,_⟩:=h.at_ a z;rw[ha]at e;cases e;exact n _ rfl
theorem BoatAt.run{M:MH}{f:Fer}{w:Nat}{m:Int}{x:Boat}(h:BoatAt M f w m x){a:Addr}{fs:List (Str×MV)}(ha:M a=some (.ins "Run" fs)):a∉x.ads:=fun z=>by
 obtain⟨o,e,_,n⟩:=h.at_ a z;rw[ha]at e;cases e;exact n _ rfl
theorem BoatAt.fr{M M':MH}{f:Fer}{w:Nat}{m m':Int}{x:Boat}(h:BoatAt M f w m x)(l:m≤m')(s:∀a∈x.ads,∀o,M a=some o->M' a=some o):BoatAt M' f w m' x:=by
 have s:∀a,a∈ [x.b,x.p,x.g,x.u,x.gl,x.tl]->∀o,M a=some o->M' a=some o:=s;obtain⟨pl,hp,hpl⟩:=h.fy.pls;exact⟨⟨h.fy.ok,s _ (by simp) _ h.fy.fe,⟨pl,s _ (by simp) _ hp,hpl⟩,s _ (by simp) _ h.fy.gi,s _ (by simp) _ h.fy.ta,h.fy.ne⟩,s _ (by simp) _ h.gv,s _ (by simp) _ h.tk,h.n1,h.k,VT h.gm l,VT h.tm l,h.wd⟩
structure RunS where
 m:Int
 nums:List Nat
 ws:List Addr
 dn:List Nat
 bs:List Boat
 pn:Addr
 pw:Addr
 ps:Addr
 pb:Addr
 pg:Addr
 pt:Addr
def runO(W:Wld)(R:RunS):MO:=.ins "Run" [("world",W.mv),("moment",.int R.m),("next_numbers",.ref R.pn),("words_now",.ref R.pw),("steps_so_far",.ref R.ps),("boats",.ref R.pb),("given_so_far",.ref R.pg),("taken_so_far",.ref R.pt)]
structure RunAt (M:MH) (W:Wld) (r:Addr) (R:RunS) (mm:Nat->Int):Prop where
 ob:M r=some (runO W R)
 hn:M R.pn=some (.dic (zipK W.ins (R.nums.map natM)))
 hw:M R.pw=some (.dic (zipK W.ins (R.ws.map MV.ref)))
 hs:M R.ps=some (.dic (zipK W.ins (R.dn.map natM)))
 hb:M R.pb=some (.dic (zipK W.fns (R.bs.map λx=>MV.ref x.b)))
 hg:M R.pg=some (.dic (zipK W.fns (R.bs.map λx=>MV.ref x.gl)))
 ht:M R.pt=some (.dic (zipK W.fns (R.bs.map λx=>MV.ref x.tl)))
 nl:R.nums.length=W.isl.length
 wl:R.ws.length=W.isl.length
 sl:R.dn.length=W.isl.length
 bl:R.bs.length=W.fer.length
 nb:∀(i:Nat) I n,W.isl[i]?=some I->R.nums[i]?=some n->n≤I.stps.length
 wa:∀(i:Nat) I a,W.isl[i]?=some I->R.ws[i]?=some a->∃kvs,M a=some (.dic kvs)/\WdOk W.w I kvs
 ba:∀(j:Nat) f x,W.fer[j]?=some f->R.bs[j]?=some x->BoatAt M f W.w (mm j) x
 sep:∀(i j:Nat) x y,i≠j->R.bs[i]?=some x->R.bs[j]?=some y->∀a∈x.ads,a∉y.ads
 nd:(R.pn::R.pw::R.ps::R.pb::R.pg::R.pt::R.ws).Nodup
def RunS.own(R:RunS)(r:Addr):List Addr:=r::R.pn::R.pw::R.ps::R.bs.flatMap Boat.ads
structure Kept (M M':MH) (r:Addr) (R R':RunS):Prop where
 fr:FrM M M' (R.own r)
 nw:∀a∈R'.own r,a∈R.own r\/M a=none
theorem Kept.trans{M M1 M2:MH}{r:Addr}{R R1 R2:RunS}(h:Kept M M1 r R R1)(g:Kept M1 M2 r R1 R2):Kept M M2 r R R2:=by
 refine⟨λa o ha hn=>g.fr a o (h.fr a o ha hn) λz=>?_,λa ha=>?_⟩
 ·rcases h.nw a z with z|z
  ·exact hn z
  ·rw[ha]at z;cases z
 ·rcases g.nw a ha with z|z
  ·exact h.nw a z
  ·by_cases c:a∈R.own r
   ·exact .inl c
   ·cases e:M a with
    |none=>exact .inr rfl
    |some o=>rw[h.fr a o e c]at z;cases z
theorem Kept.new{M M':MH}{r:Addr}{R:RunS}(s:SameM M M'):Kept M M' r R R:=⟨λa o h _=>s a o h,λ_ h=>.inl h⟩
theorem RunAt.keep{M M':MH}{W:Wld}{r:Addr}{R:RunS}{mm:Nat->Int}(h:RunAt M W r R mm)(s:SameM M M'):RunAt M' W r R mm:=
 ⟨s _ _ h.ob,s _ _ h.hn,s _ _ h.hw,s _ _ h.hs,s _ _ h.hb,s _ _ h.hg,s _ _ h.ht,h.nl,h.wl,h.sl,h.bl,h.nb,λi I a hI ha=>let⟨k,e,o⟩:=h.wa i I a hI ha;⟨k,s _ _ e,o⟩,λj f x hf hx=>(h.ba j f x hf hx).fr (UH _) λa _ o e=>s a o e,h.sep,h.nd⟩
theorem Vq{α:Type}{xs:List α}{i j:Nat}{v x:α}(h:(xs.set j v)[i]?=some x):(i=j/\x=v)\/(i≠j/\xs[i]?=some x):=by
 rw[VF]at h;by_cases e:j=i
 ·subst e;rw[if_pos rfl]at h;by_cases l:j<xs.length
  ·rw[if_pos l]at h;exact .inl ⟨rfl,(YD h).symm⟩
  ·rw[if_neg l]at h;cases h
 ·rw[if_neg e]at h;exact .inr ⟨λz=>e z.symm,h⟩
theorem GX{α β:Type}{f:α->β}{xs:List α}{j:Nat}{x y:α}(hx:xs[j]?=some x) (e:f y=f x):(xs.set j y).map f=xs.map f:=by
 rw[WE,e];apply BQ;intro i;rw[VF];split
 ·rename_i h;subst h;split
  ·rw[Xw,hx];rfl
  ·rename_i l;rw[UB (by lia)]
 ·rfl
theorem RunAt.boat{M M':MH}{W:Wld}{r:Addr}{R:RunS}{mm mm':Nat->Int}(h:RunAt M W r R mm){j:Nat}{f:Fer}{x y:Boat}(hf:W.fer[j]?=some f) (hx:R.bs[j]?=some x) (fr:FrM M M' x.ads) (hy:BoatAt M' f W.w (mm' j) y) (eb:y.b=x.b) (eg:y.gl=x.gl) (et:y.tl=x.tl) (ad:∀a∈y.ads,a∈x.ads\/M a=none) (hm:∀i,i≠j->mm i≤mm' i):
  RunAt M' W r {R with bs:=R.bs.set j y} mm'/\Kept M M' r R {R with bs:=R.bs.set j y}:=by
 have bx:=h.ba j f x hf hx;have dic:∀a kvs,M a=some (.dic kvs)->M' a=some (.dic kvs):=λa kvs e=>fr a _ e (bx.dic e);have b1:(R.bs.set j y).map (λx=>MV.ref x.b)=R.bs.map λx=>MV.ref x.b:=GX hx (by rw[eb])
 have b2:(R.bs.set j y).map (λx=>MV.ref x.gl)=R.bs.map λx=>MV.ref x.gl:=GX hx (by rw[eg])
 have b3:(R.bs.set j y).map (λx=>MV.ref x.tl)=R.bs.map λx=>MV.ref x.tl:=GX hx (by rw[et])
 have off:∀(i:Nat) z,i≠j->R.bs[i]?=some z->∀a∈z.ads,a∉y.ads:=λi z ne hz a ha hay=>by
  rcases ad a hay with c|c
  ·exact h.sep i j z x ne hz hx a ha c
  ·have hi:i<W.fer.length:=by rw[<- h.bl];exact(XV.mp hz).1
   obtain⟨o,e,_⟩:=(h.ba i _ z (Xd hi) hz).at_ a ha;rw[e]at c;cases c
 refine⟨⟨fr _ _ h.ob (bx.run h.ob),dic _ _ h.hn,dic _ _ h.hw,dic _ _ h.hs,?_,?_,?_,h.nl,h.wl,h.sl,by show(R.bs.set j y).length=_;rw[UD];exact h.bl,h.nb,λi I a hI ha=>let⟨k,e,o⟩:=h.wa i I a hI ha;⟨k,dic _ _ e,o⟩,λi g z hg hz=>?_,λi i' z z' ne hz hz'=>?_,h.nd⟩,⟨λa o ha hn=>fr a o ha λc=>hn ?_,λa ha=>?_⟩⟩
 ·show M' R.pb=some (.dic (zipK W.fns ((R.bs.set j y).map λx=>MV.ref x.b)));rw[b1];exact dic _ _ h.hb
 ·show M' R.pg=some (.dic (zipK W.fns ((R.bs.set j y).map λx=>MV.ref x.gl)));rw[b2];exact dic _ _ h.hg
 ·show M' R.pt=some (.dic (zipK W.fns ((R.bs.set j y).map λx=>MV.ref x.tl)));rw[b3];exact dic _ _ h.ht
 ·rcases Vq hz with⟨rfl,rfl⟩|⟨ne,hz⟩
  ·rw[hf]at hg;cases hg;exact hy
  ·exact(h.ba i g z hg hz).fr (hm i ne) λa ha o e=>fr a o e λc=>h.sep i j z x ne hz hx a ha c
 ·rcases Vq hz with⟨e1,y1⟩|⟨n1,y1⟩<;>rcases Vq hz' with⟨e2,y2⟩|⟨n2,y2⟩
  ·exact absurd (e1.trans e2.symm) ne
  ·subst y1;exact λa ha hb=>off i' z' n2 y2 a hb ha
  ·subst y2;exact off i z n1 y1
  ·exact h.sep i i' z z' ne y1 y2
 ·exact XX _ (XX _ (XX _ (XX _ (VH.mpr ⟨x,XE hx,c⟩))))
 ·simp only[RunS.own,Xr,VH]at ha ⊢;rcases ha with c|c|c|c|⟨z,hz,c⟩
  ·exact .inl (.inl c)
  ·exact .inl (.inr (.inl c))
  ·exact .inl (.inr (.inr (.inl c)))
  ·exact .inl (.inr (.inr (.inr (.inl c))))
  ·obtain⟨i,hi,rfl⟩:=Yc hz;rcases Vq (Xd hi)with⟨_,e⟩|⟨_,e⟩
   ·rw[e]at c;exact(ad a c).imp (λd=>.inr (.inr (.inr (.inr ⟨x,XE hx,d⟩)))) id
   ·exact .inl (.inr (.inr (.inr (.inr ⟨_,XE e,c⟩))))
def askO(o:Option Stp)(ρ:Str->Int)(w:Nat):MV:=match o with
 |none=>.non
 |some (.take f _)=>.tup [.str "take",.str f]
 |some (.give f T)=>.tup [.str "give",.str f,.int (T.val ρ w)]
 |some _=>.tup [.str "own"]
theorem Zq7(ss:List Stp)(ρ:Str->Int)(w i:Nat):dueM ss ρ w i=askO ss[i]? ρ w:=rfl
def Vr(o:Option Stp):MV:=match o with
 |none=>.tup [.str "done"]
 |some (.take f _)=>.tup [.str "wait",.str f]
 |some (.give f _)=>.tup [.str "wait",.str f]
 |some _=>.tup [.str "own"]
def Yx(o:Option Stp)(z:Str):Bool:=match o with
 |some (.take f _)=>decide (f=z)
 |some (.give f _)=>decide (f=z)
 |_=>false
abbrev Vs:SpM:=λvs M Q=>∃(o:Option Stp) (ρ:Str->Int) (w:Nat),vs=[askO o ρ w]/\Q (Vr o) M
theorem Z91:MonW Vs:=by walk_at "m"
theorem Zdh(T:Txt K mg t):FnOk P w K mg base CX0 1 t.f_what_alone t.d_what_alone ["asked"] (liSp K Vs):=by
 refine T.q_what_alone.F.okM Zd8 (Xn (P:=P) (w:=w) (K:=K) (mg:=mg) (base:=base) (k:=0) (G:=O7) (Φ:=[]) (Ψ:=[]) (Χ:=[]) rfl (Xo T) (Xp T) rfl nl0 nl0 nl0 nl0 (Xq T)) G1 ZdG (λvs M Q h=>?_) (λvs M Q h=>?_)
 ·obtain⟨_,_,_,rfl,_⟩:=h;rfl
 obtain⟨o,ρ,k,rfl,q⟩:=h;show wSs _ _ _ [some (askO o ρ k)] M;delta G1 O6;rcases o with _|s
 ·simp only[askO];walk_at "s";delta O5;walk_at "s";exact q
 ·cases s<;>simp only[askO]<;>walk_at "s"<;>rw[O4]<;>walk_at "s"<;>first|(rw[O3];walk_at "s";exact q)|(rw[O2];walk_at "s";exact q)
abbrev Ws:SpM:=λvs M Q=>∃(o:Option Stp) (ρ:Str->Int) (w:Nat) (z:Str),vs=[askO o ρ w,.str z]/\Q (.bl (Yx o z)) M
theorem Z93:MonW Ws:=by walk_at "m"
theorem Zdj(T:Txt K mg t):FnOk P w K mg base CX0 1 t.f_is_wish_of t.d_is_wish_of ["asked","ferry_name"] (liSp K Ws):=by
 refine T.q_is_wish_of.F.okM Zdb (Xn (P:=P) (w:=w) (K:=K) (mg:=mg) (base:=base) (k:=0) (G:=O9) (Φ:=[]) (Ψ:=[]) (Χ:=[]) rfl (Xo T) (Xp T) rfl nl0 nl0 nl0 nl0 (Xq T)) G2 ZdJ (λvs M Q h=>?_) (λvs M Q h=>?_)
 ·obtain⟨_,_,_,_,rfl,_⟩:=h;rfl
 obtain⟨o,ρ,k,z,rfl,q⟩:=h;show wSs _ _ _ [some (askO o ρ k),some (.str z)] M;delta G2 O8;rcases o with _|s
 ·simp only[askO];walk_at "s";exact q
 ·cases s<;>simp only[askO]<;>walk_at "s"<;>exact q
abbrev DC:SpM:=λvs M Q=>∃(z:Str) (e:Addr) (kvs:List (Key×MV)),vs=[.str z,.ref e]/\M e=some (.dic kvs)/\(valM kvs (Xy z)).isSome=true/\Q .non M
theorem Z5q:MonW DC:=by walk_at "m"
theorem Z8f(T:Txt K mg t):FnOk P w K mg base CX0 1 t.f_refuse_unknown t.d_refuse_unknown ["name","known"] (liSp K DC):=by
 refine T.q_refuse_unknown.F.okM Ko (Xn (P:=P) (w:=w) (K:=K) (mg:=mg) (base:=base) (k:=0) (G:=FK) (Φ:=[]) (Ψ:=[]) (Χ:=[]) rfl (Xo T) (Xp T) rfl nl0 nl0 nl0 nl0 (Xq T)) Bd MI (λvs M Q h=>?_) (λvs M Q h=>?_)
 ·obtain⟨z,a,zs,rfl,_⟩:=h;rfl
 obtain⟨z,a,kvs,rfl,h1,h2,q⟩:=h;show wSs _ _ _ [some (.str z),some (.ref a)] M;delta Bd FJ;walk_at "s";refine .inr ⟨_,_,h1,rfl,?_⟩;rw[h2];walk_at "s";exact q
theorem Wld.Good.in_nd{W:Wld}(G:W.Good):W.ins.Nodup:=(ZD.mp G.nd).2.1
theorem Wld.Good.fn_nd{W:Wld}(G:W.Good):W.fns.Nodup:=(ZD.mp G.nd).1
theorem UT{W:Wld}{i:Nat}{I:Isl}(h:W.isl[i]?=some I):W.ins[i]?=some I.name:=by unfold Wld.ins;rw[Xw,h];rfl
theorem DD{W:Wld}{i:Nat}{f:Fer}(h:W.fer[i]?=some f):W.fns[i]?=some f.name:=by unfold Wld.fns;rw[Xw,h];rfl
theorem Wt{W:Wld}:W.ins.length=W.isl.length:=by unfold Wld.ins;rw[Xa]
theorem DE{W:Wld}:W.fns.length=W.fer.length:=by unfold Wld.fns;rw[Xa]
theorem RA{fs ns:List Str}{n:Nat}{s:Stp}(h:U8 fs ns n s):s.ok ns n:=by
 cases s with
 |take f x=>exact h.2
 |give f T=>exact h.2
 |put x T=>exact h
 |jump T i=>exact h
abbrev Wu:SpM:=λvs M Q=>∃(e:Addr) (kvs:List (Key×MV)) (z:Str) (v:MV),vs=[.ref e,.str z]/\M e=some (.dic kvs)/\valM kvs (Xy z)=some v/\Q v M
theorem RB:MonW Wu:=by walk_at "m"
theorem RC(T:Txt K mg t):FnOk P w K mg base CX0 2 t.f_looked_up t.d_looked_up ["named","name"] (liSp K Wu):=by
 refine T.q_looked_up.F.okM Ze0 (Xn (P:=P) (w:=w) (K:=K) (mg:=mg) (base:=base) (k:=1) (G:=Oc) (Φ:=[("refuse_unknown",DC)]) (Ψ:=[]) (Χ:=[("refuse_unknown",DC)]) rfl (Xo T) (Xp T) rfl (fMc ⟨Z5q,nl0⟩) (fMc ⟨⟨_,_,_,FnOk.mono (Z8f T) (by decide),T.q_refuse_unknown.m,T.q_refuse_unknown.F.kp,T.q_refuse_unknown.b⟩,nl0⟩) nl0 nl0 (Xq T)) G3 ZeT (fun vs M Q h=>?_) (fun vs M Q h=>?_)
 ·obtain⟨_,_,_,_,rfl,_⟩:=h;rfl
 obtain⟨e,kvs,z,v,rfl,he,hv,q⟩:=h;show wSs _ _ _ [some (.ref e),some (.str z)] M;delta G3 Ob;walk_at "s";refine⟨z,e,kvs,rfl,he,by rw[hv];rfl,?_⟩
 delta Oa
 repeat (first|walk_at "s"|simp only[he,hv])
 exact q
section
variable{M:MH}{W:Wld}{r:Addr}{R:RunS}{mm:Nat->Int}
theorem RunAt.gvl(h:RunAt M W r R mm)(G:W.Good){j:Nat}{f:Fer}{x:Boat}(hf:W.fer[j]?=some f) (hx:R.bs[j]?=some x):valM (zipK W.fns (R.bs.map λx=>MV.ref x.gl)) (Xy f.name)=some (.ref x.gl):=US G.fn_nd (DD hf) (by rw[Xw,hx];rfl)
theorem RunAt.tkl(h:RunAt M W r R mm)(G:W.Good){j:Nat}{f:Fer}{x:Boat}(hf:W.fer[j]?=some f) (hx:R.bs[j]?=some x):valM (zipK W.fns (R.bs.map λx=>MV.ref x.tl)) (Xy f.name)=some (.ref x.tl):=US G.fn_nd (DD hf) (by rw[Xw,hx];rfl)
theorem RunAt.btl(h:RunAt M W r R mm)(G:W.Good){j:Nat}{f:Fer}{x:Boat}(hf:W.fer[j]?=some f) (hx:R.bs[j]?=some x):valM (zipK W.fns (R.bs.map λx=>MV.ref x.b)) (Xy f.name)=some (.ref x.b):=US G.fn_nd (DD hf) (by rw[Xw,hx];rfl)
theorem RunAt.nml(h:RunAt M W r R mm)(G:W.Good){i n:Nat}{I:Isl}(hI:W.isl[i]?=some I) (hn:R.nums[i]?=some n):valM (zipK W.ins (R.nums.map natM)) (Xy I.name)=some (.int n):=US G.in_nd (UT hI) (by rw[Xw,hn];rfl)
theorem RunAt.wdl(h:RunAt M W r R mm)(G:W.Good){i:Nat}{a:Addr}{I:Isl}(hI:W.isl[i]?=some I) (ha:R.ws[i]?=some a):valM (zipK W.ins (R.ws.map MV.ref)) (Xy I.name)=some (.ref a):=US G.in_nd (UT hI) (by rw[Xw,ha];rfl)
theorem RunAt.dnl(h:RunAt M W r R mm)(G:W.Good){i n:Nat}{I:Isl}(hI:W.isl[i]?=some I) (hn:R.dn[i]?=some n):valM (zipK W.ins (R.dn.map natM)) (Xy I.name)=some (.int n):=US G.in_nd (UT hI) (by rw[Xw,hn];rfl)
theorem RunAt.went(h:RunAt M W r R mm){M':MH}{i n d:Nat}{I:Isl}{p:Addr}{kvs:List (Key×MV)}(hI:W.isl[i]?=some I) (hn:n≤I.stps.length) (hp:M p=none) (fr:∀a o,M a=some o->a≠R.pn->a≠R.pw->a≠R.ps->M' a=some o) (hk:M' p=some (.dic kvs)) (wk:WdOk W.w I kvs)
  (h1:M' R.pn=some (.dic (zipK W.ins ((R.nums.set i n).map natM)))) (h2:M' R.pw=some (.dic (zipK W.ins ((R.ws.set i p).map MV.ref)))) (h3:M' R.ps=some (.dic (zipK W.ins ((R.dn.set i d).map natM)))):
  RunAt M' W r {R with nums:=R.nums.set i n,ws:=R.ws.set i p,dn:=R.dn.set i d} mm/\Kept M M' r R {R with nums:=R.nums.set i n,ws:=R.ws.set i p,dn:=R.dn.set i d}:=by
 have nd:=h.nd;simp only[YF,Xr,not_or]at nd;obtain⟨⟨a1,a2,a3,a4,a5,a6⟩,⟨b2,b3,b4,b5,b6⟩,⟨c3,c4,c5,c6⟩,⟨d4,d5,d6⟩,⟨e5,e6⟩,f6,ndw⟩:=nd;have kd:∀a kv,M a=some (.dic kv)->a≠r:=λa kv e z=>by subst z;rw[h.ob]at e;cases e
 have wne:∀(k:Nat) a,R.ws[k]?=some a->a≠R.pn/\a≠R.pw/\a≠R.ps:=λk a ha=>⟨λz=>a6 (z▸XE ha),λz=>b6 (z▸XE ha),λz=>c6 (z▸XE ha)⟩;have old:∀a o,M a=some o->a≠p:=λa o e=>neM e hp;refine⟨⟨fr _ _ h.ob (kd _ _ h.hn).symm (kd _ _ h.hw).symm (kd _ _ h.hs).symm,h1,h2,h3,fr _ _ h.hb (XU a3) (XU b3) (XU c3),fr _ _ h.hg (XU a4) (XU b4) (XU c4),fr _ _ h.ht (XU a5) (XU b5) (XU c5),by show(R.nums.set i n).length=_;rw[UD];exact h.nl,by show(R.ws.set i p).length=_;rw[UD];exact h.wl,by show(R.dn.set i d).length=_;rw[UD];exact h.sl,h.bl,λk J m hJ hm=>?_,λk J a hJ ha=>?_,λj f x hf hx=>?_,h.sep,?_⟩,⟨λa o ha hn=>fr a o ha ?_ ?_ ?_,λa ha=>.inl ha⟩⟩
 ·rcases Vq hm with⟨rfl,rfl⟩|⟨_,hm⟩
  ·rw[hI]at hJ;cases hJ;exact hn
  ·exact h.nb k J m hJ hm
 ·rcases Vq ha with⟨rfl,rfl⟩|⟨_,ha⟩
  ·rw[hI]at hJ;cases hJ;exact⟨kvs,hk,wk⟩
  ·obtain⟨kv,e,o⟩:=h.wa k J a hJ ha;obtain⟨n1,n2,n3⟩:=wne k a ha;exact⟨kv,fr _ _ e n1 n2 n3,o⟩
 ·have hx:R.bs[j]?=some x:=hx;have b:=h.ba j f x hf hx;exact b.fr (UH _) λa ha o e=>fr a o e (λz=>b.dic (z▸h.hn) ha) (λz=>b.dic (z▸h.hw) ha) (λz=>b.dic (z▸h.hs) ha)
 ·have pnot:∀a kv,M a=some (.dic kv)->a≠p:=λa kv e=>old a _ e;have ms:∀a,a∈R.ws.set i p->a∈R.ws\/a=p:=λa ha=>Hb ha;have pin:p∉R.ws:=λz=>by
   obtain⟨k,hk',e⟩:=Yc z;have hi:k<W.isl.length:=by rw[<- h.wl];exact hk'
   obtain⟨kv,e2,_⟩:=h.wa k _ _ (Xd hi) (Xd hk');rw[e,hp]at e2;cases e2
  have ndp:(R.ws.set i p).Nodup:=by
   refine List.pairwise_iff_getElem.mpr λk l hk' hl kl e=>?_;rw[UD]at hk' hl;rw[DQ,DQ]at e;split at e<;>split at e
   ·rename_i z1 z2;lia
   ·exact pin (e▸Y1 hl)
   ·exact pin (e.symm▸Y1 hk')
   ·have:=(BR ndw).mp e;lia
  have mk:∀a kv,M a=some (.dic kv)->a∉R.ws->a∉R.ws.set i p:=λa kv e hn z=>(ms a z).elim hn (pnot a kv e);show(R.pn::R.pw::R.ps::R.pb::R.pg::R.pt::R.ws.set i p).Nodup;simp only[YF,Xr,not_or];exact⟨⟨a1,a2,a3,a4,a5,mk _ _ h.hn a6⟩,⟨b2,b3,b4,b5,mk _ _ h.hw b6⟩,⟨c3,c4,c5,mk _ _ h.hs c6⟩,⟨d4,d5,mk _ _ h.hb d6⟩,⟨e5,mk _ _ h.hg e6⟩,mk _ _ h.ht f6,ndp⟩
 ·exact λz=>hn (by simp[RunS.own,z])
 ·exact λz=>hn (by simp[RunS.own,z])
 ·exact λz=>hn (by simp[RunS.own,z])
end
abbrev Bz:SpM:=λvs M Q=>∃(r:Addr) (W:Wld) (R:RunS) (mm:Nat->Int) (j:Nat) (f:Fer) (x:Boat),vs=[.ref r,.str f.name]/\W.Good/\RunAt M W r R mm/\W.fer[j]?=some f/\R.bs[j]?=some x/\∀p,M p=none->Q (.ref p) (updM M p (.lst (x.A.ws.map natM)))
theorem RD:MonW Bz:=by walk_at "m"
theorem Zer(T:Txt K mg t):FnOk P w K mg base CX0 3 t.f_Run_given t.d_Run_given ["self","name"] (liSp K Bz):=by
 refine T.F_Run_given.okM Ze9 (Xn (P:=P) (w:=w) (K:=K) (mg:=mg) (base:=base) (k:=2) (G:=OU) (Φ:=[("looked_up",Wu)]) (Ψ:=[]) (Χ:=[("looked_up",Wu)]) rfl (Xo T) (Xp T) rfl (fMc ⟨RB,nl0⟩) (fMc ⟨⟨_,_,_,(FnOk.mono (RC T) (by decide)),T.q_looked_up.m,T.q_looked_up.F.kp,T.q_looked_up.b⟩,nl0⟩) nl0 nl0 (Xq T)) Gb Zf2 (fun vs M Q h=>?_) (fun vs M Q h=>?_)
 ·obtain⟨_,_,_,_,_,_,_,rfl,_⟩:=h;rfl
 obtain⟨r,W,R,mm,j,f,x,rfl,G,h,hf,hx,q⟩:=h;show wSs _ _ _ [some (.ref r),some (.str f.name)] M;have ob:=h.ob;have gv:=(h.ba j f x hf hx).gv;delta Gb OT
 repeat (first|walk_at "s"|simp only[ob,runO,valM])
 refine⟨_,_,_,_,rfl,h.hg,h.gvl G hf hx,?_⟩
 repeat (first|walk_at "s"|simp only[gv])
 exact q
abbrev BA:SpM:=λvs M Q=>∃(r:Addr) (W:Wld) (R:RunS) (mm:Nat->Int) (j:Nat) (f:Fer) (x:Boat),vs=[.ref r,.str f.name]/\W.Good/\RunAt M W r R mm/\W.fer[j]?=some f/\R.bs[j]?=some x/\∀p,M p=none->Q (.ref p) (updM M p (.lst ((x.A.ws.take x.A.tn).map natM)))
theorem RE:MonW BA:=by walk_at "m"
theorem Zep(T:Txt K mg t):FnOk P w K mg base CX0 3 t.f_Run_taken t.d_Run_taken ["self","name"] (liSp K BA):=by
 refine T.F_Run_taken.okM Ze7 (Xn (P:=P) (w:=w) (K:=K) (mg:=mg) (base:=base) (k:=2) (G:=OW) (Φ:=[("looked_up",Wu)]) (Ψ:=[]) (Χ:=[("looked_up",Wu)]) rfl (Xo T) (Xp T) rfl (fMc ⟨RB,nl0⟩) (fMc ⟨⟨_,_,_,(FnOk.mono (RC T) (by decide)),T.q_looked_up.m,T.q_looked_up.F.kp,T.q_looked_up.b⟩,nl0⟩) nl0 nl0 (Xq T)) Gc Zf0 (fun vs M Q h=>?_) (fun vs M Q h=>?_)
 ·obtain⟨_,_,_,_,_,_,_,rfl,_⟩:=h;rfl
 obtain⟨r,W,R,mm,j,f,x,rfl,G,h,hf,hx,q⟩:=h;show wSs _ _ _ [some (.ref r),some (.str f.name)] M;have ob:=h.ob;have tk:=(h.ba j f x hf hx).tk;delta Gc OV
 repeat (first|walk_at "s"|simp only[ob,runO,valM])
 refine⟨_,_,_,_,rfl,h.ht,h.tkl G hf hx,?_⟩
 repeat (first|walk_at "s"|simp only[tk])
 exact q
theorem ZkJ{W:Wld}{I:Isl}{i:Nat}{s:Stp}(ok:IslOk W.w W.fns I)(hs:I.stps[i]?=some s) (ρ:Str->Int):∃n:Nat,Wm s ρ W.w i=(n:Int)/\n≤I.stps.length:=by
 have hi:=(XV.mp hs).1;have st:=ok.st s (XE hs);have nx:∃n:Nat,(i:Int)+1=(n:Int)/\n≤I.stps.length:=⟨i+1,by lia,hi⟩
 cases s with
 |jump T j=>
  unfold Wm;by_cases c:T.val ρ W.w≠0
  ·simp only[if_pos c];exact⟨j.toNat,by have:=st.2.1;lia,by have:=st.2.1;have:=st.2.2;lia⟩
  ·simp only[if_neg c];exact nx
 |take _ _=>exact nx
 |give _ _=>exact nx
 |put _ _=>exact nx
theorem ZjE{W:Wld}{I:Isl}{s:Stp}{kvs:List (Key×MV)}{wd:MV}(w1:1≤W.w)(ok:IslOk W.w W.fns I)(hs:s∈I.stps)(wk:WdOk W.w I kvs)(hw:∀f x,s=.take f x->∃v:Int,wd=.int v/\0≤v/\v<2^W.w):WdOk W.w I (Db s kvs (rhoK kvs) W.w wd):=by
 have st:=ok.st s hs;cases s with
 |take f x=>
  obtain⟨v,rfl,hv⟩:=hw f x rfl;exact wk.put ok.nd st.2 hv
 |put x T=>exact wk.put ok.nd st.1 (T.val_in w1 λy hy=>(wk.at ok.nd (st.2.2.2 y hy)).2)
 |give _ _=>exact wk
 |jump _ _=>exact wk
abbrev UU:SpM:=λvs M Q=>∃(r:Addr) (W:Wld) (R:RunS) (mm:Nat->Int) (i n:Nat) (I:Isl) (s:Stp) (wd:MV),vs=[.ref r,.str I.name,.tup (I.stps.map Stp.mv),wd]/\W.Good/\RunAt M W r R mm/\W.isl[i]?=some I/\R.nums[i]?=some n/\I.stps[n]?=some s/\(∀f x,s=.take f x->∃v:Int,wd=.int v/\0≤v/\v<2^W.w)/\
 ∀R' M',R'.m=R.m->R'.bs=R.bs->RunAt M' W r R' mm->Kept M M' r R R'->Q .non M'
theorem Zas:MonW UU:=by walk_at "m"
theorem Zeq(T:Txt K mg t):FnOk P w K mg base CX0 52 t.f_Run_go_on t.d_Run_go_on ["self","name","steps","word"] (liSp K UU):=by
 refine T.F_Run_go_on.okM Ze8 (Xn (P:=P) (w:=w) (K:=K) (mg:=mg) (base:=base) (k:=51) (G:=OS) (Φ:=[("after",De)]) (Ψ:=[]) (Χ:=[("after",De)]) rfl (Xo T) (Xp T) rfl (fMc ⟨Zew,nl0⟩) (fMc ⟨⟨_,_,_,(FnOk.mono (ZkC T) (by decide)),T.q_after.m,T.q_after.F.kp,T.q_after.b⟩,nl0⟩) nl0 nl0 (Xq T)) Ga Zf1 (fun vs M Q h=>?_) (fun vs M Q h=>?_)
 ·obtain⟨_,_,_,_,_,_,_,_,_,rfl,_⟩:=h;rfl
 obtain⟨r,W,R,mm,i,n,I,s,wd,rfl,G,h,hI,hn,hs,hw,q⟩:=h;show wSs _ _ _ [some (.ref r),some (.str I.name),some (.tup (I.stps.map Stp.mv)),some wd,none] M;have hi:i<W.isl.length:=(XV.mp hI).1;have i5:=G.i5;have ok:=G.io I (XE hI);obtain⟨a,ha⟩:∃a,R.ws[i]?=some a:=⟨_,Xd (by rw[h.wl];exact hi)⟩
 obtain⟨d,hd⟩:∃d,R.dn[i]?=some d:=⟨_,Xd (by rw[h.sl];exact hi)⟩
 obtain⟨kvs,hk,wk⟩:=h.wa i I a hI ha;have ob:=h.ob;have hpn:=h.hn;have hpw:=h.hw;have hps:=h.hs;have vn:=h.nml G hI hn;have vw:=h.wdl G hI ha;have vd:=h.dnl G hI hd;have nd:=h.nd;simp only[YF,Xr,not_or]at nd;obtain⟨⟨a1,a2,_⟩,⟨b2,_⟩,_⟩:=nd;have rn:∀b kv,M b=some (.dic kv)->r≠b:=λb kv e z=>by subst z;rw[ob]at e;cases e
 have r1:=rn _ _ hpn;have r2:=rn _ _ hpw;have r3:=rn _ _ hps;have lz:∀vs:List MV,vs.length=W.isl.length->(zipK W.ins vs).length<16777216:=λvs e=>by rw[GU (by rw[Wt];exact e),Wt];lia
 delta Ga OR
 repeat (first|walk_at "s"|simp only[ob,runO,valM,Wld.mv,hpn,hpw,vn,vw])
 refine⟨_,a,I.stps,n,W.w,kvs,rhoK kvs,I.vars,s,wd,rfl,.inl rfl,hs,RA (ok.st s (XE hs)),G.w1,G.w2,hk,by rw[wk.len];unfold Isl.vars;rw[Xa];have:=ok.nv;lia,wk.reads ok.nd,λp hp=>?_⟩
 obtain⟨n',hn',hn2⟩:=ZkJ ok hs (rhoK kvs);rw[hn'];have wk':=ZjE (wd:=wd) G.w1 ok (XE hs) wk hw;generalize Db s kvs (rhoK kvs) W.w wd=kvs' at*;have s1:=SameM.new hp (.dic kvs');have hk1:updM M p (.dic kvs') p=some (.dic kvs'):=X9;have pn:R.pn≠p:=neM hpn hp;have pw:R.pw≠p:=neM hpw hp;have ps:R.ps≠p:=neM hps hp;have ob1:=s1 _ _ ob;have hpn1:=s1 _ _ hpn;have hpw1:=s1 _ _ hpw;have hps1:=s1 _ _ hps;generalize updM M p _=M1 at*;delta OQ
 repeat (first|walk_at "s"|simp only[ob1,runO,valM,hpn1])
 refine⟨lz _ (by rw[Xa];exact h.nl),?_⟩
 rw[By (i:=i) (by rw[Xa,Wt];exact h.nl) G.in_nd (UT hI)]
 have e1:(R.nums.map natM).set i (.int n')=(R.nums.set i n').map natM:=by rw[WE]
 rw[e1];have ob2:updM M1 R.pn (.dic (zipK W.ins ((R.nums.set i n').map natM))) r=_:=(Xc r1).trans ob1;have hn2':updM M1 R.pn (.dic (zipK W.ins ((R.nums.set i n').map natM))) R.pn=_:=X9;have hw2:updM M1 R.pn (.dic (zipK W.ins ((R.nums.set i n').map natM))) R.pw=_:=(Xc (XU a1)).trans hpw1;have hs2:updM M1 R.pn (.dic (zipK W.ins ((R.nums.set i n').map natM))) R.ps=_:=(Xc (XU a2)).trans hps1;have hk2:updM M1 R.pn (.dic (zipK W.ins ((R.nums.set i n').map natM))) p=_:=(Xc (XU pn)).trans hk1;have f2:∀b o,M1 b=some o->b≠R.pn->updM M1 R.pn (.dic (zipK W.ins ((R.nums.set i n').map natM))) b=some o:=λb o e z=>(Xc z).trans e;generalize updM M1 R.pn _=M2 at*;delta OP
 repeat (first|walk_at "s"|simp only[ob2,runO,valM,hw2])
 refine⟨lz _ (by rw[Xa];exact h.wl),?_⟩
 rw[By (i:=i) (by rw[Xa,Wt];exact h.wl) G.in_nd (UT hI)]
 have e2:(R.ws.map MV.ref).set i (.ref p)=(R.ws.set i p).map MV.ref:=by rw[WE]
 rw[e2];have ob3:updM M2 R.pw (.dic (zipK W.ins ((R.ws.set i p).map MV.ref))) r=_:=(Xc r2).trans ob2;have hn3:updM M2 R.pw (.dic (zipK W.ins ((R.ws.set i p).map MV.ref))) R.pn=_:=(Xc a1).trans hn2';have hw3:updM M2 R.pw (.dic (zipK W.ins ((R.ws.set i p).map MV.ref))) R.pw=_:=X9;have hs3:updM M2 R.pw (.dic (zipK W.ins ((R.ws.set i p).map MV.ref))) R.ps=_:=(Xc (XU b2)).trans hs2;have hk3:updM M2 R.pw (.dic (zipK W.ins ((R.ws.set i p).map MV.ref))) p=_:=(Xc (XU pw)).trans hk2;have f3:∀b o,M2 b=some o->b≠R.pw->updM M2 R.pw (.dic (zipK W.ins ((R.ws.set i p).map MV.ref))) b=some o:=λb o e z=>(Xc z).trans e;generalize updM M2 R.pw _=M3 at*;delta OO
 repeat (first|walk_at "s"|simp only[ob3,runO,valM,hs3,vd])
 refine⟨lz _ (by rw[Xa];exact h.sl),?_⟩
 rw[By (i:=i) (by rw[Xa,Wt];exact h.sl) G.in_nd (UT hI)]
 have e3:(R.dn.map natM).set i (.int ((d:Int)+1))=(R.dn.set i (d+1)).map natM:=by rw[WE];rfl
 rw[e3];obtain⟨A,B⟩:=h.went (M':=updM M3 R.ps (.dic (zipK W.ins ((R.dn.set i (d+1)).map natM)))) hI hn2 hp (λb o e z1 z2 z3=>(Xc z3).trans (f3 b o (f2 b o (s1 b o e) z1) z2)) ((Xc (XU ps)).trans hk3) wk' ((Xc a2).trans hn3) ((Xc b2).trans hw3) X9;exact q {R with nums:=R.nums.set i n',ws:=R.ws.set i p,dn:=R.dn.set i (d+1)} _ rfl rfl A B
def Zqh(w:Nat)(f:Fer)(o:Option Stp)(ρ:Str->Int)(v:MV):Prop:=v=.non\/(∃T,o=some (.give f.name T)/\v=askO o ρ w)\/∃(x:Str) (n:Nat),o=some (.take f.name x)/\n<2^w/\v=.tup [.str "take",.str f.name,.int n]
abbrev Vt:SpM:=λvs M Q=>∃(r:Addr) (W:Wld) (R:RunS) (mm:Nat->Int) (j:Nat) (f:Fer) (z:Str) (c:Nat) (o:Option Stp) (ρ:Str->Int),vs=[.ref r,f.mv,.str z,.int c,askO o ρ W.w]/\W.Good/\RunAt M W r R mm/\mm j≤R.m/\W.fer[j]?=some f/\(z=f.giver\/z=f.taker)/\(∀s,o=some s->U9 W.fer z s)/\(∀g T,o=some (.give g T)->0≤T.val ρ W.w/\T.val ρ W.w<2^W.w)/\(∀y∈R.bs,y.A.ws.length≤1000)/\
 ∀R' M' v (sm:Int),R'.m=R.m->R'.nums=R.nums->RunAt M' W r R' (λi=>if i=j then R.m+1 else mm i)->Kept M M' r R R'->Zqh W.w f o ρ v->(∀a a',R.bs[j]?=some a->R'.bs[j]?=some a'->a'.A.ws.length≤a.A.ws.length+1)->(∀(i:Nat),i≠j->R'.bs[i]?=R.bs[i]?)->Q (.tup [v,.int sm]) M'
theorem Z5F:MonW Vt:=by walk_at "m"
theorem ZmI{w:Nat}{v:Int}(h0:0≤v)(h1:v<2^w):∃n:Nat,v=(n:Int)/\n<2^w:=by
 refine⟨v.toNat,(UG h0).symm,?_⟩;have e:((2:Int)^w)=((2^w:Nat):Int):=by rw[V9];rfl
 lia
theorem DF{R:RunS}{j:Nat}{x y:Boat}(hx:R.bs[j]?=some x) (hy:y.A.ws.length≤x.A.ws.length+1):∀a a',R.bs[j]?=some a->(R.bs.set j y)[j]?=some a'->a'.A.ws.length≤a.A.ws.length+1:=λa a' ha ha'=>by
 rw[hx]at ha;cases ha;rcases Vq ha' with⟨_,rfl⟩|⟨ne,_⟩
 ·exact hy
 ·exact absurd rfl ne
theorem Z8Z(T:Txt K mg t):FnOk P w K mg base CX0 5 t.f_Run_ring_ferry t.d_Run_ring_ferry ["self","ferry","name","choice","asked"] (liSp K Vt):=by
 refine T.F_Run_ring_ferry.okM Z8W (Xn (P:=P) (w:=w) (K:=K) (mg:=mg) (base:=base) (k:=4) (G:=ON) (Φ:=[("is_wish_of",Ws)]) (Ψ:=[("Ferry_ring_giver",Vn),("Ferry_ring_taker",Wr)]) (Χ:=[("is_wish_of",Ws),("Ferry_ring_giver",Vn),("Ferry_ring_taker",Wr)]) rfl (Xo T) (Xp T) rfl (fMc ⟨Z93,(fMc ⟨Z4S,(fMc ⟨Z4R,nl0⟩)⟩)⟩) (fMc ⟨⟨_,_,_,(FnOk.mono (Zdj T) (by decide)),T.q_is_wish_of.m,T.q_is_wish_of.F.kp,T.q_is_wish_of.b⟩,nl0⟩) (fMc ⟨⟨_,_,rfl,_,_,_,_,(FnOk.mono (Z7P T) (by decide)),T.n_Ferry,T.l_Ferry,T.m_Ferry_ring_giver,T.b_Ferry_ring_giver⟩,(fMc ⟨⟨_,_,rfl,_,_,_,_,(FnOk.mono (Z7O T) (by decide)),T.n_Ferry,T.l_Ferry,T.m_Ferry_ring_taker,T.b_Ferry_ring_taker⟩,nl0⟩)⟩) nl0 (Xq T)) G9 Z9f (fun vs M Q h=>?_) (fun vs M Q h=>?_)
 ·obtain⟨_,_,_,_,_,_,_,_,_,_,rfl,_⟩:=h;rfl
 obtain⟨r,W,R,mm,j,f,z,c,o,ρ,rfl,G,h,hmj,hf,hz,hE,hT,hL,q⟩:=h;show wSs _ _ _ [some (.ref r),some f.mv,some (.str z),some (.int c),some (askO o ρ W.w),none,none,none] M;have hj:j<W.fer.length:=(XV.mp hf).1;have fm:f∈W.fer:=XE hf;have fok:=G.fo f fm;obtain⟨x,hx⟩:∃x,R.bs[j]?=some x:=⟨_,Xd (by rw[h.bl];exact hj)⟩
 have b:=h.ba j f x hf hx;have xl:=hL x (XE hx);have ob:=h.ob;have hb:=h.hb;have hg:=h.hg;have ht:=h.ht;have vb:=h.btl G hf hx;have vg:=h.gvl G hf hx;have vt:=h.tkl G hf hx;have fe:=b.fy.fe;have mm':∀i,i≠j->mm i≤(λi=>if i=j then R.m+1 else mm i) i:=λi ne=>by simp[ne]
 have m1:(λi=>if i=j then R.m+1 else mm i) j=R.m+1:=by simp
 have keepD:∀M',FrM M M' [x.b,x.g,x.u]->∀a kv,M a=some (.dic kv)->M' a=some (.dic kv):=λM' fr a kv e=>fr a _ e λc=>b.dic e (by
  simp only[Boat.ads,Xr,XR,or_false]at c ⊢;rcases c with c|c|c<;>simp[c])
 have keepR:∀M',FrM M M' [x.b,x.g,x.u]->M' r=some (runO W R):=λM' fr=>fr _ _ ob λc=>b.run ob (by
  simp only[Boat.ads,Xr,XR,or_false]at c ⊢;rcases c with c|c|c<;>simp[c])
 have glo:x.gl∉ [x.b,x.g,x.u]:=Rj b.fy b.gv;have tlo:x.tl∉ [x.b,x.g,x.u]:=Rj b.fy b.tk;have adF:∀M',FrM M M' [x.b,x.g,x.u]->FrM M M' x.ads:=λM' fr a o e hn=>fr a o e λc=>hn (by
  simp only[Boat.ads,Xr,XR,or_false]at c ⊢;rcases c with c|c|c<;>simp[c])
 delta G9 OM
 repeat (first|walk_at "s"|simp only[ob,runO,valM,Fer.mv,hb,vb])
 delta OL
 repeat (first|walk_at "s"|simp only[Fer.mv])
 refine⟨o,ρ,W.w,f.name,rfl,?_⟩;delta OK
 repeat (first|walk_at "s"|simp only[Fer.mv])
 refine Yb (λcg=>?_) (λcg=>?_)
 · -- the giver's end
  have wsh:Yx o f.name=true->∃T,o=some (.give f.name T):=λe=>by
   rcases o with _|s
   ·cases e
   ·cases s with
    |take g y=>
     obtain rfl:g=f.name:=of_decide_eq_true e;exact absurd (cg.trans ((hE _ rfl) f fm rfl).symm) fok.ne
    |give g T=>
     obtain rfl:g=f.name:=of_decide_eq_true e;exact⟨T,rfl⟩
    |put _ _=>cases e
    |jump _ _=>cases e
  have go:∀(xo:Option Nat) (v:MV),v=wM xo->(xo=none\/∃T n,o=some (.give f.name T)/\askO o ρ W.w=.tup [.str "give",.str f.name,.int ((n:Nat):Int)]/\xo=some n/\n<2^W.w)->
    Vn [.ref x.b,.int R.m,.int c,v] M (fun v1 M1=>wSs ([("is_wish_of",Ws),("Ferry_ring_giver",Vn),("Ferry_ring_taker",Wr)]:List (Str×SpM)) G8 {nx:=fun σ M=>wSs ([("is_wish_of",Ws),("Ferry_ring_giver",Vn),("Ferry_ring_taker",Wr)]:List (Str×SpM)) G7 {nx:=fun _ M'=>Q .non M',rt:=Q} σ M,rt:=Q} [some (.ref r),some f.mv,some (.str z),some (.int c),some (askO o ρ W.w),some (.ref x.b),some (.bl (Yx o f.name)),some v1] M1):=by
   intro xo v hv hxo;subst hv;refine⟨x.b,x.p,x.g,x.u,x.A,R.m,c,xo,rfl,b.fy,VT b.gm hmj,VT b.tm hmj,λp' M1 hp' fr fy=>?_⟩;have gl1:=fr _ _ b.gv glo;have tl1:=fr _ _ b.tk tlo;have n1:x.gl≠p':=neM b.gv hp';have n2:x.tl≠p':=neM b.tk hp';have ads:∀(A:Ab),∀a∈(⟨x.b,p',x.g,x.u,x.gl,x.tl,A⟩:Boat).ads,a∈x.ads\/M a=none:=λA a ha=>by
    simp only[Boat.ads,Xr,XR,or_false]at ha ⊢;rcases ha with e|e|e|e|e|e
    ·exact .inl (.inl e)
    ·exact .inr (e▸hp')
    ·exact .inl (.inr (.inr (.inl e)))
    ·exact .inl (.inr (.inr (.inr (.inl e))))
    ·exact .inl (.inr (.inr (.inr (.inr (.inl e)))))
    ·exact .inl (.inr (.inr (.inr (.inr (.inr e)))))
   delta G8;walk_at "s";by_cases gvs:x.A.gives xo=true
   ·have eA:(x.A.giver R.m c xo).ws=x.A.ws++[xo.getD 0]:=if_pos gvs;rcases hxo with e|⟨T,n,eo,ea,rfl,hn⟩
    ·subst e;cases gvs
    rw[gvs];have g1:=keepD _ fr _ _ hg;have r1:=keepR _ fr;walk_at "s";delta OH
    repeat (first|walk_at "s"|simp only[Fer.mv,r1,runO,valM,g1,vg,gl1,ea])
    refine⟨⟨_,rfl⟩,by rw[Xa];lia,?_⟩
    have eM:x.A.ws.map natM++[MV.int (n:Int)]=(x.A.giver R.m c (some n)).ws.map natM:=by rw[eA,Y7];rfl
    rw[eM];have fy2:=fy.put gl1 n1 ((x.A.giver R.m c (some n)).ws.map natM);have gl2:updM M1 x.gl (.lst ((x.A.giver R.m c (some n)).ws.map natM)) x.gl=_:=X9;have tl2:updM M1 x.gl (.lst ((x.A.giver R.m c (some n)).ws.map natM)) x.tl=_:=(Xc (XU b.n1.1)).trans tl1;have fr2:FrM M (updM M1 x.gl (.lst ((x.A.giver R.m c (some n)).ws.map natM))) x.ads:=λa o e hn=>(Xc (λz=>hn (by simp[Boat.ads,z]))).trans (adF _ fr a o e hn)
    generalize updM M1 x.gl _=M2 at*;delta OG;walk_at "s";have tn:(x.A.giver R.m c (some n)).tn≤x.A.ws.length:=by
     have:=b.fy.ok.lg1;have:=(b.fy.ok.tb _ (ZA (by rw[b.fy.ok.tl];exact b.fy.ok.gl.1))).2
     have:=(b.fy.ok.tb _ (ZA (by rw[b.fy.ok.tl];exact b.fy.ok.gl.1))).1
     have:=b.fy.ok.lt1;show x.A.tn≤_;lia
    have hy:BoatAt M2 f W.w (R.m+1) ⟨x.b,p',x.g,x.u,x.gl,x.tl,x.A.giver R.m c (some n)⟩:=⟨fy2,gl2,by
      show M2 x.tl=some (.lst (((x.A.giver R.m c (some n)).ws.take (x.A.giver R.m c (some n)).tn).map natM));rw[tl2,eA,GZ tn];rfl,⟨b.n1.1,n1,n2⟩,b.k,by show R.m<R.m+1;lia,by show x.A.tm<R.m+1;have:=b.tm;lia,λu hu=>by
      have hu:u∈(x.A.giver R.m c (some n)).ws:=hu;rw[eA]at hu;rcases YN.mp hu with hu|hu
      ·exact b.wd u hu
      ·obtain rfl:u=n:=by simpa using hu
       exact hn⟩
    obtain⟨A1,A2⟩:=h.boat (y:=⟨x.b,p',x.g,x.u,x.gl,x.tl,x.A.giver R.m c (some n)⟩) (mm':=λi=>if i=j then R.m+1 else mm i) hf hx fr2 (by show BoatAt _ _ _ (if j=j then R.m+1 else mm j) _;rw[if_pos rfl];exact hy) rfl rfl rfl (ads _) mm'
    rw[<- ea];exact q {R with bs:=R.bs.set j _} M2 _ _ rfl rfl A1 A2 (.inr (.inl ⟨T,eo,rfl⟩)) (DF hx (by show(x.A.giver R.m c (some n)).ws.length≤_;rw[eA,Yz];exact Xi _)) (λi ne=>VD (XU ne))
   ·have eA:(x.A.giver R.m c xo).ws=x.A.ws:=if_neg gvs;rw[Bool.not_eq_true]at gvs;rw[gvs];walk_at "s";delta OI;walk_at "s";have hy:BoatAt M1 f W.w (R.m+1) ⟨x.b,p',x.g,x.u,x.gl,x.tl,x.A.giver R.m c xo⟩:=⟨fy,by
      show M1 x.gl=some (.lst ((x.A.giver R.m c xo).ws.map natM));rw[eA];exact gl1,by
      show M1 x.tl=some (.lst (((x.A.giver R.m c xo).ws.take (x.A.giver R.m c xo).tn).map natM));rw[eA];exact tl1,⟨b.n1.1,n1,n2⟩,b.k,by show R.m<R.m+1;lia,by show x.A.tm<R.m+1;have:=b.tm;lia,by
      show∀u∈(x.A.giver R.m c xo).ws,u<2^W.w;rw[eA];exact b.wd⟩
    obtain⟨A1,A2⟩:=h.boat (y:=⟨x.b,p',x.g,x.u,x.gl,x.tl,x.A.giver R.m c xo⟩) (mm':=λi=>if i=j then R.m+1 else mm i) hf hx (adF _ fr) (by show BoatAt _ _ _ (if j=j then R.m+1 else mm j) _;rw[if_pos rfl];exact hy) rfl rfl rfl (ads _) mm'
    exact q {R with bs:=R.bs.set j _} M1 _ _ rfl rfl A1 A2 (.inl rfl) (DF hx (by show(x.A.giver R.m c xo).ws.length≤_;rw[eA];exact UF _)) (λi ne=>VD (XU ne))
  delta OJ
  repeat (first|walk_at "s"|simp only[fe,Y0,valM,ob,runO])
  by_cases hw:Yx o f.name=true
  ·obtain⟨T,eo⟩:=wsh hw;obtain⟨v0,v1⟩:=hT _ T eo;obtain⟨n,en,hn⟩:=ZmI v0 v1;have ea:askO o ρ W.w=.tup [.str "give",.str f.name,.int (n:Int)]:=by rw[eo];show MV.tup [.str "give",.str f.name,.int (T.val ρ W.w)]=_;rw[en]
   have:=go (some n) _ rfl (.inr ⟨T,n,eo,ea,rfl,hn⟩);rw[if_pos hw]
   repeat (first|walk_at "s"|simp only[ea])
   rw[<- ea];exact this
  ·have:=go none _ rfl (.inl rfl);rw[if_neg hw]
   try walk_at "s"
   exact this
 · -- the taker's end
  have zt:f.taker=z:=(hz.resolve_left λe=>cg e.symm).symm;have wsh:Yx o f.name=true->∃y,o=some (.take f.name y):=λe=>by
   rcases o with _|s
   ·cases e
   ·cases s with
    |take g y=>
     obtain rfl:g=f.name:=of_decide_eq_true e;exact⟨y,rfl⟩
    |give g T=>
     obtain rfl:g=f.name:=of_decide_eq_true e;exact absurd ((hE _ rfl) f fm rfl) cg
    |put _ _=>cases e
    |jump _ _=>cases e
  delta G7
  repeat (first|walk_at "s"|simp only[fe,Y0,valM,ob,runO])
  refine⟨x.b,x.p,x.g,x.u,x.A,R.m,c,Yx o f.name,rfl,b.fy,VT b.gm hmj,VT b.tm hmj,λM1 fr fy=>?_⟩;have gl1:=fr _ _ b.gv glo;have tl1:=fr _ _ b.tk tlo;have ads:∀(A:Ab),∀a∈(⟨x.b,x.p,x.g,x.u,x.gl,x.tl,A⟩:Boat).ads,a∈x.ads\/M a=none:=λA a ha=>.inl ha;delta OF;walk_at "s";by_cases tks:x.A.takes (Yx o f.name)=true
  ·have eT:takM x.A (Yx o f.name)=.int (x.A.ws.getD x.A.tn 0:Nat):=if_pos tks;have eA:(x.A.taker R.m c (Yx o f.name)).tn=x.A.tn+1:=if_pos tks;have hw:Yx o f.name=true:=((Y2 _ _).mp tks).1;have hlt:x.A.tn<x.A.ws.length:=by
    have m2:=ZA (xs:=x.A.tx) (by rw[b.fy.ok.tl];exact b.fy.ok.gl.1)
    have t1:=b.fy.ok.tb _ m2;have t2:=b.fy.ok.lt1;have t3:XN x.A.tx≠x.A.tn:=of_decide_eq_true ((Y2 _ _).mp tks).2;lia
   obtain⟨y,eo⟩:=wsh hw;have gd:x.A.ws.getD x.A.tn 0=x.A.ws[x.A.tn]:=by rw[Yr,Xd hlt];rfl
   rw[eT];have t1:=keepD _ fr _ _ ht;have r1:=keepR _ fr;walk_at "s";delta OD
   repeat (first|walk_at "s"|simp only[Fer.mv,r1,runO,valM,t1,vt,tl1])
   refine⟨⟨_,rfl⟩,by rw[Xa,YM];lia,?_⟩
   have eM:(x.A.ws.take x.A.tn).map natM++[MV.int ((x.A.ws.getD x.A.tn 0:Nat):Int)]=(x.A.ws.take (x.A.tn+1)).map natM:=by
    rw[Ui,Xd hlt,Y7,gd];rfl
   rw[eM];have fy2:=fy.put tl1 b.n1.2.2 ((x.A.ws.take (x.A.tn+1)).map natM);have tl2:updM M1 x.tl (.lst ((x.A.ws.take (x.A.tn+1)).map natM)) x.tl=_:=X9;have gl2:updM M1 x.tl (.lst ((x.A.ws.take (x.A.tn+1)).map natM)) x.gl=_:=(Xc b.n1.1).trans gl1;have fr2:FrM M (updM M1 x.tl (.lst ((x.A.ws.take (x.A.tn+1)).map natM))) x.ads:=λa o e hn=>(Xc (λz=>hn (by simp[Boat.ads,z]))).trans (adF _ fr a o e hn)
   generalize updM M1 x.tl _=M2 at*;delta OC
   repeat (first|walk_at "s"|simp only[Fer.mv])
   have hy:BoatAt M2 f W.w (R.m+1) ⟨x.b,x.p,x.g,x.u,x.gl,x.tl,x.A.taker R.m c (Yx o f.name)⟩:=⟨fy2,gl2,by
     show M2 x.tl=some (.lst ((x.A.ws.take (x.A.taker R.m c (Yx o f.name)).tn).map natM));rw[eA];exact tl2,b.n1,b.k,by show x.A.gm<R.m+1;have:=b.gm;lia,by show R.m<R.m+1;lia,b.wd⟩
   obtain⟨A1,A2⟩:=h.boat (y:=⟨x.b,x.p,x.g,x.u,x.gl,x.tl,x.A.taker R.m c (Yx o f.name)⟩) (mm':=λi=>if i=j then R.m+1 else mm i) hf hx fr2 (by show BoatAt _ _ _ (if j=j then R.m+1 else mm j) _;rw[if_pos rfl];exact hy) rfl rfl rfl (ads _) mm'
   exact q {R with bs:=R.bs.set j _} M2 _ _ rfl rfl A1 A2 (.inr (.inr ⟨y,_,eo,by rw[gd];exact b.wd _ (Y1 hlt),rfl⟩)) (DF hx (UF _)) (λi ne=>VD (XU ne))
  ·have eT:takM x.A (Yx o f.name)=.non:=if_neg tks;have eA:(x.A.taker R.m c (Yx o f.name)).tn=x.A.tn:=if_neg tks;rw[eT];walk_at "s";delta OE;walk_at "s";have hy:BoatAt M1 f W.w (R.m+1) ⟨x.b,x.p,x.g,x.u,x.gl,x.tl,x.A.taker R.m c (Yx o f.name)⟩:=⟨fy,gl1,by
     show M1 x.tl=some (.lst ((x.A.ws.take (x.A.taker R.m c (Yx o f.name)).tn).map natM));rw[eA];exact tl1,b.n1,b.k,by show x.A.gm<R.m+1;have:=b.gm;lia,by show R.m<R.m+1;lia,b.wd⟩
   obtain⟨A1,A2⟩:=h.boat (y:=⟨x.b,x.p,x.g,x.u,x.gl,x.tl,x.A.taker R.m c (Yx o f.name)⟩) (mm':=λi=>if i=j then R.m+1 else mm i) hf hx (adF _ fr) (by show BoatAt _ _ _ (if j=j then R.m+1 else mm j) _;rw[if_pos rfl];exact hy) rfl rfl rfl (ads _) mm'
   exact q {R with bs:=R.bs.set j _} M1 _ _ rfl rfl A1 A2 (.inl rfl) (DF hx (UF _)) (λi ne=>VD (XU ne))
abbrev DG:SpM:=λvs M Q=>∃(ns:List Str) (ys:List MV) (z:Str) (i:Nat) (y:MV),vs=[.tup ys,.str z]/\(∀(j:Nat) u,ys[j]?=some u->∃x r,u=.tup (.str x::r)/\ns[j]?=some x)/\ns.Nodup/\ns[i]?=some z/\ys[i]?=some y/\Q y M
theorem Z92:MonW DG:=by walk_at "m"
theorem Zdi(T:Txt K mg t):FnOk P w K mg base CX0 1 t.f_one_called t.d_one_called ["row","name"] (liSp K DG):=by
 refine T.q_one_called.F.okM Zd9 (Xn (P:=P) (w:=w) (K:=K) (mg:=mg) (base:=base) (k:=0) (G:=NZ) (Φ:=[]) (Ψ:=[]) (Χ:=[]) rfl (Xo T) (Xp T) rfl nl0 nl0 nl0 nl0 (Xq T)) FZ ZdH (λvs M Q h=>?_) (λvs M Q h=>?_)
 ·obtain⟨_,_,_,_,_,rfl,_⟩:=h;rfl
 obtain⟨ns,ys,z,k,y,rfl,ha,nd,hn,hy,q⟩:=h;show wSs _ _ _ [some (.tup ys),some (.str z),none] M;delta FZ NY;walk_at "s";obtain⟨J,hJ⟩:∃J:Nat->Sm->MH->Prop,∀j σ M',J j σ M'↔M'=M/\j≤k/\∃v,σ=[some (.tup ys),some (.str z),v]:=⟨_,λ_ _ _=>Yn⟩;refine⟨J,(hJ _ _ _).mpr ⟨rfl,YO _,_,rfl⟩,λj σ M' h=>trivial,?_,?_⟩
 ·rintro j u σ M' hu h;obtain⟨rfl,hj,v,rfl⟩:=(hJ _ _ _).mp h;have hu:ys[j]?=some u:=hu;obtain⟨x,r,rfl,hx⟩:=ha j u hu;delta NX;walk_at "s";refine Yb (λe=>?_) (λe=>?_)
  ·subst e;have:=(List.getElem?_inj (XV.mp hx).1 nd).mp (hx.trans hn.symm);subst this;rw[hy]at hu;cases hu;delta NW;walk_at "s";exact q
  ·refine(hJ _ _ _).mpr ⟨rfl,?_,_,rfl⟩;rcases Nat.lt_or_eq_of_le hj with l|l
   ·exact l
   ·subst l;rw[hx]at hn;exact absurd (YD hn) e
 ·rintro σ M' h;obtain⟨rfl,hj,v,rfl⟩:=(hJ _ _ _).mp h;have:=(XV.mp hy).1;have hj:ys.length≤k:=hj;lia
abbrev Vu:SpM:=λvs M Q=>∃(W:Wld) (i:Nat) (I:Isl),vs=[W.mv,.str I.name]/\W.Good/\W.isl[i]?=some I/\Q I.mv M
theorem Zaq:MonW Vu:=by walk_at "m"
theorem Zel(T:Txt K mg t):FnOk P w K mg base CX0 2 t.f_island_of t.d_island_of ["world","name"] (liSp K Vu):=by
 refine T.q_island_of.F.okM Ze1 (Xn (P:=P) (w:=w) (K:=K) (mg:=mg) (base:=base) (k:=1) (G:=O1) (Φ:=[("one_called",DG)]) (Ψ:=[]) (Χ:=[("one_called",DG)]) rfl (Xo T) (Xp T) rfl (fMc ⟨Z92,nl0⟩) (fMc ⟨⟨_,_,_,(FnOk.mono (Zdi T) (by decide)),T.q_one_called.m,T.q_one_called.F.kp,T.q_one_called.b⟩,nl0⟩) nl0 nl0 (Xq T)) G0 ZeU (fun vs M Q h=>?_) (fun vs M Q h=>?_)
 ·obtain⟨_,_,_,rfl,_⟩:=h;rfl
 obtain⟨W,i,I,rfl,G,hI,q⟩:=h;show wSs _ _ _ [some W.mv,some (.str I.name)] M;delta G0 O0;rw[Wld.mv];walk_at "s";refine⟨W.ins,W.isl.map Isl.mv,I.name,i,I.mv,rfl,λj u hu=>?_,G.in_nd,UT hI,by rw[Xw,hI];rfl,q⟩
 obtain⟨hj,rfl⟩:=YU hu;exact⟨_,_,rfl,UT (Xd hj)⟩
def GY(w:Nat)(o:Option Stp)(ρ:Str->Int)(v:MV):Prop:=v=Vr o\/(∃f T,o=some (.give f T)/\v=askO o ρ w)\/∃(f x:Str) (n:Nat),o=some (.take f x)/\n<2^w/\v=.tup [.str "take",.str f,.int n]
theorem RunAt.tick{M:MH}{W:Wld}{r:Addr}{R:RunS}{mm mm':Nat->Int}(h:RunAt M W r R mm)(hm:∀i,i<W.fer.length->mm i≤mm' i)(m:Int):RunAt (updM M r (runO W {R with m:=m})) W r {R with m:=m} mm'/\Kept M (updM M r (runO W {R with m:=m})) r R {R with m:=m}:=by
 have ne:∀a kv,M a=some (.dic kv)->a≠r:=λa kv e z=>by subst z;rw[h.ob]at e;cases e
 have d:∀a kv,M a=some (.dic kv)->updM M r (runO W {R with m:=m}) a=some (.dic kv):=λa kv e=>(Xc (ne a kv e)).trans e;refine⟨⟨X9,d _ _ h.hn,d _ _ h.hw,d _ _ h.hs,d _ _ h.hb,d _ _ h.hg,d _ _ h.ht,h.nl,h.wl,h.sl,h.bl,h.nb,λi I a hI ha=>let⟨k,e,o⟩:=h.wa i I a hI ha;⟨k,d _ _ e,o⟩,λj f x hf hx=>?_,h.sep,h.nd⟩,⟨λa o e hn=>(Xc λz=>hn (by simp[RunS.own,z])).trans e,λa ha=>.inl ha⟩⟩
 have b:=h.ba j f x hf hx;exact b.fr (hm j (XV.mp hf).1) λa ha o e=>(Xc λz=>b.run h.ob (by rw[<- z];exact ha)).trans e
theorem RunAt.le{M:MH}{W:Wld}{r:Addr}{R:RunS}{mm mm':Nat->Int}(h:RunAt M W r R mm)(hm:∀i,mm i≤mm' i):RunAt M W r R mm':={h with ba:=λj f x hf hx=>(h.ba j f x hf hx).fr (hm j) λ_ _ _ e=>e}
theorem RunAt.off{M:MH}{W:Wld}{r:Addr}{R:RunS}{mm:Nat->Int}(h:RunAt M W r R mm){p:Addr}{xs:List MV}(hp:M p=some (.lst xs))(hn:p∉R.own r)(o:MO):RunAt (updM M p o) W r R mm:=by
 have d:∀a kv,M a=some (.dic kv)->updM M p o a=some (.dic kv):=λa kv e=>(Xc λz=>by subst z;rw[hp]at e;cases e).trans e
 refine⟨(Xc λz=>hn (by rw[<- z];exact Yi ..)).trans h.ob,d _ _ h.hn,d _ _ h.hw,d _ _ h.hs,d _ _ h.hb,d _ _ h.hg,d _ _ h.ht,h.nl,h.wl,h.sl,h.bl,h.nb,λi I a hI ha=>let⟨k,e,u⟩:=h.wa i I a hI ha;⟨k,d _ _ e,u⟩,λj f x hf hx=>(h.ba j f x hf hx).fr (UH _) λa ha u e=>(Xc λz=>hn ?_).trans e,h.sep,h.nd⟩
 rw[<- z];exact XX _ (XX _ (XX _ (XX _ (VH.mpr ⟨x,XE hx,ha⟩))))
abbrev BB:SpM:=λvs M Q=>∃(r:Addr) (W:Wld) (R:RunS) (i:Nat) (I:Isl) (c:Nat),vs=[.ref r,.str I.name,.int c]/\W.Good/\RunAt M W r R (λ_=>R.m)/\W.isl[i]?=some I/\(∀y∈R.bs,y.A.ws.length≤900)/\
 ∀R' M' v,RunAt M' W r R' (λ_=>R'.m)->Kept M M' r R R'->(∀n,(∀y∈R.bs,y.A.ws.length≤n)->∀y∈R'.bs,y.A.ws.length≤n+1)->Q v M'
theorem RF:MonW BB:=by walk_at "m"
theorem UV{z a b:Str}:inV (toV (.str z)) ([MV.str a,.str b].map toV)=decide (z=a\/z=b):=by
 have:=Gs (z:=z) (zs:=[a,b])
 simpa using this
theorem Zfv(T:Txt K mg t):FnOk P w K mg base CX0 53 t.f_Run_ring t.d_Run_ring ["self","name","choice"] (liSp K BB):=by
 refine T.F_Run_ring.okM Zfs (Xn (P:=P) (w:=w) (K:=K) (mg:=mg) (base:=base) (k:=52) (G:=OB) (Φ:=[("island_of",Vu),("two_to",Z8),("what_alone",Vs),("wish",Vi)]) (Ψ:=[("Run_go_on",UU),("Run_ring_ferry",Vt)]) (Χ:=[("island_of",Vu),("two_to",Z8),("what_alone",Vs),("wish",Vi),("Run_go_on",UU),("Run_ring_ferry",Vt)]) rfl (Xo T) (Xp T) rfl (fMc ⟨Zaq,(fMc ⟨D5,(fMc ⟨Z91,(fMc ⟨Zfy,(fMc ⟨Zas,(fMc ⟨Z5F,nl0⟩)⟩)⟩)⟩)⟩)⟩) (fMc ⟨⟨_,_,_,(FnOk.mono (Zel T) (by decide)),T.q_island_of.m,T.q_island_of.F.kp,T.q_island_of.b⟩,(fMc ⟨⟨_,_,_,(FnOk.mono (D6 T) (by decide)),T.q_two_to.m,T.q_two_to.F.kp,T.q_two_to.b⟩,(fMc ⟨⟨_,_,_,(FnOk.mono (Zdh T) (by decide)),T.q_what_alone.m,T.q_what_alone.F.kp,T.q_what_alone.b⟩,(fMc ⟨⟨_,_,_,(FnOk.mono (Zn1 T) (by decide)),T.q_wish.m,T.q_wish.F.kp,T.q_wish.b⟩,nl0⟩)⟩)⟩)⟩) (fMc ⟨⟨_,_,rfl,_,_,_,_,(FnOk.mono (Zeq T) (by decide)),T.n_Run,T.l_Run,T.m_Run_go_on,T.b_Run_go_on⟩,(fMc ⟨⟨_,_,rfl,_,_,_,_,(FnOk.mono (Z8Z T) (by decide)),T.n_Run,T.l_Run,T.m_Run_ring_ferry,T.b_Run_ring_ferry⟩,nl0⟩)⟩) nl0 (Xq T)) G6 Zg4 (fun vs M Q h=>?_) (fun vs M Q h=>?_)
 ·obtain⟨_,_,_,_,_,_,rfl,_⟩:=h;rfl
 obtain⟨r,W,R,i,I,c,rfl,G,h,hI,hL,q⟩:=h;show wSs _ _ _ [some (.ref r),some (.str I.name),some (.int c),none,none,none,none,none,none,none,none] M;have hi:i<W.isl.length:=(XV.mp hI).1;have im:I∈W.isl:=XE hI;have ok:=G.io I im;have f6:=G.f6;obtain⟨n,hn⟩:∃n,R.nums[i]?=some n:=⟨_,Xd (by rw[h.nl];exact hi)⟩
 obtain⟨a,ha⟩:∃a,R.ws[i]?=some a:=⟨_,Xd (by rw[h.wl];exact hi)⟩
 obtain⟨kvs,hk,wk⟩:=h.wa i I a hI ha;have ob:=h.ob;have hpn:=h.hn;have hpw:=h.hw;have vn:=h.nml G hI hn;have vw:=h.wdl G hI ha;delta G6 OA
 repeat (first|walk_at "s"|simp only[ob,runO,valM])
 refine⟨W,i,I,rfl,G,hI,?_⟩
 repeat (first|walk_at "s"|simp only[Isl.mv])
 delta Oz
 repeat (first|walk_at "s"|simp only[ob,runO,valM,hpn,vn])
 delta Oy
 repeat (first|walk_at "s"|simp only[ob,runO,valM,Wld.mv,hpw,vw])
 refine⟨_,a,I.stps,n,W.w,kvs,rhoK kvs,I.vars,rfl,.inl rfl,λs hs=>RA (ok.st s hs),h.nb i I n hI hn,G.w1,G.w2,hk,wk.reads ok.nd,?_⟩;rw[Zq7];obtain⟨o,ho⟩:∃o,I.stps[n]?=o:=⟨_,rfl⟩;rw[ho];have hE:∀s,o=some s->U9 W.fer I.name s:=λs e=>G.en I im s (XE (ho.trans e));have hT:∀g T,o=some (.give g T)->0≤T.val (rhoK kvs) W.w/\T.val (rhoK kvs) W.w<2^W.w:=λg T e=>T.val_in G.w1 λy hy=>(wk.at ok.nd ((ok.st _ (XE (ho.trans e))).2.2.2 y hy)).2;generalize rhoK kvs=ρ at*;delta Ox;walk_at "s";refine⟨o,ρ,W.w,rfl,?_⟩;delta Ow;walk_at "s";intro p hp;have s1:=SameM.new hp (.lst []);have hp1:updM M p (.lst []) p=some (.lst []):=X9;have h1:=h.keep s1;have k1:Kept M (updM M p (.lst [])) r R R:=Kept.new s1;have own_some:∀b∈R.own r,∃u,M b=some u:=λb hb=>by
  simp only[RunS.own,Xr,VH]at hb;rcases hb with rfl|rfl|rfl|rfl|⟨x,hx,hb⟩
  ·exact⟨_,ob⟩
  ·exact⟨_,hpn⟩
  ·exact⟨_,hpw⟩
  ·exact⟨_,h.hs⟩
  ·obtain⟨j,hj,rfl⟩:=Yc hx;obtain⟨u,e,_⟩:=(h.ba j _ _ (Xd (by rw[<- h.bl];exact hj)) (Xd hj)).at_ b hb
   exact⟨u,e⟩
 have pno:p∉R.own r:=λz=>by
  obtain⟨u,e⟩:=own_some p z;rw[hp]at e;cases e
 generalize updM M p _=M1 at*;have ob1:=h1.ob;delta Ov
 repeat (first|walk_at "s"|simp only[ob1,runO,valM,Wld.mv,Xa])
 obtain⟨J,hJ⟩:∃J:Nat->Sm->MH->Prop,∀j σ M',J j σ M'↔∃(R1:RunS) (v:MV) (xs:List MV) (v8 v9 v10:Option MV),RunAt M' W r R1 (λk=>if k<j then R.m+1 else R.m)/\Kept M M' r R R1/\R1.m=R.m/\R1.nums=R.nums/\GY W.w o ρ v/\M' p=some (.lst xs)/\xs.length≤j/\p∉R1.own r/\(∀k,j≤k->R1.bs[k]?=R.bs[k]?)/\(∀n,(∀y∈R.bs,y.A.ws.length≤n)->∀y∈R1.bs,y.A.ws.length≤n+1)/\
  σ=[some (.ref r),some (.str I.name),some (.int c),some (.tup (I.stps.map Stp.mv)),some (.int n),some (askO o ρ W.w),some v,some (.ref p),v8,v9,v10]:=⟨_,λ_ _ _=>Yn⟩
 refine⟨by lia,by lia,J,(hJ _ _ _).mpr ⟨R,_,[],_,_,_,by simpa using h1,k1,rfl,rfl,.inl rfl,hp1,Xi _,pno,λ_ _=>rfl,λn hn y hy=>Nat.le_succ_of_le (hn y hy),rfl⟩,λj σ M' h=>trivial,?_,?_⟩
 ·rintro j y σ M2 hy hj;obtain⟨R1,v,xs,v8,v9,v10,hR,hK,em,en,hv,hxs,xl,hpo,hbs,hlen,rfl⟩:=(hJ _ _ _).mp hj;obtain⟨hjl,rfl⟩:=Bh hy;have hjl:j<W.fer.length:=by simpa using hjl
  have ej:((0:Int)+(j:Nat))=(j:Nat):=by lia
  have hf:W.fer[j]?=some W.fer[j]:=Xd hjl;generalize W.fer[j]=f at*;have nxt:∀(R2:RunS) (v2:MV) (ys:List MV) (M3:MH) (w8 w9 w10:Option MV),RunAt M3 W r R2 (λk=>if k<j+1 then R.m+1 else R.m)->Kept M M3 r R R2->R2.m=R.m->R2.nums=R.nums->GY W.w o ρ v2->M3 p=some (.lst ys)->ys.length≤j+1->p∉R2.own r->(∀k,j+1≤k->R2.bs[k]?=R.bs[k]?)->(∀n,(∀y∈R.bs,y.A.ws.length≤n)->∀y∈R2.bs,y.A.ws.length≤n+1)->
    J (j+1) [some (.ref r),some (.str I.name),some (.int c),some (.tup (I.stps.map Stp.mv)),some (.int n),some (askO o ρ W.w),some v2,some (.ref p),w8,w9,w10] M3:=λR2 v2 ys M3 w8 w9 w10 a1 a2 a3 a4 a5 a6 a7 a8 a9 b1=>(hJ _ _ _).mpr ⟨R2,v2,ys,_,_,_,a1,a2,a3,a4,a5,a6,a7,a8,a9,b1,rfl⟩
  have ob2:=hR.ob;have af:atI (W.fer.map Fer.mv) (j:Int)=some f.mv:=YI (by rw[Xw,hf];rfl)
  rw[ej];delta Ou
  repeat (first|walk_at "s"|simp only[ob2,runO,valM,Wld.mv,af])
  delta Ot
  repeat (first|walk_at "s"|simp only[Fer.mv])
  refine⟨rfl,rfl,?_⟩;rw[UV];walk_at "s";refine Yb (λcz=>?_) (λcz=>?_)
  ·delta Os
   repeat (first|walk_at "s"|simp only[ob2,runO,valM])
   have e8:(8:Int)*(j:Int)=((8*j:Nat):Int):=by lia
   rw[e8];refine⟨8*j,rfl,by lia,?_⟩
   walk_at "s";obtain⟨c2,hc2⟩:∃c2:Nat,(c:Int)/2^(8*j)=(c2:Int):=⟨c/2^(8*j),by rw[Int.natCast_ediv,V9];rfl⟩
   rw[hc2];refine⟨⟨Bi _,Int.lt_of_le_of_lt (Qp (by lia)) (by decide)⟩,?_⟩
   refine⟨r,W,R1,_,j,f,I.name,c2,o,ρ,rfl,G,hR,by rw[em];simp,hf,cz,hE,hT,λy hy=>Y8 (hlen 900 hL y hy) (by decide),λR2 M3 v2 sm a1 a2 a3 a4 a5 a6 a7=>?_⟩
   have hp3:=a4.fr _ _ hxs hpo;have pno2:p∉R2.own r:=λz=>by
    rcases a4.nw p z with y|y
    ·exact hpo y
    ·rw[hxs]at y;cases y
   have a3':RunAt M3 W r R2 (λk=>if k<j+1 then R.m+1 else R.m):=a3.le λk=>by
    show(if k=j then R1.m+1 else if k<j then R.m+1 else R.m)≤_;rw[em];by_cases e1:k=j
    ·subst e1;rw[if_pos rfl,if_pos (C8 _)];exact UH _
    ·rw[if_neg e1];by_cases e2:k<j
     ·rw[if_pos e2,if_pos (by lia)];exact UH _
     ·rw[if_neg e2,if_neg (by lia)];exact UH _
   have k3:=hK.trans a4;delta Oq
   repeat (first|walk_at "s"|simp only[Fer.mv,hp3])
   refine⟨⟨_,rfl⟩,by lia,?_⟩
   have r4:=a3'.off hp3 pno2 (.lst (xs++[.tup [.str f.name,.int sm]]));have p4:updM M3 p (.lst (xs++[.tup [.str f.name,.int sm]])) p=some (.lst (xs++[.tup [.str f.name,.int sm]])):=X9;have k4:Kept M (updM M3 p (.lst (xs++[.tup [.str f.name,.int sm]]))) r R R2:=⟨λb u e hb=>(Xc (neM e hp)).trans (k3.fr b u e hb),k3.nw⟩;generalize updM M3 p _=M4 at*;have bs4:∀k,j+1≤k->R2.bs[k]?=R.bs[k]?:=λk hk=>(a7 k (by lia)).trans (hbs k (by lia))
   have ln4:∀n,(∀y∈R.bs,y.A.ws.length≤n)->∀y∈R2.bs,y.A.ws.length≤n+1:=λm hm y hy=>by
    obtain⟨k,hk,rfl⟩:=Yc hy;have e2:=Xd hk;by_cases e:k=j
    ·subst e;have l2:k<R1.bs.length:=by rw[hR.bl];exact hjl
     have e1:=Xd l2;have:=a6 _ _ e1 e2;have e0:=(hbs k (Xi _)).symm.trans e1;have:=hm _ (XE e0);lia
    ·rw[a7 k e]at e2;exact hlen m hm _ (XE e2)
   have fin:∀v3 w8 w9 w10,GY W.w o ρ v3->J (j+1) [some (.ref r),some (.str I.name),some (.int c),some (.tup (I.stps.map Stp.mv)),some (.int n),some (askO o ρ W.w),some v3,some (.ref p),w8,w9,w10] M4:=λv3 w8 w9 w10 hv3=>nxt R2 v3 _ M4 w8 w9 w10 r4 k4 (a1.trans em) (a2.trans en) hv3 p4 (by rw[Yz];simpa using xl) pno2 bs4 ln4
   delta Op;rcases a5 with rfl|⟨T,eo,rfl⟩|⟨y,m,eo,hm,rfl⟩
   ·walk_at "s";exact fin _ _ _ _ hv
   ·have ea:askO o ρ W.w=.tup [.str "give",.str f.name,.int (T.val ρ W.w)]:=by rw[eo];rfl
    repeat (first|walk_at "s"|simp only[ea])
    delta G5;walk_at "s";have:=fin (askO o ρ W.w) (some (.int (j:Int))) (some f.mv) (some (.tup [askO o ρ W.w,.int sm])) (.inr (.inl ⟨_,T,eo,rfl⟩));rw[ea]at this;exact this
   ·walk_at "s";delta G5;walk_at "s";exact fin _ _ _ _ (.inr (.inr ⟨_,y,m,eo,hm,rfl⟩))
  ·refine nxt R1 v xs M2 _ _ _ (hR.le λk=>?_) hK em en hv hxs (by lia) hpo (λk hk=>hbs k (by lia)) hlen
   show(if k<j then R.m+1 else R.m)≤(if k<j+1 then R.m+1 else R.m);by_cases e2:k<j
   ·rw[if_pos e2,if_pos (by lia)];exact UH _
   ·rw[if_neg e2];by_cases e3:k<j+1
    ·rw[if_pos e3];lia
    ·rw[if_neg e3];exact UH _
 ·rintro σ M2 hj;obtain⟨R1,v,xs,v8,v9,v10,hR,hK,em,en,hv,hxs,xl,hpo,hbs,hlen,rfl⟩:=(hJ _ _ _).mp hj;have ob2:=hR.ob;obtain⟨t1,t2⟩:=hR.tick (mm':=λ_=>R1.m+1) (λk hk=>by rw[em];show(if _ then _ else _)≤_;split<;>lia) (R1.m+1)
  have k2:=hK.trans t2;delta Oo
  repeat (first|walk_at "s"|simp only[ob2,runO,valM,putM])
  have eo:updM M2 r (runO W {R1 with m:=R1.m+1})=updM M2 r (.ins "Run" [("world",W.mv),("moment",.int (R1.m+1)),("next_numbers",.ref R1.pn),("words_now",.ref R1.pw),("steps_so_far",.ref R1.ps),("boats",.ref R1.pb),("given_so_far",.ref R1.pg),("taken_so_far",.ref R1.pt)]):=rfl;rw[eo]at t1 k2;generalize updM M2 r _=M3 at*;have ret:∀(R3:RunS) (M4:MH) (D:EndM),D.rt=Q->RunAt M4 W r R3 (fun _=>R3.m)->Kept M M4 r R R3->(∀n,(∀y∈R.bs,y.A.ws.length≤n)->∀y∈R3.bs,y.A.ws.length≤n+1)->∀v8 v9 v10,wSs ([("island_of",Vu),("two_to",Z8),("what_alone",Vs),("wish",Vi),("Run_go_on",UU),("Run_ring_ferry",Vt)]:List (Str×SpM)) Bf D [some (.ref r),some (.str I.name),some (.int c),some (.tup (I.stps.map Stp.mv)),some (.int n),some (askO o ρ W.w),some v,some (.ref p),v8,v9,v10] M4:=by
   intro R3 M4 D hD a1 a2 a3 v8 v9 v10;delta Bf;walk_at "s";rw[hD];exact q R3 M4 _ a1 a2 a3
  have stay:∀D:EndM,D.rt=Q->∀v8 v9 v10,wSs ([("island_of",Vu),("two_to",Z8),("what_alone",Vs),("wish",Vi),("Run_go_on",UU),("Run_ring_ferry",Vt)]:List (Str×SpM)) Bf D [some (.ref r),some (.str I.name),some (.int c),some (.tup (I.stps.map Stp.mv)),some (.int n),some (askO o ρ W.w),some v,some (.ref p),v8,v9,v10] M3:=fun D hD=>ret {R1 with m:=R1.m+1} M3 D hD t1 k2 hlen;have ob3:=t1.ob;have go:∀(s:Stp) (wd:MV),o=some s->(∀f x,s=.take f x->∃v:Int,wd=.int v/\0≤v/\v<2^W.w)->∀v8 v9 v10,UU [.ref r,.str I.name,.tup (I.stps.map Stp.mv),wd] M3 (fun _ M4=>wSs ([("island_of",Vu),("two_to",Z8),("what_alone",Vs),("wish",Vi),("Run_go_on",UU),("Run_ring_ferry",Vt)]:List (Str×SpM)) Bf {nx:=fun _ M'=>Q .non M',rt:=Q} [some (.ref r),some (.str I.name),some (.int c),some (.tup (I.stps.map Stp.mv)),some (.int n),some (askO o ρ W.w),some v,some (.ref p),v8,v9,v10] M4):=fun s wd es hw v8 v9 v10=>
   ⟨r,W,{R1 with m:=R1.m+1},_,i,n,I,s,wd,rfl,G,t1,hI,by show R1.nums[i]?=_;rw[en];exact hn,ho.trans es,hw,λR' M4 e1 e2 a1 a2=>ret R' M4 _ rfl (a1.le λ_=>Int.le_of_eq e1.symm) (k2.trans a2) (by rw[e2];exact hlen) v8 v9 v10⟩
  delta On;rcases hv with rfl|⟨f,T,es,rfl⟩|⟨f,y,m,es,hm,rfl⟩
  ·rcases o with _|s
   ·simp only[Vr]at stay ⊢;walk_at "s";refine⟨rfl,rfl,?_⟩;rw[UV];walk_at "s";exact stay _ rfl _ _ _
   ·cases s with
    |take f x=>
     simp only[Vr]at stay ⊢;walk_at "s";refine⟨rfl,rfl,?_⟩;rw[UV];walk_at "s";exact stay _ rfl _ _ _
    |give f T=>
     simp only[Vr]at stay ⊢;walk_at "s";refine⟨rfl,rfl,?_⟩;rw[UV];walk_at "s";exact stay _ rfl _ _ _
    |put x T=>
     have:=go _ .non rfl (λf x e=>nomatch e) v8 v9 v10;simp only[Vr]at this ⊢;walk_at "s";refine⟨rfl,rfl,?_⟩;rw[UV];walk_at "s";delta Bg
     repeat (first|walk_at "s"|simp only[ob3,runO,valM])
     exact this
    |jump T x=>
     have:=go _ .non rfl (λf x e=>nomatch e) v8 v9 v10;simp only[Vr]at this ⊢;walk_at "s";refine⟨rfl,rfl,?_⟩;rw[UV];walk_at "s";delta Bg
     repeat (first|walk_at "s"|simp only[ob3,runO,valM])
     exact this
  ·have this:=go _ .non es (λf x e=>nomatch e) v8 v9 v10;have ea:askO o ρ W.w=.tup [.str "give",.str f,.int (T.val ρ W.w)]:=by rw[es];rfl
   rw[ea]at this ⊢;walk_at "s";refine⟨rfl,rfl,?_⟩;rw[UV];walk_at "s";delta Bg
   repeat (first|walk_at "s"|simp only[ob3,runO,valM])
   exact this
  ·have this:=go _ (.int (m:Int)) es (λf x e=>⟨_,rfl,by lia,by
    have e:((2:Int)^W.w)=((2^W.w:Nat):Int):=by rw[V9];rfl
    lia⟩) v8 v9 v10
   walk_at "s";refine⟨rfl,rfl,?_⟩;rw[UV];walk_at "s";delta Bg
   repeat (first|walk_at "s"|simp only[ob3,runO,valM])
   exact this
theorem RG{w:Nat}{I:Isl}(nd:I.vars.Nodup)(wd:∀p∈I.prs,0≤p.2/\p.2<2^w):YR (I.prs.map λp=>((Xy p.1:Key),MV.int p.2))=zipK I.vars ((I.prs.map (·.2)).map MV.int)/\WdOk w I (zipK I.vars ((I.prs.map (·.2)).map MV.int)):=by
 have e:∀ps:List (Str×Int),(ps.map λp=>((Xy p.1:Key),MV.int p.2))=zipK (ps.map (·.1)) ((ps.map (·.2)).map MV.int):=λps=>by
  induction ps with
  |nil=>rfl
  |cons p r ih=>rw[XD,ih];rfl
 refine⟨by rw[e];exact GV (by simp) nd,I.prs.map (·.2),by unfold Isl.vars;simp,rfl,λv hv=>?_⟩
 obtain⟨p,hp,rfl⟩:=XY.mp hv;exact wd p hp
theorem Zpc(ps:List (Str×Int)):ps.map prV=(ps.map λp=>((Xy p.1:Key),MV.int p.2)).map prM:=by rw[Yv];rfl
theorem RI:∀{ks:List Str} {vs ys:List MV},vs.length=ks.length->ys.length=ks.length->(∀(j:Nat) k v,ks[j]?=some k->vs[j]?=some v->ys[j]?=some (.tup [.str k,v]))->ys=(zipK ks vs).map prM
 |[],[],[],_,_,_=>rfl
 |[],_::_,_,h,_,_=>by cases h
 |[],_,_::_,_,h,_=>by cases h
 |_::_,[],_,h,_,_=>by cases h
 |_::_,_,[],_,h,_=>by cases h
 |k::ks,v::vs,y::ys,h1,h2,h=>by
  have e:=h 0 k v rfl rfl;have e:y=.tup [.str k,v]:=by simpa using e
  rw[e,RI (ks:=ks) (vs:=vs) (ys:=ys) (by simpa using h1) (by simpa using h2) λj k v a b=>by simpa using h (j+1) k v (by simpa using a) (by simpa using b)]
  rfl
theorem FrM.grow{M M1 M2:MH}{l:List Addr}(h:FrM M M1 l)(s:SameM M1 M2):FrM M M2 l:=λa o e n=>s a o (h a o e n)
theorem CF{α β:Type}{d:α}{f:α->β}{L:List α}{n:Nat}(h:L.length=n):(Xx n).map (λj=>f (L.getD j d))=L.map f:=by
 apply BQ;intro i;rw[Xw,Xw];by_cases hi:i<n
 ·rw[Wz hi,Xd (by rw[h];exact hi),Cr,Cr,Yr,Xd (by rw[h];exact hi)];rfl
 ·rw[UB (by rw[UC];lia),UB (by lia)];rfl
def abOf(W:Wld)(j:Nat):Ab:=match W.fer[j]? with
 |some f=>ab0 f.k f.st
 |none=>ab0 0 1
def ZB(W:Wld)(Ns:List (List Addr))(gs ts:List Addr)(j:Nat):Boat:=⟨(Ns.getD j []).getD 0 default,(Ns.getD j []).getD 1 default,(Ns.getD j []).getD 2 default,(Ns.getD j []).getD 3 default,gs.getD j default,ts.getD j default,abOf W j⟩
theorem RJ:∀{L:List (List Addr)} {i j:Nat} {x y:List Addr},L.flatten.Nodup->L[i]?=some x->L[j]?=some y->i≠j->∀a∈x,a∉y
 |[],_,_,_,_,_,h,_,_=>by simp at h
 |l::L,0,0,_,_,_,_,_,ne=>absurd rfl ne
 |l::L,0,j+1,x,y,nd,h1,h2,_=>λa ha hb=>by
  rw[ZU,ZD]at nd;obtain rfl:l=x:=by simpa using h1
  exact nd.2.2 a ha a (VG.mpr ⟨y,XE (by simpa using h2),hb⟩) rfl
 |l::L,i+1,0,x,y,nd,h1,h2,_=>λa ha hb=>by
  rw[ZU,ZD]at nd;obtain rfl:l=y:=by simpa using h2
  exact nd.2.2 a hb a (VG.mpr ⟨x,XE (by simpa using h1),ha⟩) rfl
 |l::L,i+1,j+1,x,y,nd,h1,h2,ne=>by
  rw[ZU,ZD]at nd;exact RJ nd.2.1 (by simpa using h1) (by simpa using h2) (λe=>ne (by rw[e]))
theorem Ub{L:List Addr}{j:Nat}(h:j<L.length):L.getD j default∈L/\L[j]?=some (L.getD j default):=by
 rw[Yr,Xd h];exact⟨Y1 h,rfl⟩
theorem RK{L:List Addr}(nd:L.Nodup){i j:Nat}(hi:i<L.length)(hj:j<L.length)(ne:i≠j):L.getD i default≠L.getD j default:=λe=>by
 have:=(List.getElem?_inj hi nd).mp ((Ub hi).2.trans ((congrArg some e).trans (Ub hj).2.symm));exact ne this
abbrev BC:SpM:=fun vs M Q=>∃(r:Addr) (W:Wld),vs=[.ref r,W.mv]/\M r=some (.ins "Run" [])/\W.Good/\∀R M',FrM M M' [r]->RunAt M' W r R (fun _=>R.m)->(∀y∈R.bs,y.A.ws.length=0)->(∀a∈R.own r,a=r\/M a=none)->Q .non M'
theorem RL:MonW BC:=by walk_at "m"
theorem Zb5(T:Txt K mg t):FnOk P w K mg base CX0 6 t.f_Run___init__ t.d_Run___init__ ["self","world"] (liSp K BC):=by
 refine T.F_Run___init__.okM ZaS (Xn (P:=P) (w:=w) (K:=K) (mg:=mg) (base:=base) (k:=5) (G:=Om) (Φ:=[]) (Ψ:=[("Ferry___init__",Bt)]) (Χ:=[("Ferry___init__",Bt)]) rfl (Xo T) (Xp T) rfl (fMc ⟨Ri,nl0⟩) nl0 nl0 (fMc ⟨⟨_,_,rfl,_,_,_,_,_,(by decide:4+1≤5),Z90 T,T.n_Ferry,T.m_Ferry,T.k_Ferry,T.b_Ferry___init__⟩,nl0⟩) (Xq T)) G4 ZbG (fun vs M Q h=>?_) (fun vs M Q h=>?_)
 ·obtain⟨_,_,rfl,_⟩:=h;rfl
 obtain⟨r,W,rfl,hr,G,q⟩:=h;show wSs _ _ _ [some (.ref r),some W.mv] M;have hΦ:=(UM (Φ:=[("Ferry___init__",Bt)]) (fMc ⟨Ri,nl0⟩));have i5:=G.i5;have f6:=G.f6;have dins:∀{ps:List MV},ps.length=W.isl.length->YR (zipK W.ins ps)=zipK W.ins ps:=λe=>GV (by rw[Wt];exact e) G.in_nd
 have dfns:∀{ps:List MV},ps.length=W.fer.length->YR (zipK W.fns ps)=zipK W.fns ps:=λe=>GV (by rw[DE];exact e) G.fn_nd
 delta G4 Ol
 repeat (first|walk_at "s"|simp only[hr,putM])
 have fr0:=(FrM.refl M [r]).upd (Ya.mpr rfl) (.ins "Run" [("world",W.mv)]);have r0:updM M r (.ins "Run" [("world",W.mv)]) r=some (.ins "Run" [("world",W.mv)]):=X9;generalize updM M r _=M0 at*;delta Oj
 repeat (first|walk_at "s"|simp only[r0,putM])
 have fr1:=fr0.upd (Ya.mpr rfl) (.ins "Run" [("world",W.mv),("moment",.int 0)]);have r1:updM M0 r (.ins "Run" [("world",W.mv),("moment",.int 0)]) r=some (.ins "Run" [("world",W.mv),("moment",.int 0)]):=X9;generalize updM M0 r _=M1 at*;delta Oi;walk_at "s";refine U7 W.isl Isl.mv (λI=>.tup [.str I.name,.int 0]) ?_ ?_ hΦ λD hD=>?_
 ·repeat (first|walk_at "s"|simp only[Wld.mv])
  exact⟨rfl,by lia,trivial⟩
 ·intro I hI M' s;simp only[sCm,XD,Yf,Ys,Yt,Yk,Yd]
  repeat (first|walk_at "s"|simp only[Isl.mv])
  try exact⟨rfl,rfl⟩
 rw[Ry W.isl (·.name) (λ_=>.int 0)];have s2:=SameM.new hD (.lst ((zipK (W.isl.map (·.name)) (W.isl.map λ_=>MV.int 0)).map prM));have d2:updM M1 D (.lst ((zipK (W.isl.map (·.name)) (W.isl.map λ_=>MV.int 0)).map prM)) D=some (.lst ((zipK (W.isl.map (·.name)) (W.isl.map λ_=>MV.int 0)).map prM)):=X9;generalize updM M1 D _=M2 at*;walk_at "s";refine⟨_,d2,λpn hpn=>?_⟩;have e2:YR (zipK (W.isl.map (·.name)) (W.isl.map λ_=>MV.int 0))=zipK W.ins ((W.isl.map λ_=>0).map natM):=by rw[Yv];exact dins (by rw[Xa])
 rw[e2];have s3:=s2.trans (SameM.new hpn (.dic (zipK W.ins ((W.isl.map λ_=>0).map natM))));have hn3:updM M2 pn (.dic (zipK W.ins ((W.isl.map λ_=>0).map natM))) pn=some (.dic (zipK W.ins ((W.isl.map λ_=>0).map natM))):=X9;have rpn:pn≠r:=(neM (s2 _ _ r1) hpn).symm;have f_pn:M1 pn=none:=s2.free hpn;generalize updM M2 pn _=M3 at*;have r3:=s3 _ _ r1
 repeat (first|walk_at "s"|simp only[r3,putM])
 have fr4:=(fr1.grow s3).upd (Ya.mpr rfl) (.ins "Run" [("world",W.mv),("moment",.int 0),("next_numbers",.ref pn)]);have r4:updM M3 r (.ins "Run" [("world",W.mv),("moment",.int 0),("next_numbers",.ref pn)]) r=some (.ins "Run" [("world",W.mv),("moment",.int 0),("next_numbers",.ref pn)]):=X9;have hn4:updM M3 r (.ins "Run" [("world",W.mv),("moment",.int 0),("next_numbers",.ref pn)]) pn=_:=(Xc rpn).trans hn3;generalize updM M3 r _=M4 at*;delta Oh;walk_at "s";refine GW W.isl Isl.mv (·.name) (λI=>.dic (zipK I.vars ((I.prs.map (·.2)).map MV.int))) (λM'=>M'=M4) ?_ ?_ hΦ λD5 ws M5 hD5 s5 wl wnd Dn5 wfree wat hd5=>?_
 ·repeat (first|walk_at "s"|simp only[Wld.mv])
  first|exact .inl ⟨trivial,rfl⟩|exact⟨rfl,by lia,.inl ⟨trivial,rfl⟩,rfl⟩|exact⟨rfl,by lia,.inl ⟨trivial,rfl⟩⟩|exact⟨by lia,.inl ⟨trivial,rfl⟩⟩|exact⟨rfl,.inl ⟨trivial,rfl⟩⟩
 ·intro I hI Ma M' e s;have ok:=G.io I hI;simp only[sCm,XD,Yf,Ys,Yt,Yk,Yd]
  repeat (first|walk_at "s"|simp only[Isl.mv])
  refine⟨_,Zpc I.prs,λp hp=>?_⟩;exact⟨p,hp,rfl,by rw[(RG (w:=W.w) ok.nd ok.wd).1]⟩
 walk_at "s";refine⟨_,hd5,λpw hpw=>?_⟩;have e5:YR (zipK (W.isl.map (·.name)) (ws.map MV.ref))=zipK W.ins (ws.map MV.ref):=dins (by rw[Xa];exact wl)
 rw[e5];have s6:=s5.trans (SameM.new hpw (.dic (zipK W.ins (ws.map MV.ref))));have hw6:updM M5 pw (.dic (zipK W.ins (ws.map MV.ref))) pw=some (.dic (zipK W.ins (ws.map MV.ref))):=X9;have wat6:∀(j:Nat) a x,ws[j]?=some a->W.isl[j]?=some x->updM M5 pw (.dic (zipK W.ins (ws.map MV.ref))) a=some (.dic (zipK x.vars ((x.prs.map (·.2)).map MV.int))):=λj a x h1 h2=>SameM.new hpw _ _ _ (wat j a x h1 h2);have wpw:pw∉ws:=λz=>by
  obtain⟨j,hj,e⟩:=Yc z;have:=wat j _ _ (Xd hj) (Xd (by rw[<- wl];exact hj))
  rw[e,hpw]at this;cases this
 have rpw:pw≠r:=(neM (s5 _ _ r4) hpw).symm;have rws:∀a∈ws,a≠r:=λa ha=>(neM r4 (wfree a ha)).symm;have f_pw:M4 pw=none:=s5.free hpw;generalize updM M5 pw _=M6 at*;have r6:=s6 _ _ r4;have hn6:=s6 _ _ hn4;have wpn:pn∉ws:=λz=>absurd hn4 (by rw[wfree _ z];intro y;cases y)
 have pnw:pn≠pw:=neM hn4 f_pw
 repeat (first|walk_at "s"|simp only[r6,putM])
 have fr7:=(fr4.grow s6).upd (Ya.mpr rfl) (.ins "Run" [("world",W.mv),("moment",.int 0),("next_numbers",.ref pn),("words_now",.ref pw)]);have r7:updM M6 r (.ins "Run" [("world",W.mv),("moment",.int 0),("next_numbers",.ref pn),("words_now",.ref pw)]) r=some (.ins "Run" [("world",W.mv),("moment",.int 0),("next_numbers",.ref pn),("words_now",.ref pw)]):=X9;have hn7:updM M6 r (.ins "Run" [("world",W.mv),("moment",.int 0),("next_numbers",.ref pn),("words_now",.ref pw)]) pn=_:=(Xc rpn).trans hn6;have hw7:updM M6 r (.ins "Run" [("world",W.mv),("moment",.int 0),("next_numbers",.ref pn),("words_now",.ref pw)]) pw=_:=(Xc rpw).trans hw6;have wat7:∀(j:Nat) a x,ws[j]?=some a->W.isl[j]?=some x->updM M6 r (.ins "Run" [("world",W.mv),("moment",.int 0),("next_numbers",.ref pn),("words_now",.ref pw)]) a=some (.dic (zipK x.vars ((x.prs.map (·.2)).map MV.int))):=fun j a x h1 h2=>(Xc (rws a (XE h1))).trans (wat6 j a x h1 h2);generalize updM M6 r _=M7 at*;delta Og;walk_at "s";refine U7 W.isl Isl.mv (λI=>.tup [.str I.name,.int 0]) ?_ ?_ hΦ λD8 hD8=>?_
 ·repeat (first|walk_at "s"|simp only[Wld.mv])
  exact⟨rfl,by lia,trivial⟩
 ·intro I hI M' s;simp only[sCm,XD,Yf,Ys,Yt,Yk,Yd]
  repeat (first|walk_at "s"|simp only[Isl.mv])
  try exact⟨rfl,rfl⟩
 rw[Ry W.isl (·.name) (λ_=>.int 0)];have s8:=SameM.new hD8 (.lst ((zipK (W.isl.map (·.name)) (W.isl.map λ_=>MV.int 0)).map prM));have d8:updM M7 D8 (.lst ((zipK (W.isl.map (·.name)) (W.isl.map λ_=>MV.int 0)).map prM)) D8=some (.lst ((zipK (W.isl.map (·.name)) (W.isl.map λ_=>MV.int 0)).map prM)):=X9;generalize updM M7 D8 _=M8 at*;walk_at "s";refine⟨_,d8,λps hps=>?_⟩;rw[e2];have s9:=s8.trans (SameM.new hps (.dic (zipK W.ins ((W.isl.map λ_=>0).map natM))));have hs9:updM M8 ps (.dic (zipK W.ins ((W.isl.map λ_=>0).map natM))) ps=some (.dic (zipK W.ins ((W.isl.map λ_=>0).map natM))):=X9;have rps:ps≠r:=(neM (s8 _ _ r7) hps).symm;have f_ps:M7 ps=none:=s8.free hps;generalize updM M8 ps _=M9 at*;have r9:=s9 _ _ r7;have hn9:=s9 _ _ hn7;have hw9:=s9 _ _ hw7;have pns:pn≠ps:=neM hn7 f_ps;have pws:pw≠ps:=neM hw7 f_ps;have wps:ps∉ws:=λz=>by
  obtain⟨j,hj,e⟩:=Yc z;have:=wat7 j _ _ (Xd hj) (Xd (by rw[<- wl];exact hj))
  rw[e,f_ps]at this;cases this
 repeat (first|walk_at "s"|simp only[r9,putM])
 have fr10:=(fr7.grow s9).upd (Ya.mpr rfl) (.ins "Run" [("world",W.mv),("moment",.int 0),("next_numbers",.ref pn),("words_now",.ref pw),("steps_so_far",.ref ps)]);have r10:updM M9 r (.ins "Run" [("world",W.mv),("moment",.int 0),("next_numbers",.ref pn),("words_now",.ref pw),("steps_so_far",.ref ps)]) r=some (.ins "Run" [("world",W.mv),("moment",.int 0),("next_numbers",.ref pn),("words_now",.ref pw),("steps_so_far",.ref ps)]):=X9;have up10:∀a o,M9 a=some o->a≠r->updM M9 r (.ins "Run" [("world",W.mv),("moment",.int 0),("next_numbers",.ref pn),("words_now",.ref pw),("steps_so_far",.ref ps)]) a=some o:=fun a o e z=>(Xc z).trans e;generalize updM M9 r _=M10 at*;have hn10:=up10 _ _ hn9 rpn;have hw10:=up10 _ _ hw9 rpw;have hs10:=up10 _ _ hs9 rps;have wat10:∀(j:Nat) a x,ws[j]?=some a->W.isl[j]?=some x->M10 a=some (.dic (zipK x.vars ((x.prs.map (·.2)).map MV.int))):=λj a x h1 h2=>up10 _ _ (s9 _ _ (wat7 j a x h1 h2)) (rws a (XE h1));clear up10 s9 s8 s6 s5 s3 s2 wat7 wat6 wat d8 d2 hd5 r9 r7 r6 r4 r3 hn9 hn7 hn6 hn4 hn3 hw9 hw7 hw6 hs9;delta Of;walk_at "s";refine Rz W.fer Fer.mv (λf y N M2=>∃b p g u,N=[b,p,g,u]/\y=.tup [.str f.name,.ref b]/\FyAt M2 b p g u (ab0 f.k f.st)) (λM'=>M'=M10) ?_ ?_ ?_ hΦ λD11 ys Ns M11 hD11 s11 yl Nl Nnd DN Nfree Nat_ hd11=>?_
 ·rintro f y N M2 M3 hk ⟨b,p,g,u,rfl,e1,fy⟩;obtain⟨pl,hp,hpl⟩:=fy.pls;exact⟨b,p,g,u,rfl,e1,⟨fy.ok,(hk b (by simp)).trans fy.fe,⟨pl,(hk p (by simp)).trans hp,hpl⟩,(hk g (by simp)).trans fy.gi,(hk u (by simp)).trans fy.ta,fy.ne⟩⟩
 ·repeat (first|walk_at "s"|simp only[Wld.mv])
  first|exact .inl ⟨trivial,rfl⟩|exact⟨rfl,by lia,.inl ⟨trivial,rfl⟩,rfl⟩|exact⟨rfl,by lia,.inl ⟨trivial,rfl⟩⟩|exact⟨by lia,.inl ⟨trivial,rfl⟩⟩|exact⟨rfl,.inl ⟨trivial,rfl⟩⟩
 ·intro f hf Ma M' e s;have fo:=G.fo f hf;simp only[sCm,XD,Yf,Ys,Yt,Yk,Yd]
  repeat (first|walk_at "s"|simp only[Fer.mv])
  intro b hb;refine⟨b,f.k,f.st,rfl,X9,by have:=fo.k3;lia,fo.s1,fo.s3,λp g u M3 hp hg hu fr fy=>?_⟩
  have fb:updM M' b (.ins "Ferry" []) b=some (.ins "Ferry" []):=X9;have ne:∀z,updM M' b (.ins "Ferry" []) z=none->z≠b/\M' z=none:=fun z hz=>by
   have n:z≠b:=(neM fb hz).symm;exact⟨n,by rw[Xc n]at hz;exact hz⟩
  obtain⟨pl,hpl,_⟩:=fy.pls;have pg:p≠g:=λz=>by rw[z,fy.gi]at hpl;cases hpl
  have pu:p≠u:=λz=>by rw[z,fy.ta]at hpl;cases hpl
  have sm:SameM M' M3:=λa o ea=>by
   have n:a≠b:=neM ea hb;exact fr a o ((Xc n).trans ea) (by simpa using n)
  try walk_at "s"
  refine⟨sm,[b,p,g,u],?_,λa ha=>?_,b,p,g,u,rfl,rfl,fy⟩
  ·simp only[YF,Xr,XR,or_false,not_or,not_false_eq_true,List.nodup_nil,and_true];exact⟨⟨(ne p hp).1.symm,(ne g hg).1.symm,(ne u hu).1.symm⟩,⟨pg,pu⟩,fy.ne⟩
  ·simp only[Xr,XR,or_false]at ha;rcases ha with rfl|rfl|rfl|rfl
   ·exact⟨hb,_,fy.fe⟩
   ·exact⟨(ne _ hp).2,_,hpl⟩
   ·exact⟨(ne _ hg).2,_,fy.gi⟩
   ·exact⟨(ne _ hu).2,_,fy.ta⟩
 have eys:ys=(zipK W.fns (Ns.map λN=>MV.ref (N.getD 0 default))).map prM:=by
  refine RI (by rw[Xa,DE];exact Nl) (by rw[DE];exact yl) λj k v hk hv=>?_
  have hj:j<W.fer.length:=by rw[<- DE];exact(XV.mp hk).1
  have hfj:=Xd hj;rw[DD hfj]at hk;cases hk;have hN:=Xd (show j<Ns.length by rw[Nl];exact hj)
  have hY:=Xd (show j<ys.length by rw[yl];exact hj)
  rw[Xw,hN]at hv;cases hv;obtain⟨b,p,g,u,eN,ey,_⟩:=Nat_ j _ _ _ hfj hY hN;rw[hY,ey,eN];rfl
 rw[eys]at hd11;walk_at "s";refine⟨_,hd11,λpb hpb=>?_⟩;rw[dfns (by rw[Xa];exact Nl)]
 have s12:=s11.trans (SameM.new hpb (.dic (zipK W.fns (Ns.map λN=>MV.ref (N.getD 0 default)))));have hb12:updM M11 pb (.dic (zipK W.fns (Ns.map λN=>MV.ref (N.getD 0 default)))) pb=some (.dic (zipK W.fns (Ns.map λN=>MV.ref (N.getD 0 default)))):=X9;have rpb:pb≠r:=(neM (s11 _ _ r10) hpb).symm;have f_pb:M10 pb=none:=s11.free hpb;have rN:∀N∈Ns,∀a∈N,a≠r:=λN hN a ha=>(neM r10 (Nfree a (VG.mpr ⟨N,hN,ha⟩))).symm;obtain⟨Fx,hFx⟩:∃Fx:MH->Prop,∀X,Fx X↔(X pn=some (.dic (zipK W.ins ((W.isl.map λ_=>0).map natM)))/\X pw=some (.dic (zipK W.ins (ws.map MV.ref)))/\X ps=some (.dic (zipK W.ins ((W.isl.map λ_=>0).map natM)))/\X pb=some (.dic (zipK W.fns (Ns.map λN=>MV.ref (N.getD 0 default))))/\(∀(j:Nat) a x,ws[j]?=some a->W.isl[j]?=some x->X a=some (.dic (zipK x.vars ((x.prs.map (·.2)).map MV.int))))/\∀(j:Nat) f N,W.fer[j]?=some f->Ns[j]?=some N->∃b p g u,N=[b,p,g,u]/\FyAt X b p g u (ab0 f.k f.st)):=⟨_,λ_=>Yn⟩;have fx:∀X Y,(∀a o,X a=some o->a≠r->Y a=some o)->Fx X->Fx Y:=λX Y k h=>by
  obtain⟨h1,h2,h3,h4,h5,h6⟩:=(hFx X).mp h;refine(hFx Y).mpr ⟨k _ _ h1 rpn,k _ _ h2 rpw,k _ _ h3 rps,k _ _ h4 rpb,λj a x e1 e2=>k _ _ (h5 j a x e1 e2) (rws a (XE e1)),λj f N e1 e2=>?_⟩;obtain⟨b,p,g,u,rfl,fy⟩:=h6 j f N e1 e2;have rn:=rN _ (XE e2);obtain⟨pl,hp,hpl⟩:=fy.pls;exact⟨b,p,g,u,rfl,⟨fy.ok,k _ _ fy.fe (rn b (by simp)),⟨pl,k _ _ hp (rn p (by simp)),hpl⟩,k _ _ fy.gi (rn g (by simp)),k _ _ fy.ta (rn u (by simp)),fy.ne⟩⟩
 have F12:Fx (updM M11 pb (.dic (zipK W.fns (Ns.map λN=>MV.ref (N.getD 0 default))))):=(hFx _).mpr ⟨s12 _ _ hn10,s12 _ _ hw10,s12 _ _ hs10,hb12,λj a x e1 e2=>s12 _ _ (wat10 j a x e1 e2),λj f N e1 e2=>by
  have hY:=Xd (show j<ys.length by rw[yl];exact(XV.mp e1).1)
  obtain⟨b,p,g,u,e,_,fy⟩:=Nat_ j f _ N e1 hY e2;exact⟨b,p,g,u,e,fy.keep (SameM.new hpb _)⟩⟩
 have Nsome:∀N∈Ns,∀a∈N,a≠pb:=λN hN a ha=>by
  obtain⟨j,hj,rfl⟩:=Yc hN;have hj2:j<W.fer.length:=by rw[<- Nl];exact hj
  obtain⟨b,p,g,u,e,_,fy⟩:=Nat_ j _ _ _ (Xd hj2) (Xd (show j<ys.length by rw[yl];exact hj2)) (Xd hj)
  obtain⟨pl,hp,_⟩:=fy.pls;rw[e]at ha;simp only[Xr,XR,or_false]at ha;rcases ha with rfl|rfl|rfl|rfl
  ·exact neM fy.fe hpb
  ·exact neM hp hpb
  ·exact neM fy.gi hpb
  ·exact neM fy.ta hpb
 have dis_b:pn≠pb/\pw≠pb/\ps≠pb/\pb∉ws:=⟨neM hn10 f_pb,neM hw10 f_pb,neM hs10 f_pb,λz=>by
  obtain⟨j,hj,e⟩:=Yc z;have:=wat10 j _ _ (Xd hj) (Xd (by rw[<- wl];exact hj))
  rw[e,f_pb]at this;cases this⟩
 generalize updM M11 pb _=M12 at*;have r12:=s12 _ _ r10
 repeat (first|walk_at "s"|simp only[r12,putM])
 have fr13:=(fr10.grow s12).upd (Ya.mpr rfl) (.ins "Run" [("world",W.mv),("moment",.int 0),("next_numbers",.ref pn),("words_now",.ref pw),("steps_so_far",.ref ps),("boats",.ref pb)]);have r13:updM M12 r (.ins "Run" [("world",W.mv),("moment",.int 0),("next_numbers",.ref pn),("words_now",.ref pw),("steps_so_far",.ref ps),("boats",.ref pb)]) r=some (.ins "Run" [("world",W.mv),("moment",.int 0),("next_numbers",.ref pn),("words_now",.ref pw),("steps_so_far",.ref ps),("boats",.ref pb)]):=X9;have F13:=fx _ (updM M12 r (.ins "Run" [("world",W.mv),("moment",.int 0),("next_numbers",.ref pn),("words_now",.ref pw),("steps_so_far",.ref ps),("boats",.ref pb)])) (fun a o e z=>(Xc z).trans e) F12;generalize updM M12 r _=M13 at*;clear F12 r12 s12 s11 hd11 eys;delta Oe;walk_at "s";refine GW W.fer Fer.mv (·.name) (λ_=>.lst []) (λM'=>M'=M13) ?_ ?_ hΦ λD14 gs M14 hD14 s14 gsl gnd Dg gfree gat hd14=>?_
 ·repeat (first|walk_at "s"|simp only[Wld.mv])
  first|exact .inl ⟨trivial,rfl⟩|exact⟨rfl,by lia,.inl ⟨trivial,rfl⟩,rfl⟩|exact⟨rfl,by lia,.inl ⟨trivial,rfl⟩⟩|exact⟨by lia,.inl ⟨trivial,rfl⟩⟩|exact⟨rfl,.inl ⟨trivial,rfl⟩⟩
 ·intro f hf Ma M' e s;simp only[sCm,XD,Yf,Ys,Yt,Yk,Yd]
  repeat (first|walk_at "s"|simp only[Fer.mv])
  exact λp hp=>⟨p,hp,rfl,rfl⟩
 walk_at "s";refine⟨_,hd14,λpg hpg=>?_⟩;have e14:YR (zipK (W.fer.map (·.name)) (gs.map MV.ref))=zipK W.fns (gs.map MV.ref):=dfns (by rw[Xa];exact gsl)
 rw[e14];have s15:=s14.trans (SameM.new hpg (.dic (zipK W.fns (gs.map MV.ref))));have hg15:updM M14 pg (.dic (zipK W.fns (gs.map MV.ref))) pg=some (.dic (zipK W.fns (gs.map MV.ref))):=X9;have rpg:pg≠r:=(neM (s14 _ _ r13) hpg).symm;have f_pg:M13 pg=none:=s14.free hpg;have rgs:∀a∈gs,a≠r:=λa ha=>(neM r13 (gfree a ha)).symm;have g15:∀a∈gs,updM M14 pg (.dic (zipK W.fns (gs.map MV.ref))) a=some (.lst []):=λa ha=>by
  obtain⟨j,hj,rfl⟩:=Yc ha;exact SameM.new hpg _ _ _ (gat j _ _ (Xd hj) (Xd (by rw[<- gsl];exact hj)))
 generalize updM M14 pg _=M15 at*;have r15:=s15 _ _ r13;have F15:=fx _ M15 (λa o e _=>s15 a o e) F13
 repeat (first|walk_at "s"|simp only[r15,putM])
 have fr16:=(fr13.grow s15).upd (Ya.mpr rfl) (.ins "Run" [("world",W.mv),("moment",.int 0),("next_numbers",.ref pn),("words_now",.ref pw),("steps_so_far",.ref ps),("boats",.ref pb),("given_so_far",.ref pg)]);have r16:updM M15 r (.ins "Run" [("world",W.mv),("moment",.int 0),("next_numbers",.ref pn),("words_now",.ref pw),("steps_so_far",.ref ps),("boats",.ref pb),("given_so_far",.ref pg)]) r=some (.ins "Run" [("world",W.mv),("moment",.int 0),("next_numbers",.ref pn),("words_now",.ref pw),("steps_so_far",.ref ps),("boats",.ref pb),("given_so_far",.ref pg)]):=X9;have up16:∀a o,M15 a=some o->a≠r->updM M15 r (.ins "Run" [("world",W.mv),("moment",.int 0),("next_numbers",.ref pn),("words_now",.ref pw),("steps_so_far",.ref ps),("boats",.ref pb),("given_so_far",.ref pg)]) a=some o:=fun a o e z=>(Xc z).trans e;generalize updM M15 r _=M16 at*;have F16:=fx _ M16 up16 F15;have hg16:=up16 _ _ hg15 rpg;have g16:∀a∈gs,M16 a=some (.lst []):=λa ha=>up16 _ _ (g15 a ha) (rgs a ha);clear up16 g15 hg15 r15 F15 s15 s14 hd14 gat;delta Od;walk_at "s";refine GW W.fer Fer.mv (·.name) (λ_=>.lst []) (λM'=>M'=M16) ?_ ?_ hΦ λD17 ts M17 hD17 s17 tsl tnd Dt tfree tat hd17=>?_
 ·repeat (first|walk_at "s"|simp only[Wld.mv])
  first|exact .inl ⟨trivial,rfl⟩|exact⟨rfl,by lia,.inl ⟨trivial,rfl⟩,rfl⟩|exact⟨rfl,by lia,.inl ⟨trivial,rfl⟩⟩|exact⟨by lia,.inl ⟨trivial,rfl⟩⟩|exact⟨rfl,.inl ⟨trivial,rfl⟩⟩
 ·intro f hf Ma M' e s;simp only[sCm,XD,Yf,Ys,Yt,Yk,Yd]
  repeat (first|walk_at "s"|simp only[Fer.mv])
  exact λp hp=>⟨p,hp,rfl,rfl⟩
 walk_at "s";refine⟨_,hd17,λpt hpt=>?_⟩;have e17:YR (zipK (W.fer.map (·.name)) (ts.map MV.ref))=zipK W.fns (ts.map MV.ref):=dfns (by rw[Xa];exact tsl)
 rw[e17];have s18:=s17.trans (SameM.new hpt (.dic (zipK W.fns (ts.map MV.ref))));have ht18:updM M17 pt (.dic (zipK W.fns (ts.map MV.ref))) pt=some (.dic (zipK W.fns (ts.map MV.ref))):=X9;have rpt:pt≠r:=(neM (s17 _ _ r16) hpt).symm;have f_pt:M16 pt=none:=s17.free hpt;have rts:∀a∈ts,a≠r:=λa ha=>(neM r16 (tfree a ha)).symm;have t18:∀a∈ts,updM M17 pt (.dic (zipK W.fns (ts.map MV.ref))) a=some (.lst []):=λa ha=>by
  obtain⟨j,hj,rfl⟩:=Yc ha;exact SameM.new hpt _ _ _ (tat j _ _ (Xd hj) (Xd (by rw[<- tsl];exact hj)))
 generalize updM M17 pt _=M18 at*;have r18:=s18 _ _ r16;have F18:=fx _ M18 (λa o e _=>s18 a o e) F16
 repeat (first|walk_at "s"|simp only[r18,putM])
 have fr19:=(fr16.grow s18).upd (Ya.mpr rfl) (.ins "Run" [("world",W.mv),("moment",.int 0),("next_numbers",.ref pn),("words_now",.ref pw),("steps_so_far",.ref ps),("boats",.ref pb),("given_so_far",.ref pg),("taken_so_far",.ref pt)]);have r19:updM M18 r (.ins "Run" [("world",W.mv),("moment",.int 0),("next_numbers",.ref pn),("words_now",.ref pw),("steps_so_far",.ref ps),("boats",.ref pb),("given_so_far",.ref pg),("taken_so_far",.ref pt)]) r=some (.ins "Run" [("world",W.mv),("moment",.int 0),("next_numbers",.ref pn),("words_now",.ref pw),("steps_so_far",.ref ps),("boats",.ref pb),("given_so_far",.ref pg),("taken_so_far",.ref pt)]):=X9;have up19:∀a o,M18 a=some o->a≠r->updM M18 r (.ins "Run" [("world",W.mv),("moment",.int 0),("next_numbers",.ref pn),("words_now",.ref pw),("steps_so_far",.ref ps),("boats",.ref pb),("given_so_far",.ref pg),("taken_so_far",.ref pt)]) a=some o:=fun a o e z=>(Xc z).trans e;generalize updM M18 r _=M19 at*;have F19:=fx _ M19 up19 F18;have hg19:=up19 _ _ (s18 _ _ hg16) rpg;have g19:∀a∈gs,M19 a=some (.lst []):=λa ha=>up19 _ _ (s18 _ _ (g16 a ha)) (rgs a ha);have ht19:=up19 _ _ ht18 rpt;have t19:∀a∈ts,M19 a=some (.lst []):=λa ha=>up19 _ _ (t18 a ha) (rts a ha);obtain⟨hn,hw,hs,hb,wat,nat⟩:=(hFx _).mp F19;obtain⟨n13,w13,p13,b13,wat13,nat13⟩:=(hFx _).mp F13;obtain⟨n16,w16,p16,b16,wat16,nat16⟩:=(hFx _).mp F16;have Nin:∀(X:MH),(∀(j:Nat) f N,W.fer[j]?=some f->Ns[j]?=some N->∃b p g u,N=[b,p,g,u]/\FyAt X b p g u (ab0 f.k f.st))->∀N∈Ns,∀a∈N,∃o,X a=some o:=λX hX N hN a ha=>by
  obtain⟨j,hj,rfl⟩:=Yc hN;obtain⟨b,p,g,u,e,fy⟩:=hX j _ _ (Xd (by rw[<- Nl];exact hj)) (Xd hj)
  obtain⟨pl,hp,_⟩:=fy.pls;rw[e]at ha;simp only[Xr,XR,or_false]at ha;rcases ha with rfl|rfl|rfl|rfl
  ·exact⟨_,fy.fe⟩
  ·exact⟨_,hp⟩
  ·exact⟨_,fy.gi⟩
  ·exact⟨_,fy.ta⟩
 have Ng:∀N∈Ns,∀a∈N,a∉gs:=λN hN a ha z=>by
  obtain⟨o,e⟩:=Nin _ nat13 N hN a ha;rw[gfree a z]at e;cases e
 have Nt:∀N∈Ns,∀a∈N,a∉ts:=λN hN a ha z=>by
  obtain⟨o,e⟩:=Nin _ nat16 N hN a ha;rw[tfree a z]at e;cases e
 have gt:∀a∈gs,a∉ts:=λa ha z=>by
  have:=g16 a ha;rw[tfree a z]at this;cases this
 have at_:∀(j:Nat) f,W.fer[j]?=some f->∃b p g u,Ns[j]?=some [b,p,g,u]/\FyAt M19 b p g u (ab0 f.k f.st)/\ZB W Ns gs ts j=⟨b,p,g,u,gs.getD j default,ts.getD j default,ab0 f.k f.st⟩:=λj f hf=>by
  have hj:j<Ns.length:=by rw[Nl];exact(XV.mp hf).1
  have hN:=Xd hj;obtain⟨b,p,g,u,e,fy⟩:=nat j f _ hf hN;rw[e]at hN;refine⟨b,p,g,u,hN,fy,?_⟩;have eg:Ns.getD j []=[b,p,g,u]:=by rw[Yr,hN];rfl
  unfold ZB abOf;rw[hf,eg];rfl
 have bat:∀(j:Nat) x,((Xx W.fer.length).map (ZB W Ns gs ts))[j]?=some x->j<W.fer.length/\x=ZB W Ns gs ts j:=λj x h=>by
  have hj:=(XV.mp h).1;rw[Xa,UC]at hj;rw[Xw,Wz hj]at h;exact⟨hj,(YD h).symm⟩
 have adsI:∀j,j<W.fer.length->∀a∈(ZB W Ns gs ts j).ads,(∃N,Ns[j]?=some N/\a∈N)\/a=gs.getD j default\/a=ts.getD j default:=λj hj a ha=>by
  obtain⟨b,p,g,u,hN,_,e⟩:=at_ j _ (Xd hj);rw[e]at ha;simp only[Boat.ads,Xr,XR,or_false]at ha;rcases ha with c|c|c|c|c|c
  ·exact .inl ⟨_,hN,by simp[c]⟩
  ·exact .inl ⟨_,hN,by simp[c]⟩
  ·exact .inl ⟨_,hN,by simp[c]⟩
  ·exact .inl ⟨_,hN,by simp[c]⟩
  ·exact .inr (.inl c)
  ·exact .inr (.inr c)
 have free:∀X,FrM M X [r]->∀a,a≠r->X a=none->M a=none:=λX fr a ne hx=>by
  cases e:M a with
  |none=>rfl
  |some o=>rw[fr a o e (by simpa using ne)]at hx;cases hx
 have eb:((Xx W.fer.length).map (ZB W Ns gs ts)).map (λx=>MV.ref x.b)=Ns.map λN=>MV.ref (N.getD 0 default):=by
  rw[Yv];exact CF (d:=[]) (f:=λN=>MV.ref (N.getD 0 default)) Nl
 have eg:((Xx W.fer.length).map (ZB W Ns gs ts)).map (λx=>MV.ref x.gl)=gs.map MV.ref:=by
  rw[Yv];exact CF (d:=default) (f:=MV.ref) gsl
 have et:((Xx W.fer.length).map (ZB W Ns gs ts)).map (λx=>MV.ref x.tl)=ts.map MV.ref:=by
  rw[Yv];exact CF (d:=default) (f:=MV.ref) tsl
 have wno:∀(X:MH) (z:Addr),(∀(j:Nat) a x,ws[j]?=some a->W.isl[j]?=some x->X a=some (.dic (zipK x.vars ((x.prs.map (·.2)).map MV.int))))->X z=none->z∉ws:=λX z hX hz c=>by
  obtain⟨j,hj,e⟩:=Yc c;have:=hX j _ _ (Xd hj) (Xd (by rw[<- wl];exact hj))
  rw[e,hz]at this;cases this
 refine q ⟨0,W.isl.map λ_=>0,ws,W.isl.map λ_=>0,(Xx W.fer.length).map (ZB W Ns gs ts),pn,pw,ps,pb,pg,pt⟩ M19 fr19 ⟨r19,hn,hw,hs,?_,?_,?_,by rw[Xa],wl,by rw[Xa],by rw[Xa,UC],λi I m hI hm=>?_,λi I a hI ha=>⟨_,wat i a I ha hI,(RG (G.io I (XE hI)).nd (G.io I (XE hI)).wd).2⟩,λj f x hf hx=>?_,λi j x y ne hx hy a ha hb=>?_,?_⟩ (λy hy=>?_) (λa ha=>?_)
 ·show M19 pb=some (.dic (zipK W.fns (((Xx W.fer.length).map (ZB W Ns gs ts)).map (λx=>MV.ref x.b))));rw[eb];exact hb
 ·show M19 pg=some (.dic (zipK W.fns (((Xx W.fer.length).map (ZB W Ns gs ts)).map (λx=>MV.ref x.gl))));rw[eg];exact hg19
 ·show M19 pt=some (.dic (zipK W.fns (((Xx W.fer.length).map (ZB W Ns gs ts)).map (λx=>MV.ref x.tl))));rw[et];exact ht19
 ·have hm:(W.isl.map λ_=>0)[i]?=some m:=hm;rw[Xw,hI]at hm;cases hm;exact YO _
 ·obtain⟨hj,rfl⟩:=bat j x hx;obtain⟨b,p,g,u,hN,fy,e⟩:=at_ j f hf;rw[e];have g1:=(Ub (L:=gs) (j:=j) (by rw[gsl];exact hj)).1
  have t1:=(Ub (L:=ts) (j:=j) (by rw[tsl];exact hj)).1
  have pm:p∈ [b,p,g,u]:=by simp
  have q1:gs.getD j default≠ts.getD j default:=λz=>gt _ g1 (z▸t1);have q2:gs.getD j default≠p:=λz=>Ng _ (XE hN) p pm (z▸g1);have q3:ts.getD j default≠p:=λz=>Nt _ (XE hN) p pm (z▸t1);exact⟨fy,g19 _ g1,t19 _ t1,⟨q1,q2,q3⟩,rfl,(by decide:(-1:Int)<0),(by decide:(-1:Int)<0),λz hz=>by cases hz⟩
 ·obtain⟨hi,rfl⟩:=bat i x hx;obtain⟨hj,rfl⟩:=bat j y hy;have gi:=(Ub (L:=gs) (j:=i) (by rw[gsl];exact hi)).1
  have gj:=(Ub (L:=gs) (j:=j) (by rw[gsl];exact hj)).1
  have ti:=(Ub (L:=ts) (j:=i) (by rw[tsl];exact hi)).1
  have tj:=(Ub (L:=ts) (j:=j) (by rw[tsl];exact hj)).1
  rcases adsI i hi a ha with⟨N,hN,c⟩|c|c<;>rcases adsI j hj a hb with⟨N',hN',d⟩|d|d
  ·exact RJ Nnd hN hN' ne a c d
  ·exact Ng N (XE hN) a c (d▸gj)
  ·exact Nt N (XE hN) a c (d▸tj)
  ·exact Ng N' (XE hN') a d (c▸gi)
  ·exact RK gnd (by rw[gsl];exact hi) (by rw[gsl];exact hj) ne (c.symm.trans d)
  ·exact gt a (c▸gi) (d▸tj)
  ·exact Nt N' (XE hN') a d (c▸ti)
  ·exact gt a (d▸gj) (c▸ti)
  ·exact RK tnd (by rw[tsl];exact hi) (by rw[tsl];exact hj) ne (c.symm.trans d)
 ·show(pn::pw::ps::pb::pg::pt::ws).Nodup;simp only[YF,Xr,not_or];exact⟨⟨pnw,pns,dis_b.1,neM n13 f_pg,neM n16 f_pt,wpn⟩,⟨pws,dis_b.2.1,neM w13 f_pg,neM w16 f_pt,wpw⟩,⟨dis_b.2.2.1,neM p13 f_pg,neM p16 f_pt,wps⟩,⟨neM b13 f_pg,neM b16 f_pt,dis_b.2.2.2⟩,⟨neM hg16 f_pt,wno _ _ wat13 f_pg⟩,wno _ _ wat16 f_pt,wnd⟩
 ·obtain⟨j,hj,e⟩:=Yc hy;obtain⟨hj2,rfl⟩:=bat j y (by rw[Xd hj,e])
  obtain⟨b,p,g,u,hN,fy,e⟩:=at_ j _ (Xd hj2);rw[e];rfl
 ·simp only[RunS.own,Xr,VH]at ha;rcases ha with c|c|c|c|⟨x,hx,c⟩
  ·exact .inl c
  ·exact .inr (c▸free _ fr1 _ rpn f_pn)
  ·exact .inr (c▸free _ fr4 _ rpw f_pw)
  ·exact .inr (c▸free _ fr7 _ rps f_ps)
  ·obtain⟨j,hj,e⟩:=Yc hx;obtain⟨hj2,rfl⟩:=bat j x (by rw[Xd hj,e])
   have g1:=(Ub (L:=gs) (j:=j) (by rw[gsl];exact hj2)).1
   have t1:=(Ub (L:=ts) (j:=j) (by rw[tsl];exact hj2)).1
   rcases adsI j hj2 a c with⟨N,hN,d⟩|d|d
   ·exact .inr (free _ fr10 _ (rN N (XE hN) a d) (Nfree a (VG.mpr ⟨N,XE hN,d⟩)))
   ·subst d;exact .inr (free _ fr13 _ (rgs _ g1) (gfree _ g1))
   ·subst d;exact .inr (free _ fr16 _ (rts _ t1) (tfree _ t1))
theorem RunAt.own_some{M:MH}{W:Wld}{r:Addr}{R:RunS}{mm:Nat->Int}(h:RunAt M W r R mm):∀a∈R.own r,∃o,M a=some o:=λb hb=>by
 simp only[RunS.own,Xr,VH]at hb;rcases hb with rfl|rfl|rfl|rfl|⟨x,hx,hb⟩
 ·exact⟨_,h.ob⟩
 ·exact⟨_,h.hn⟩
 ·exact⟨_,h.hw⟩
 ·exact⟨_,h.hs⟩
 ·obtain⟨j,hj,rfl⟩:=Yc hx;obtain⟨u,e,_⟩:=(h.ba j _ _ (Xd (by rw[<- h.bl];exact hj)) (Xd hj)).at_ b hb
  exact⟨u,e⟩
theorem Ab.Ok.two{A:Ab}(h:A.Ok):A.tn≤A.ws.length/\A.ws.length≤A.tn+2^A.k:=by
 have m1:=h.tb _ (ZA (xs:=A.tx) (by rw[h.tl];exact h.gl.1))
 have m2:=h.gb _ (ZA (xs:=A.gx) h.gl.1);have:=h.lt1;have:=h.lg1;lia
abbrev rgM(x:Str×Nat):MV:=.tup [.str x.1,.int x.2]
abbrev BD:SpM:=λvs M Q=>∃(pc pi:Addr) (cs:List Int) (ys:List MV) (Is:List Isl),vs=[.ref pc,.ref pi]/\M pc=some (.lst (cs.map MV.int))/\cs.length≤80/\M pi=some (.lst ys)/\IslsIn M Is ys/\1≤Is.length/\Is.length≤5/\
 ∀p (rs:List (Str×Nat)) M',SameM M M'->M p=none->M' p=some (.lst (rs.map rgM))->rs.length=cs.length->(∀x∈rs,∃I∈Is,x.1=I.name)->Q (.ref p) M'
theorem RN:MonW BD:=by walk_at "m"
theorem Zdl(T:Txt K mg t):FnOk P w K mg base CX0 1 t.f__law_rings t.d__law_rings ["cells","islands"] (liSp K BD):=by
 refine T.q__law_rings.F.okM Zde (Xn (P:=P) (w:=w) (K:=K) (mg:=mg) (base:=base) (k:=0) (G:=Qc) (Φ:=[]) (Ψ:=[]) (Χ:=[]) rfl (Xo T) (Xp T) rfl nl0 nl0 nl0 nl0 (Xq T)) Go ZdM (λvs M Q h=>?_) (λvs M Q h=>?_)
 ·obtain⟨_,_,_,_,_,rfl,_⟩:=h;rfl
 obtain⟨pc,pi,cs,ys,Is,rfl,hc,cl,hi,hI,i1,i5,q⟩:=h;show wSs _ _ _ [some (.ref pc),some (.ref pi),none,none] M;have yl:=hI.1;delta Go Qb;walk_at "s";intro p hp;have s1:=SameM.new hp (.lst []);have hp1:updM M p (.lst []) p=some (.lst []):=X9;generalize updM M p _=M1 at*;have hc1:=s1 _ _ hc;delta Qa
 repeat (first|walk_at "s"|simp only[hc1])
 obtain⟨J,hJ⟩:∃J:Nat->Sm->MH->Prop,∀j σ M',J j σ M'↔∃(rs:List (Str×Nat)) (v:Option MV),SameM M M'/\M' p=some (.lst (rs.map rgM))/\rs.length=j/\(∀x∈rs,∃I∈Is,x.1=I.name)/\σ=[some (.ref pc),some (.ref pi),some (.ref p),v]:=⟨_,λ_ _ _=>Yn⟩;refine⟨J,(hJ _ _ _).mpr ⟨[],_,s1,hp1,rfl,(λx h=>nomatch h),rfl⟩,λj σ M' h=>?_,?_,?_⟩
 ·obtain⟨_,_,s,_⟩:=(hJ _ _ _).mp h;exact s _ _ hc
 ·rintro j y σ M' hy h;obtain⟨rs,v,s,hps,rl,ro,rfl⟩:=(hJ _ _ _).mp h;obtain⟨hj,rfl⟩:=YU (show(cs.map MV.int)[j]?=some y from hy);generalize cs[j]=x at*;have hi':=s _ _ hi;have hI':=hI.keep s;delta Q9
  repeat (first|walk_at "s"|simp only[hps,hi'])
  have m0:=ZW x (show(ys.length:Int)≠0 by lia)
  have m1:=Um x (show(0:Int)<(ys.length:Int) by lia)
  obtain⟨k,hk⟩:∃k:Nat,x%(ys.length:Int)=(k:Int):=⟨_,(UG m0).symm⟩;rw[hk]at m1 ⊢;have hky:k<ys.length:=by lia
  have hkI:k<Is.length:=by lia
  obtain⟨a,b,ey,_⟩:=hI'.2 k _ _ (Xd hkI) (Xd hky);refine⟨⟨_,rfl⟩,by lia,_,YI (Xd hky),?_⟩
  rw[ey]
  repeat (first|walk_at "s"|simp only[hi',hps])
  have c0:=ZW (x/(ys.length:Int)) (show(1000000000000000000000000000000:Int)≠0 by decide)
  obtain⟨c,hc2⟩:∃c:Nat,x/(ys.length:Int)%1000000000000000000000000000000=(c:Int):=⟨_,(UG c0).symm⟩;rw[hc2];have hj:j<cs.length:=hj;refine⟨⟨by lia,by lia⟩,by rw[Xa];lia,(hJ _ _ _).mpr ⟨rs++[(Is[k].name,c)],_,s.upd hp _,by rw[X9,Y7];rfl,by rw[Yz,rl];rfl,(λz hz=>?_),rfl⟩⟩
  rcases YN.mp hz with hz|hz
  ·exact ro z hz
  ·rw[Ya]at hz;subst hz;exact⟨_,Y1 hkI,rfl⟩
 ·rintro σ M' h;obtain⟨rs,v,s,hps,rl,ro,rfl⟩:=(hJ _ _ _).mp h;delta Q8;walk_at "s";exact q p rs M' s hp hps (rl.trans (Xa _)) ro
theorem Zpy(T:Txt K mg t):FnOk P w K mg base CX0 60 t.f_law t.d_law ["script"] (liSp K Kk):=by
 refine T.q_law.F.okM Zox (Xn (P:=P) (w:=w) (K:=K) (mg:=mg) (base:=base) (k:=59) (G:=Qn) (Φ:=[("_law_rings",BD),("_law_things",Bx),("_law_whole",Bu),("made",Br)]) (Ψ:=[("Run___init__",BC),("Run_given",Bz),("Run_ring",BB),("Run_taken",BA)]) (Χ:=[("_law_rings",BD),("_law_things",Bx),("_law_whole",Bu),("made",Br),("Run___init__",BC),("Run_given",Bz),("Run_ring",BB),("Run_taken",BA)]) rfl (Xo T) (Xp T) rfl (fMc ⟨RN,(fMc ⟨Rw,(fMc ⟨Rk,(fMc ⟨QU,(fMc ⟨RL,(fMc ⟨RD,(fMc ⟨RF,(fMc ⟨RE,nl0⟩)⟩)⟩)⟩)⟩)⟩)⟩)⟩) (fMc ⟨⟨_,_,_,(FnOk.mono (Zdl T) (by decide)),T.q__law_rings.m,T.q__law_rings.F.kp,T.q__law_rings.b⟩,(fMc ⟨⟨_,_,_,(FnOk.mono (Zc6 T) (by decide)),T.q__law_things.m,T.q__law_things.F.kp,T.q__law_things.b⟩,(fMc ⟨⟨_,_,_,(FnOk.mono (Zdk T) (by decide)),T.q__law_whole.m,T.q__law_whole.F.kp,T.q__law_whole.b⟩,(fMc ⟨⟨_,_,_,(FnOk.mono (Zn3 T) (by decide)),T.q_made.m,T.q_made.F.kp,T.q_made.b⟩,nl0⟩)⟩)⟩)⟩) (fMc ⟨⟨_,_,rfl,_,_,_,_,(FnOk.mono (Zer T) (by decide)),T.n_Run,T.l_Run,T.m_Run_given,T.b_Run_given⟩,(fMc ⟨⟨_,_,rfl,_,_,_,_,(FnOk.mono (Zfv T) (by decide)),T.n_Run,T.l_Run,T.m_Run_ring,T.b_Run_ring⟩,(fMc ⟨⟨_,_,rfl,_,_,_,_,(FnOk.mono (Zep T) (by decide)),T.n_Run,T.l_Run,T.m_Run_taken,T.b_Run_taken⟩,nl0⟩)⟩)⟩) (fMc ⟨⟨_,_,rfl,_,_,_,_,_,(by decide:6+1≤59),Zb5 T,T.n_Run,T.m_Run,T.k_Run,T.b_Run___init__⟩,nl0⟩) (Xq T)) Gp Zqa (fun vs M Q h=>?_) (fun vs M Q h=>?_)
 ·obtain⟨ns,rfl,_⟩:=h;rfl
 obtain⟨ns,rfl,h63,q⟩:=h;have hΦ:=(UM (Φ:=[("_law_rings",BD),("_law_things",Bx),("_law_whole",Bu),("made",Br),("Run___init__",BC),("Run_given",Bz),("Run_ring",BB),("Run_taken",BA)]) (fMc ⟨RN,(fMc ⟨Rw,(fMc ⟨Rk,(fMc ⟨QU,(fMc ⟨RL,(fMc ⟨RD,(fMc ⟨RF,(fMc ⟨RE,nl0⟩)⟩)⟩)⟩)⟩)⟩)⟩)⟩));show wSs _ _ _ [some (.frl (ns.map .int)),none,none,none,none,none,none,none,none,none] M;delta Gp Qm;walk_at "s";refine⟨ns,3,rfl,λW pi pf ys M1 s1 G i1 f1 f2 f3 hpi hIs hpf=>?_⟩;have i5:=G.i5;have f6:=G.f6;walk_at "s";delta Ql
 repeat (first|walk_at "s"|simp only[hpi])
 intro p1 hp1;have s2:=SameM.new hp1 (.lst ys);have hp2:updM M1 p1 (.lst ys) p1=some (.lst ys):=X9;generalize updM M1 p1 _=M2 at*;have hpf2:=s2 _ _ hpf
 repeat (first|walk_at "s"|simp only[hpf2])
 intro p2 hp3;have s3:=SameM.new hp3 (.lst (W.fer.map Fer.mv));have hp4:updM M2 p2 (.lst (W.fer.map Fer.mv)) p2=some (.lst (W.fer.map Fer.mv)):=X9;generalize updM M2 p2 _=M3 at*;refine⟨p1,p2,ys,W,rfl,s3 _ _ hp2,hIs.keep (s2.trans s3),hp4,G,λM4 s4=>?_⟩;have s14:=(s2.trans s3).trans s4;have hpi4:=s14 _ _ hpi;have hpf4:=s14 _ _ hpf;have hIs4:=hIs.keep s14
 try walk_at "s"
 intro r hr;have rr:updM M4 r (.ins "Run" []) r=some (.ins "Run" []):=X9;have s5:=SameM.new hr (.ins "Run" []);refine⟨r,W,rfl,rr,G,λR M5 fr5 hR5 hl5 ho5=>?_⟩;have s45:SameM M4 M5:=λa o e=>fr5 a o (s5 a o e) (by simpa using neM e hr)
 have hpi5:=s45 _ _ hpi4;have hpf5:=s45 _ _ hpf4;have hIs5:=hIs4.keep s45;have no5:∀a o,M4 a=some o->a∉R.own r:=λa o e z=>by
  rcases ho5 a z with rfl|c
  ·rw[hr]at e;cases e
  ·rw[s5 _ _ e]at c;cases c
 try walk_at "s"
 delta Qk;walk_at "s";intro pc hpc;obtain⟨cs,hcs,cl⟩:∃cs:List Int,cutM (ns.map MV.int) (some 10) (some 90)=cs.map MV.int/\cs.length≤63:=by
  refine⟨(ns.drop (HT.sIx (ns.map MV.int).length 0 (some 10))).take (HT.sIx (ns.map MV.int).length (ns.map MV.int).length (some 90) - HT.sIx (ns.map MV.int).length 0 (some 10)),?_,?_⟩
  ·unfold cutM;rw[List.map_take,List.map_drop]
  ·rw[YM,WC];lia
 rw[hcs];have s6:=SameM.new hpc (.lst (cs.map MV.int));have hc6:updM M5 pc (.lst (cs.map MV.int)) pc=some (.lst (cs.map MV.int)):=X9;generalize updM M5 pc _=M6 at*;refine⟨pc,pi,cs,ys,W.isl,rfl,hc6,by lia,s6 _ _ hpi5,hIs5.keep s6,i1,i5,λp rs M7 s7 hp hp7 rl ro=>?_⟩
 have s57:=s6.trans s7;have hR7:=hR5.keep s57;have hpf7:=s57 _ _ hpf5;have pno:p∉R.own r:=λz=>by
  obtain⟨o,e⟩:=hR5.own_some p z;rw[s6 _ _ e]at hp;cases hp
 have fno:pf∉R.own r:=no5 _ _ hpf4
 repeat (first|walk_at "s"|simp only[hp7])
 obtain⟨J,hJ⟩:∃J:Nat->Sm->MH->Prop,∀j σ M',J j σ M'↔∃(R':RunS) (v5 v6 v7 v8 v9:Option MV),RunAt M' W r R' (λ_=>R'.m)/\M' p=some (.lst (rs.map rgM))/\M' pf=some (.lst (W.fer.map Fer.mv))/\p∉R'.own r/\pf∉R'.own r/\(∀y∈R'.bs,y.A.ws.length≤j)/\σ=[some (.frl (ns.map MV.int)),some (.int W.w),some (.ref pi),some (.ref pf),some (.ref r),v5,v6,v7,v8,v9]:=⟨_,λ_ _ _=>Yn⟩;refine⟨J,(hJ _ _ _).mpr ⟨R,_,_,_,_,_,hR7,hp7,hpf7,pno,fno,λy hy=>VQ (hl5 y hy),rfl⟩,λj σ M' h=>?_,?_,?_⟩
 ·obtain⟨_,_,_,_,_,_,_,h,_⟩:=(hJ _ _ _).mp h;exact h
 ·rintro j y σ M' hy h;obtain⟨R',v5,v6,v7,v8,v9,hR,hps,hfs,n1,n2,hl,rfl⟩:=(hJ _ _ _).mp h;obtain⟨hj,rfl⟩:=YU (show(rs.map rgM)[j]?=some y from hy);obtain⟨I,hIm,en⟩:=ro _ (Y1 hj);generalize rs[j]=x at*;obtain⟨i,hi,rfl⟩:=Yc hIm;have ob:=hR.ob;walk_at "s";delta Qj;rw[en]
  repeat (first|walk_at "s"|simp only[ob,runO,valM])
  refine⟨r,W,R',i,_,x.2,rfl,G,hR,Xd hi,λy hy=>Y8 (hl y hy) (by lia),λR2 M8 v hR2 k2 ln=>?_⟩
  have hp8:=k2.fr _ _ hps n1;have hf8:=k2.fr _ _ hfs n2;have n1':p∉R2.own r:=λz=>(k2.nw p z).elim n1 λc=>by rw[hps]at c;cases c
  have n2':pf∉R2.own r:=λz=>(k2.nw pf z).elim n2 λc=>by rw[hfs]at c;cases c
  try walk_at "s"
  delta Qi
  repeat (first|walk_at "s"|simp only[hf8])
  obtain⟨J2,hJ2⟩:∃J:Nat->Sm->MH->Prop,∀j σ M',J j σ M'↔∃(v5 v6 v7 v8 v9:Option MV),SameM M8 M'/\σ=[some (.frl (ns.map MV.int)),some (.int W.w),some (.ref pi),some (.ref pf),some (.ref r),v5,v6,v7,v8,v9]:=⟨_,λ_ _ _=>Yn⟩;refine⟨J2,(hJ2 _ _ _).mpr ⟨_,_,_,_,_,SameM.refl _,rfl⟩,λj σ M' h=>?_,?_,?_⟩
  ·obtain⟨_,_,_,_,_,h,_⟩:=(hJ2 _ _ _).mp h;exact h _ _ hf8
  ·rintro k y σ M9 hy h;obtain⟨v5,v6,v7,v8,v9,s9,rfl⟩:=(hJ2 _ _ _).mp h;obtain⟨hk,rfl⟩:=YU (show(W.fer.map Fer.mv)[k]?=some y from hy);have hf:=Xd hk;generalize W.fer[k]=f at*;have hR9:=hR2.keep s9;obtain⟨b,hb⟩:∃b,R2.bs[k]?=some b:=⟨_,Xd (by rw[hR2.bl];exact hk)⟩
   have B:=hR9.ba k f b hf hb;have ob9:=hR9.ob;have fo:=G.fo f (XE hf);obtain⟨t1,t2⟩:=B.fy.ok.two;delta Qh
   repeat (first|walk_at "s"|simp only[ob9,runO,valM,Fer.mv])
   refine⟨r,W,R2,_,k,f,b,rfl,G,hR9,hf,hb,λpg hpg=>?_⟩;have s10:=SameM.new hpg (.lst (b.A.ws.map natM));have g10:updM M9 pg (.lst (b.A.ws.map natM)) pg=some (.lst (b.A.ws.map natM)):=X9;generalize updM M9 pg _=M10 at*;have hR10:=hR9.keep s10;have ob10:=hR10.ob
   try walk_at "s"
   delta Qg
   repeat (first|walk_at "s"|simp only[ob10,runO,valM,Fer.mv])
   refine⟨r,W,R2,_,k,f,b,rfl,G,hR10,hf,hb,λpt hpt=>?_⟩;have s11:=SameM.new hpt (.lst ((b.A.ws.take b.A.tn).map natM));have t11:updM M10 pt (.lst ((b.A.ws.take b.A.tn).map natM)) pt=some (.lst ((b.A.ws.take b.A.tn).map natM)):=X9;have g11:=s11 _ _ g10;generalize updM M10 pt _=M11 at*
   try walk_at "s"
   delta Qf
   repeat (first|walk_at "s"|simp only[g11,t11,Xa,YM])
   intro px hpx;rw[E1 t1,Zhu,<- List.map_take];have s12:=SameM.new hpx (.lst ((b.A.ws.take b.A.tn).map natM));have x12:updM M11 px (.lst ((b.A.ws.take b.A.tn).map natM)) px=some (.lst ((b.A.ws.take b.A.tn).map natM)):=X9;have g12:=s12 _ _ g11;have t12:=s12 _ _ t11;generalize updM M11 px _=M12 at*;refine Zl1 rfl (Alike.lstFlat 0 (.inr ⟨_,rfl,x12⟩) (.inr ⟨_,rfl,t12⟩) (λv hv=>by obtain⟨c,_,rfl⟩:=XY.mp hv;rfl)) (by decide) ?_
   rw[if_neg (by decide)]
   repeat (first|walk_at "s"|simp only[g12,t12,Xa,YM])
   have k2':((1:Int)*2^(f.k:Int).toNat)=((2^b.A.k:Nat):Int):=by rw[YQ,Int.one_mul,B.k,V9];rfl
   rw[k2',E1 t1];refine⟨⟨by lia,by have:=fo.k3;lia⟩,Yb (λc=>by lia) (λ_=>?_)⟩
   delta Qe;walk_at "s";refine Zjp b.A.ws natM ?_ ?_ hΦ λpz hpz=>?_
   ·repeat (first|walk_at "s"|simp only[g12])
    exact⟨rfl,Nat.lt_of_le_of_lt (ln j hl b (XE hb)) (by show _<16777216;lia),g12⟩
   ·intro z hz M' s;have zb:=B.wd z hz;simp only[sCm,XD,Yf,Ys,Yt,Yk,Yd];walk_at "s";refine⟨(z:Int),rfl,?_⟩;walk_at "s";have w2:W.w≤64:=G.w2;have e2:((1:Int)*2^(W.w:Int).toNat)=((2^W.w:Nat):Int):=by rw[YQ,Int.one_mul,V9];rfl
    rw[if_neg (by lia),e2]
    exact⟨⟨by lia,by lia⟩,by lia⟩
   have s13:=SameM.new hpz (.lst []);have z13:updM M12 pz (.lst []) pz=some (.lst []):=X9;generalize updM M12 pz _=M13 at*;walk_at "s";intro pe hpe;have s14:=SameM.new hpe (.lst []);have e14:updM M13 pe (.lst []) pe=some (.lst []):=X9;generalize updM M13 pe _=M14 at*;refine EU (s14 _ _ z13) e14 ?_;rw[if_neg (by decide)]
   try walk_at "s"
   exact(hJ2 _ _ _).mpr ⟨_,_,_,_,_,s9.trans (s10.trans (s11.trans (s12.trans (s13.trans s14)))),rfl⟩
  ·rintro σ M9 h;obtain⟨v5,v6,v7,v8,v9,s9,rfl⟩:=(hJ2 _ _ _).mp h;exact(hJ _ _ _).mpr ⟨R2,_,_,_,_,_,hR2.keep s9,s9 _ _ hp8,s9 _ _ hf8,n1',n2',ln j hl,rfl⟩
 ·rintro σ M' h;obtain⟨R',v5,v6,v7,v8,v9,hR,hps,hfs,n1,n2,hl,rfl⟩:=(hJ _ _ _).mp h;delta Qd;walk_at "s";exact q _
end
theorem all_mk{l:DY}{w:Xh}{K:X5}{h:Heap}{mg:Str->Option X0}{fa:Addr}(X:K.In h)(G:h.Ns Xv mg)(hfa:mg "law"=some (.ref fa))
  {CRun:Addr}
  {CFerry:Addr}
  {CSide:Addr}
  {f15 f16 f17 f18 f19 f20 f21 f22 f52 f53 f54 f55 f56 f57:Addr} {od15 an15 od16 an16 od17 an17 od18 an18 od19 an19 od20 an20 od21 an21 od22 an22 od52 an52 od53 an53 od54 an54 od55 an55 od56 an56 od57 an57:Option Addr} {sl15 sl16 sl17 sl18 sl19 sl20 sl21 sl22 sl52 sl53 sl54 sl55 sl56 sl57:Array (Option X0)} {oc15 kV15 dc15 pm15 cd15 ct15 oc16 kV16 dc16 pm16 cd16 ct16 oc17 kV17 dc17 pm17 cd17 ct17 oc18 kV18 dc18 pm18 cd18 ct18 oc19 kV19 dc19 pm19 cd19 ct19 oc20 kV20 dc20 pm20 cd20 ct20 oc21 kV21 dc21 pm21 cd21 ct21 oc22 kV22 dc22 pm22 cd22 ct22 oc52 kV52 dc52 pm52 cd52 ct52 oc53 kV53 dc53 pm53 cd53 ct53 oc54 kV54 dc54 pm54 cd54 ct54 oc55 kV55 dc55 pm55 cd55 ct55 oc56 kV56 dc56 pm56 cd56 ct56 oc57 kV57 dc57 pm57 cd57 ct57:X0}
  {f1 f2 f3 f4 f5 f6 f7 f8 f9 f10 f11 f12 f13 f14 f23 f24 f25 f26 f27 f28 f29 f30 f31 f32 f33 f34 f35 f36 f37 f38 f39 f40 f41 f42 f43 f44 f45 f46 f47 f48 f49 f50 f51 f58 f59 f60 f61 f62 f63 f64 f65 f66:Addr} {d1 d2 d3 d4 d5 d6 d7 d8 d9 d10 d11 d12 d13 d14 d23 d24 d25 d26 d27 d28 d29 d30 d31 d32 d33 d34 d35 d36 d37 d38 d39 d40 d41 d42 d43 d44 d45 d46 d47 d48 d49 d50 d51 d58 d59 d60 d61 d62 d63 d64 d65 d66:Xf}
  {tk1:Tok}
  {tk2:Tok}
  {tk3:Tok}
  {tk4:Tok}
  {tk5:Tok}
  {tk6:Tok}
  {tk7:Tok}
  {tk8:Tok}
  {tk9:Tok}
  {tk10:Tok}
  {tk11:Tok}
  (aCRun:XF K Xv "Run"=some (some (.ref CRun)))
  (aCFerry:XF K Xv "Ferry"=some (some (.ref CFerry)))
  (aCSide:XF K Xv "Side"=some (some (.ref CSide)))
  (h1:Fn1 K "is_whole" Ah f1 d1)
  (h2:Fn1 K "is_width" Ai f2 d2)
  (h3:Fn1 K "two_to" Aj f3 d3)
  (h4:Fn1 K "fits" Ak f4 d4)
  (h5:Fn1 K "cut" Al f5 d5)
  (h6:Fn1 K "amid" Am f6 d6)
  (h7:Fn1 K "code_of" An f7 d7)
  (h8:Fn1 K "number_of" Ao f8 d8)
  (h9:Fn1 K "first_sign" Ap f9 d9)
  (h10:Fn1 K "shown" Aq f10 d10)
  (h11:Fn1 K "first_sight" Ar f11 d11)
  (h12:Fn1 K "sampled" As f12 d12)
  (h13:Fn1 K "moved" At f13 d13)
  (h14:Fn1 K "used" Au f14 d14)
  (a15:XI K (.ref CSide) "__init__"=some (some (.ref f15))) (i15:YC K (.ref f15)=true) (l15:K.lookup f15=some ⟨oc15,od15,.func (XO "__init__" "Side.__init__" (XT Zk) (Xb Zk) (X4 Zk) .none kV15 dc15 pm15 an15 cd15 ct15),sl15⟩) (c15:YA K cd15 "Side.__init__"=true) (k15:Y5 K (.ref f15)=true)
  (a16:XI K (.ref CSide) "ring_ahead"=some (some (.ref f16))) (i16:YC K (.ref f16)=true) (l16:K.lookup f16=some ⟨oc16,od16,.func (XO "ring_ahead" "Side.ring_ahead" (XT Zl) (Xb Zl) (X4 Zl) .none kV16 dc16 pm16 an16 cd16 ct16),sl16⟩) (c16:YA K cd16 "Side.ring_ahead"=true) (k16:Y5 K (.ref f16)=true)
  (a17:XI K (.ref CSide) "less_the_seen"=some (some (.ref f17))) (i17:YC K (.ref f17)=true) (l17:K.lookup f17=some ⟨oc17,od17,.func (XO "less_the_seen" "Side.less_the_seen" (XT Zm) (Xb Zm) (X4 Zm) .none kV17 dc17 pm17 an17 cd17 ct17),sl17⟩) (c17:YA K cd17 "Side.less_the_seen"=true) (k17:Y5 K (.ref f17)=true)
  (a18:XI K (.ref CSide) "grow"=some (some (.ref f18))) (i18:YC K (.ref f18)=true) (l18:K.lookup f18=some ⟨oc18,od18,.func (XO "grow" "Side.grow" (XT Zn) (Xb Zn) (X4 Zn) .none kV18 dc18 pm18 an18 cd18 ct18),sl18⟩) (c18:YA K cd18 "Side.grow"=true) (k18:Y5 K (.ref f18)=true)
  (a19:XI K (.ref CSide) "show_and_see"=some (some (.ref f19))) (i19:YC K (.ref f19)=true) (l19:K.lookup f19=some ⟨oc19,od19,.func (XO "show_and_see" "Side.show_and_see" (XT Zo) (Xb Zo) (X4 Zo) .none kV19 dc19 pm19 an19 cd19 ct19),sl19⟩) (c19:YA K cd19 "Side.show_and_see"=true) (k19:Y5 K (.ref f19)=true)
  (a20:XI K (.ref CFerry) "__init__"=some (some (.ref f20))) (i20:YC K (.ref f20)=true) (l20:K.lookup f20=some ⟨oc20,od20,.func (XO "__init__" "Ferry.__init__" (XT Zp) (Xb Zp) (X4 Zp) .none kV20 dc20 pm20 an20 cd20 ct20),sl20⟩) (c20:YA K cd20 "Ferry.__init__"=true) (k20:Y5 K (.ref f20)=true)
  (a21:XI K (.ref CFerry) "ring_giver"=some (some (.ref f21))) (i21:YC K (.ref f21)=true) (l21:K.lookup f21=some ⟨oc21,od21,.func (XO "ring_giver" "Ferry.ring_giver" (XT Zq) (Xb Zq) (X4 Zq) .none kV21 dc21 pm21 an21 cd21 ct21),sl21⟩) (c21:YA K cd21 "Ferry.ring_giver"=true) (k21:Y5 K (.ref f21)=true)
  (a22:XI K (.ref CFerry) "ring_taker"=some (some (.ref f22))) (i22:YC K (.ref f22)=true) (l22:K.lookup f22=some ⟨oc22,od22,.func (XO "ring_taker" "Ferry.ring_taker" (XT Zr) (Xb Zr) (X4 Zr) .none kV22 dc22 pm22 an22 cd22 ct22),sl22⟩) (c22:YA K cd22 "Ferry.ring_taker"=true) (k22:Y5 K (.ref f22)=true)
  (h23:Fn1 K "parts_within" Av f23 d23)
  (h24:Fn1 K "size_of" Aw f24 d24)
  (h25:Fn1 K "names_read" Ax f25 d25)
  (h26:Fn1 K "vars_in" Ay f26 d26)
  (h27:Fn1 K "worth_of_two" Az f27 d27)
  (h28:Fn1 K "worth" AA f28 d28)
  (h29:Fn1 K "wish" AB f29 d29)
  (h30:Fn1 K "number_after" AC f30 d30)
  (h31:Fn1 K "words_after" AD f31 d31)
  (h32:Fn1 K "after" AE f32 d32)
  (h33:Fn1 K "is_name" AF f33 d33)
  (h34:Fn1 K "refuse_name" AG f34 d34)
  (h35:Fn1 K "refuse_unknown" AH f35 d35)
  (h36:Fn1 K "refuse_ferry_names" AI f36 d36)
  (h37:Fn1 K "refuse_variables" AJ f37 d37)
  (h38:Fn1 K "refuse_term" AK f38 d38)
  (h39:Fn1 K "refuse_step" AL f39 d39)
  (h40:Fn1 K "refuse_island" AM f40 d40)
  (h41:Fn1 K "refuse_islands" AN f41 d41)
  (h42:Fn1 K "refuse_ferry" AO f42 d42)
  (h43:Fn1 K "refuse_wrong_end" AQ f43 d43)
  (h44:Fn1 K "refuse_wrong_ends" AR f44 d44)
  (h45:Fn1 K "frozen" AS f45 d45)
  (h46:Fn1 K "made" AT f46 d46)
  (h47:Fn1 K "one_called" AU f47 d47)
  (h48:Fn1 K "island_of" AV f48 d48)
  (h49:Fn1 K "what_alone" AW f49 d49)
  (h50:Fn1 K "is_wish_of" AX f50 d50)
  (h51:Fn1 K "looked_up" AY f51 d51)
  (a52:XI K (.ref CRun) "__init__"=some (some (.ref f52))) (i52:YC K (.ref f52)=true) (l52:K.lookup f52=some ⟨oc52,od52,.func (XO "__init__" "Run.__init__" (XT Zs) (Xb Zs) (X4 Zs) .none kV52 dc52 pm52 an52 cd52 ct52),sl52⟩) (c52:YA K cd52 "Run.__init__"=true) (k52:Y5 K (.ref f52)=true)
  (a53:XI K (.ref CRun) "ring"=some (some (.ref f53))) (i53:YC K (.ref f53)=true) (l53:K.lookup f53=some ⟨oc53,od53,.func (XO "ring" "Run.ring" (XT Zt) (Xb Zt) (X4 Zt) .none kV53 dc53 pm53 an53 cd53 ct53),sl53⟩) (c53:YA K cd53 "Run.ring"=true) (k53:Y5 K (.ref f53)=true)
  (a54:XI K (.ref CRun) "ring_ferry"=some (some (.ref f54))) (i54:YC K (.ref f54)=true) (l54:K.lookup f54=some ⟨oc54,od54,.func (XO "ring_ferry" "Run.ring_ferry" (XT Zu) (Xb Zu) (X4 Zu) .none kV54 dc54 pm54 an54 cd54 ct54),sl54⟩) (c54:YA K cd54 "Run.ring_ferry"=true) (k54:Y5 K (.ref f54)=true)
  (a55:XI K (.ref CRun) "go_on"=some (some (.ref f55))) (i55:YC K (.ref f55)=true) (l55:K.lookup f55=some ⟨oc55,od55,.func (XO "go_on" "Run.go_on" (XT Zv) (Xb Zv) (X4 Zv) .none kV55 dc55 pm55 an55 cd55 ct55),sl55⟩) (c55:YA K cd55 "Run.go_on"=true) (k55:Y5 K (.ref f55)=true)
  (a56:XI K (.ref CRun) "given"=some (some (.ref f56))) (i56:YC K (.ref f56)=true) (l56:K.lookup f56=some ⟨oc56,od56,.func (XO "given" "Run.given" (XT Zw) (Xb Zw) (X4 Zw) .none kV56 dc56 pm56 an56 cd56 ct56),sl56⟩) (c56:YA K cd56 "Run.given"=true) (k56:Y5 K (.ref f56)=true)
  (a57:XI K (.ref CRun) "taken"=some (some (.ref f57))) (i57:YC K (.ref f57)=true) (l57:K.lookup f57=some ⟨oc57,od57,.func (XO "taken" "Run.taken" (XT Zx) (Xb Zx) (X4 Zx) .none kV57 dc57 pm57 an57 cd57 ct57),sl57⟩) (c57:YA K cd57 "Run.taken"=true) (k57:Y5 K (.ref f57)=true)
  (h58:Fn1 K "_law_cell_at" AZ f58 d58)
  (h59:Fn1 K "_law_whole" B0 f59 d59)
  (h60:Fn1 K "_law_name" B1 f60 d60)
  (h61:Fn1 K "_law_term" B3 f61 d61)
  (h62:Fn1 K "_law_step" B4 f62 d62)
  (h63:Fn1 K "_law_island" B5 f63 d63)
  (h64:Fn1 K "_law_things" B6 f64 d64)
  (h65:Fn1 K "_law_rings" B7 f65 d65)
  (h66:Fn1 K "law" B8 f66 d66)
  (pgSide:V0 K CSide Uo=true) (hdSide:VM K CSide=true) (poSide:WH K CSide=true) (saSide:XI K (.ref CSide) "__setattr__"=some (some (.builtin "object.__setattr__"))) (mkSide:WI K CSide=true) (kcSide:Y5 K (.ref CSide)=true)
  (nSide_turn:XI K (.ref CSide) "turn"=some none)
  (nSide_total:XI K (.ref CSide) "total"=some none)
  (nSide_sign:XI K (.ref CSide) "sign"=some none)
  (nSide_sight:XI K (.ref CSide) "sight"=some none)
  (pgFerry:V0 K CFerry Uo=true) (hdFerry:VM K CFerry=true) (poFerry:WH K CFerry=true) (saFerry:XI K (.ref CFerry) "__setattr__"=some (some (.builtin "object.__setattr__"))) (mkFerry:WI K CFerry=true) (kcFerry:Y5 K (.ref CFerry)=true)
  (nFerry_places:XI K (.ref CFerry) "places"=some none)
  (nFerry_giver:XI K (.ref CFerry) "giver"=some none)
  (nFerry_taker:XI K (.ref CFerry) "taker"=some none)
  (pgRun:V0 K CRun Uo=true) (hdRun:VM K CRun=true) (poRun:WH K CRun=true) (saRun:XI K (.ref CRun) "__setattr__"=some (some (.builtin "object.__setattr__"))) (mkRun:WI K CRun=true) (kcRun:Y5 K (.ref CRun)=true)
  (nRun_world:XI K (.ref CRun) "world"=some none)
  (nRun_moment:XI K (.ref CRun) "moment"=some none)
  (nRun_next_numbers:XI K (.ref CRun) "next_numbers"=some none)
  (nRun_words_now:XI K (.ref CRun) "words_now"=some none)
  (nRun_steps_so_far:XI K (.ref CRun) "steps_so_far"=some none)
  (nRun_boats:XI K (.ref CRun) "boats"=some none)
  (nRun_given_so_far:XI K (.ref CRun) "given_so_far"=some none)
  (nRun_taken_so_far:XI K (.ref CRun) "taken_so_far"=some none)
  (z1:XF K Xv "all"=some none)
  (z2:XF K Xv "bool"=some none)
  (z3:XF K Xv "dict"=some none)
  (z4:XF K Xv "int"=some none)
  (z5:XF K Xv "isinstance"=some none)
  (z6:XF K Xv "len"=some none)
  (z7:XF K Xv "list"=some none)
  (z8:XF K Xv "max"=some none)
  (z9:XF K Xv "min"=some none)
  (z10:XF K Xv "range"=some none)
  (z11:XF K Xv "set"=some none)
  (z12:XF K Xv "sorted"=some none)
  (z13:XF K Xv "tuple"=some none)
  (g1:XF K Xv "MOST_WIDTH"=some (some (.int 64 tk1)))
  (g2:XF K Xv "MOST_LETTERS"=some (some (.int 8 tk2)))
  (g3:XF K Xv "MOST_ISLANDS"=some (some (.int 5 tk3)))
  (g4:XF K Xv "MOST_FERRIES"=some (some (.int 6 tk4)))
  (g5:XF K Xv "MOST_VARS"=some (some (.int 6 tk5)))
  (g6:XF K Xv "MOST_STEPS"=some (some (.int 12 tk6)))
  (g7:XF K Xv "MOST_PARTS"=some (some (.int 30 tk7)))
  (g8:XF K Xv "MOST_DEPTH"=some (some (.int 8 tk8)))
  (g9:XF K Xv "MOST_K"=some (some (.int 3 tk9)))
  (g10:XF K Xv "MOST_STAGES"=some (some (.int 3 tk10)))
  (g11:XF K Xv "BITS_A_FERRY"=some (some (.int 8 tk11))):
  ∃fd:Xf,(∀(s:X1) (v:X0),BindsTo s fd ⟨[v],[]⟩ [("script",v)])/\∀base:Heap,K.In base->base.Ns Xv mg->FnOk l.prog w K mg base CX0 60 fa fd ["script"] (CU K):=by
 have e:=hfa.symm.trans (YB X G h66.a);cases e;have T:Txt K mg ⟨f1,d1,f2,d2,f3,d3,f4,d4,f5,d5,f6,d6,f7,d7,f8,d8,f9,d9,f10,d10,f11,d11,f12,d12,f13,d13,f14,d14,f15,XO "__init__" "Side.__init__" (XT Zk) (Xb Zk) (X4 Zk) .none kV15 dc15 pm15 an15 cd15 ct15,f16,XO "ring_ahead" "Side.ring_ahead" (XT Zl) (Xb Zl) (X4 Zl) .none kV16 dc16 pm16 an16 cd16 ct16,f17,XO "less_the_seen" "Side.less_the_seen" (XT Zm) (Xb Zm) (X4 Zm) .none kV17 dc17 pm17 an17 cd17 ct17,f18,XO "grow" "Side.grow" (XT Zn) (Xb Zn) (X4 Zn) .none kV18 dc18 pm18 an18 cd18 ct18,f19,XO "show_and_see" "Side.show_and_see" (XT Zo) (Xb Zo) (X4 Zo) .none kV19 dc19 pm19 an19 cd19 ct19,f20,XO "__init__" "Ferry.__init__" (XT Zp) (Xb Zp) (X4 Zp) .none kV20 dc20 pm20 an20 cd20 ct20,f21,XO "ring_giver" "Ferry.ring_giver" (XT Zq) (Xb Zq) (X4 Zq) .none kV21 dc21 pm21 an21 cd21 ct21,f22,XO "ring_taker" "Ferry.ring_taker" (XT Zr) (Xb Zr) (X4 Zr) .none kV22 dc22 pm22 an22 cd22 ct22,f23,d23,f24,d24,f25,d25,f26,d26,f27,d27,f28,d28,f29,d29,f30,d30,f31,d31,f32,d32,f33,d33,f34,d34,f35,d35,f36,d36,f37,d37,f38,d38,f39,d39,f40,d40,f41,d41,f42,d42,f43,d43,f44,d44,f45,d45,f46,d46,f47,d47,f48,d48,f49,d49,f50,d50,f51,d51,f52,XO "__init__" "Run.__init__" (XT Zs) (Xb Zs) (X4 Zs) .none kV52 dc52 pm52 an52 cd52 ct52,f53,XO "ring" "Run.ring" (XT Zt) (Xb Zt) (X4 Zt) .none kV53 dc53 pm53 an53 cd53 ct53,f54,XO "ring_ferry" "Run.ring_ferry" (XT Zu) (Xb Zu) (X4 Zu) .none kV54 dc54 pm54 an54 cd54 ct54,f55,XO "go_on" "Run.go_on" (XT Zv) (Xb Zv) (X4 Zv) .none kV55 dc55 pm55 an55 cd55 ct55,f56,XO "given" "Run.given" (XT Zw) (Xb Zw) (X4 Zw) .none kV56 dc56 pm56 an56 cd56 ct56,f57,XO "taken" "Run.taken" (XT Zx) (Xb Zx) (X4 Zx) .none kV57 dc57 pm57 an57 cd57 ct57,f58,d58,f59,d59,f60,d60,f61,d61,f62,d62,f63,d63,f64,d64,f65,d65,fa,d66,CSide,CFerry,CRun⟩:={
  q_is_whole:=h1.t X G λ_ _ _ _ _ _=>us1 (λ_=>rfl)
  q_is_width:=h2.t X G λ_ _ _ _ _ _=>us1 (λ_=>rfl)
  q_two_to:=h3.t X G λ_ _ _ _ _ _=>us1 (λ_=>rfl)
  q_fits:=h4.t X G λ_ _ _ _ _ _=>us2 (λ_ _=>rfl)
  q_cut:=h5.t X G λ_ _ _ _ _ _=>us2 (λ_ _=>rfl)
  q_amid:=h6.t X G λ_ _ _ _ _ _=>us3 (λ_ _ _=>rfl)
  q_code_of:=h7.t X G λ_ _ _ _ _ _=>us1 (λ_=>rfl)
  q_number_of:=h8.t X G λ_ _ _ _ _ _=>us1 (λ_=>rfl)
  q_first_sign:=h9.t X G λ_ _ _ _ _ _=>us1 (λ_=>rfl)
  q_shown:=h10.t X G λ_ _ _ _ _ _=>us3 (λ_ _ _=>rfl)
  q_first_sight:=h11.t X G λ_ _ _ _ _ _=>us2 (λ_ _=>rfl)
  q_sampled:=h12.t X G λ_ _ _ _ _ _=>us3 (λ_ _ _=>rfl)
  q_moved:=h13.t X G λ_ _ _ _ _ _=>us2 (λ_ _=>rfl)
  q_used:=h14.t X G λ_ _ _ _ _ _=>us1 (λ_=>rfl)
  F_Side___init__:=fun_mk (st:=Zk) l15 c15 k15
  b_Side___init__:=(fun_mk (st:=Zk) l15 c15 k15).binds (ps:=["self","turn","stages"]) fun _ _ _ _ _ _=>us3 (fun _ _ _=>rfl)
  m_Side___init__:=⟨a15,i15,k15⟩
  F_Side_ring_ahead:=fun_mk (st:=Zl) l16 c16 k16
  b_Side_ring_ahead:=(fun_mk (st:=Zl) l16 c16 k16).binds (ps:=["self"]) fun _ _ _ _ _ _=>us1 (fun _=>rfl)
  m_Side_ring_ahead:=⟨a16,i16,k16⟩
  F_Side_less_the_seen:=fun_mk (st:=Zm) l17 c17 k17
  b_Side_less_the_seen:=(fun_mk (st:=Zm) l17 c17 k17).binds (ps:=["self"]) fun _ _ _ _ _ _=>us1 (fun _=>rfl)
  m_Side_less_the_seen:=⟨a17,i17,k17⟩
  F_Side_grow:=fun_mk (st:=Zn) l18 c18 k18
  b_Side_grow:=(fun_mk (st:=Zn) l18 c18 k18).binds (ps:=["self"]) fun _ _ _ _ _ _=>us1 (fun _=>rfl)
  m_Side_grow:=⟨a18,i18,k18⟩
  F_Side_show_and_see:=fun_mk (st:=Zo) l19 c19 k19
  b_Side_show_and_see:=(fun_mk (st:=Zo) l19 c19 k19).binds (ps:=["self","moment","choice","other_sign"]) fun _ _ _ _ _ _=>us4 (fun _ _ _ _=>rfl)
  m_Side_show_and_see:=⟨a19,i19,k19⟩
  F_Ferry___init__:=fun_mk (st:=Zp) l20 c20 k20
  b_Ferry___init__:=(fun_mk (st:=Zp) l20 c20 k20).binds (ps:=["self","k","stages"]) fun _ _ _ _ _ _=>us3 (fun _ _ _=>rfl)
  m_Ferry___init__:=⟨a20,i20,k20⟩
  F_Ferry_ring_giver:=fun_mk (st:=Zq) l21 c21 k21
  b_Ferry_ring_giver:=(fun_mk (st:=Zq) l21 c21 k21).binds (ps:=["self","moment","choice","word"]) fun _ _ _ _ _ _=>us4 (fun _ _ _ _=>rfl)
  m_Ferry_ring_giver:=⟨a21,i21,k21⟩
  F_Ferry_ring_taker:=fun_mk (st:=Zr) l22 c22 k22
  b_Ferry_ring_taker:=(fun_mk (st:=Zr) l22 c22 k22).binds (ps:=["self","moment","choice","wished"]) fun _ _ _ _ _ _=>us4 (fun _ _ _ _=>rfl)
  m_Ferry_ring_taker:=⟨a22,i22,k22⟩
  q_parts_within:=h23.t X G λ_ _ _ _ _ _=>us1 (λ_=>rfl)
  q_size_of:=h24.t X G λ_ _ _ _ _ _=>us1 (λ_=>rfl)
  q_names_read:=h25.t X G λ_ _ _ _ _ _=>us1 (λ_=>rfl)
  q_vars_in:=h26.t X G λ_ _ _ _ _ _=>us1 (λ_=>rfl)
  q_worth_of_two:=h27.t X G λ_ _ _ _ _ _=>us4 (λ_ _ _ _=>rfl)
  q_worth:=h28.t X G λ_ _ _ _ _ _=>us3 (λ_ _ _=>rfl)
  q_wish:=h29.t X G λ_ _ _ _ _ _=>us4 (λ_ _ _ _=>rfl)
  q_number_after:=h30.t X G λ_ _ _ _ _ _=>us4 (λ_ _ _ _=>rfl)
  q_words_after:=h31.t X G λ_ _ _ _ _ _=>us4 (λ_ _ _ _=>rfl)
  q_after:=h32.t X G λ_ _ _ _ _ _=>us5 (λ_ _ _ _ _=>rfl)
  q_is_name:=h33.t X G λ_ _ _ _ _ _=>us1 (λ_=>rfl)
  q_refuse_name:=h34.t X G λ_ _ _ _ _ _=>us2 (λ_ _=>rfl)
  q_refuse_unknown:=h35.t X G λ_ _ _ _ _ _=>us2 (λ_ _=>rfl)
  q_refuse_ferry_names:=h36.t X G λ_ _ _ _ _ _=>us1 (λ_=>rfl)
  q_refuse_variables:=h37.t X G λ_ _ _ _ _ _=>us2 (λ_ _=>rfl)
  q_refuse_term:=h38.t X G λ_ _ _ _ _ _=>us2 (λ_ _=>rfl)
  q_refuse_step:=h39.t X G λ_ _ _ _ _ _=>us4 (λ_ _ _ _=>rfl)
  q_refuse_island:=h40.t X G λ_ _ _ _ _ _=>us3 (λ_ _ _=>rfl)
  q_refuse_islands:=h41.t X G λ_ _ _ _ _ _=>us3 (λ_ _ _=>rfl)
  q_refuse_ferry:=h42.t X G λ_ _ _ _ _ _=>us2 (λ_ _=>rfl)
  q_refuse_wrong_end:=h43.t X G λ_ _ _ _ _ _=>us4 (λ_ _ _ _=>rfl)
  q_refuse_wrong_ends:=h44.t X G λ_ _ _ _ _ _=>us2 (λ_ _=>rfl)
  q_frozen:=h45.t X G λ_ _ _ _ _ _=>us1 (λ_=>rfl)
  q_made:=h46.t X G λ_ _ _ _ _ _=>us3 (λ_ _ _=>rfl)
  q_one_called:=h47.t X G λ_ _ _ _ _ _=>us2 (λ_ _=>rfl)
  q_island_of:=h48.t X G λ_ _ _ _ _ _=>us2 (λ_ _=>rfl)
  q_what_alone:=h49.t X G λ_ _ _ _ _ _=>us1 (λ_=>rfl)
  q_is_wish_of:=h50.t X G λ_ _ _ _ _ _=>us2 (λ_ _=>rfl)
  q_looked_up:=h51.t X G λ_ _ _ _ _ _=>us2 (λ_ _=>rfl)
  F_Run___init__:=fun_mk (st:=Zs) l52 c52 k52
  b_Run___init__:=(fun_mk (st:=Zs) l52 c52 k52).binds (ps:=["self","world"]) fun _ _ _ _ _ _=>us2 (fun _ _=>rfl)
  m_Run___init__:=⟨a52,i52,k52⟩
  F_Run_ring:=fun_mk (st:=Zt) l53 c53 k53
  b_Run_ring:=(fun_mk (st:=Zt) l53 c53 k53).binds (ps:=["self","name","choice"]) fun _ _ _ _ _ _=>us3 (fun _ _ _=>rfl)
  m_Run_ring:=⟨a53,i53,k53⟩
  F_Run_ring_ferry:=fun_mk (st:=Zu) l54 c54 k54
  b_Run_ring_ferry:=(fun_mk (st:=Zu) l54 c54 k54).binds (ps:=["self","ferry","name","choice","asked"]) fun _ _ _ _ _ _=>us5 (fun _ _ _ _ _=>rfl)
  m_Run_ring_ferry:=⟨a54,i54,k54⟩
  F_Run_go_on:=fun_mk (st:=Zv) l55 c55 k55
  b_Run_go_on:=(fun_mk (st:=Zv) l55 c55 k55).binds (ps:=["self","name","steps","word"]) fun _ _ _ _ _ _=>us4 (fun _ _ _ _=>rfl)
  m_Run_go_on:=⟨a55,i55,k55⟩
  F_Run_given:=fun_mk (st:=Zw) l56 c56 k56
  b_Run_given:=(fun_mk (st:=Zw) l56 c56 k56).binds (ps:=["self","name"]) fun _ _ _ _ _ _=>us2 (fun _ _=>rfl)
  m_Run_given:=⟨a56,i56,k56⟩
  F_Run_taken:=fun_mk (st:=Zx) l57 c57 k57
  b_Run_taken:=(fun_mk (st:=Zx) l57 c57 k57).binds (ps:=["self","name"]) fun _ _ _ _ _ _=>us2 (fun _ _=>rfl)
  m_Run_taken:=⟨a57,i57,k57⟩
  q__law_cell_at:=h58.t X G λ_ _ _ _ _ _=>us2 (λ_ _=>rfl)
  q__law_whole:=h59.t X G λ_ _ _ _ _ _=>us1 (λ_=>rfl)
  q__law_name:=h60.t X G λ_ _ _ _ _ _=>us2 (λ_ _=>rfl)
  q__law_term:=h61.t X G λ_ _ _ _ _ _=>us2 (λ_ _=>rfl)
  q__law_step:=h62.t X G λ_ _ _ _ _ _=>us5 (λ_ _ _ _ _=>rfl)
  q__law_island:=h63.t X G λ_ _ _ _ _ _=>us5 (λ_ _ _ _ _=>rfl)
  q__law_things:=h64.t X G λ_ _ _ _ _ _=>us2 (λ_ _=>rfl)
  q__law_rings:=h65.t X G λ_ _ _ _ _ _=>us2 (λ_ _=>rfl)
  q_law:=h66.t X G λ_ _ _ _ _ _=>us1 (λ_=>rfl)
  n_Side:=aCSide
  m_Side:=YB X G aCSide
  l_Side:=⟨pgSide,hdSide,poSide,saSide⟩
  k_Side:=⟨mkSide,a15,i15,kcSide⟩
  a_Side_turn:=nSide_turn
  a_Side_total:=nSide_total
  a_Side_sign:=nSide_sign
  a_Side_sight:=nSide_sight
  n_Ferry:=aCFerry
  m_Ferry:=YB X G aCFerry
  l_Ferry:=⟨pgFerry,hdFerry,poFerry,saFerry⟩
  k_Ferry:=⟨mkFerry,a20,i20,kcFerry⟩
  a_Ferry_places:=nFerry_places
  a_Ferry_giver:=nFerry_giver
  a_Ferry_taker:=nFerry_taker
  n_Run:=aCRun
  m_Run:=YB X G aCRun
  l_Run:=⟨pgRun,hdRun,poRun,saRun⟩
  k_Run:=⟨mkRun,a52,i52,kcRun⟩
  a_Run_world:=nRun_world
  a_Run_moment:=nRun_moment
  a_Run_next_numbers:=nRun_next_numbers
  a_Run_words_now:=nRun_words_now
  a_Run_steps_so_far:=nRun_steps_so_far
  a_Run_boats:=nRun_boats
  a_Run_given_so_far:=nRun_given_so_far
  a_Run_taken_so_far:=nRun_taken_so_far
  z_all:=Z6 X G z1
  z_bool:=Z6 X G z2
  z_dict:=Z6 X G z3
  z_int:=Z6 X G z4
  z_isinstance:=Z6 X G z5
  z_len:=Z6 X G z6
  z_list:=Z6 X G z7
  z_max:=Z6 X G z8
  z_min:=Z6 X G z9
  z_range:=Z6 X G z10
  z_set:=Z6 X G z11
  z_sorted:=Z6 X G z12
  z_tuple:=Z6 X G z13
  c_MOST_WIDTH:=⟨_,YB X G g1⟩
  c_MOST_LETTERS:=⟨_,YB X G g2⟩
  c_MOST_ISLANDS:=⟨_,YB X G g3⟩
  c_MOST_FERRIES:=⟨_,YB X G g4⟩
  c_MOST_VARS:=⟨_,YB X G g5⟩
  c_MOST_STEPS:=⟨_,YB X G g6⟩
  c_MOST_PARTS:=⟨_,YB X G g7⟩
  c_MOST_DEPTH:=⟨_,YB X G g8⟩
  c_MOST_K:=⟨_,YB X G g9⟩
  c_MOST_STAGES:=⟨_,YB X G g10⟩
  c_BITS_A_FERRY:=⟨_,YB X G g11⟩
 }
 exact⟨d66,h66.bt λ_ _ _ _ _ _ _=>rfl,λbase _ _=>Znk (FnOk.mono (Zpy T) (by decide))⟩
theorem walk{l:DY}{q:Xk}{loose:List Str}{XP:(Str->Option X0)->Heap->Prop}{YP:Xh->Heap->Prop}{d:DefRec}{K:Params->X5}(hn:l.most=some 63)(hdf:d.params.defaults=[])
  (hY:∀(w:Xh) (h:Heap),YP w h->(K w.params).In h)
  (F:∀(w:Xh) (mg:Str->Option X0) (fa:Addr) (h:Heap),(K w.params).In h->h.Ns Xv mg->mg d.name=some (.ref fa)->
   ∃fd:Xf,(∀(s:X1) (u:X0),BindsTo s fd ⟨[u],[]⟩ [("script",u)])/\∀base:Heap,(K w.params).In base->base.Ns Xv mg->FnOk l.prog w (K w.params) mg base CX0 60 fa fd ["script"] (CU (K w.params))):
  PySem.W.WalkO q loose XP YP l.row.toRowW d [] (λf vs=>PySem.call f vs):=
 L2.walk_of (n:=63) (k:=60) (x:="script") (CX:=fun _=>CX0) (sp:=fun w=>CU (K w.params)) hn (by decide) hdf ⟨rfl,by decide,by decide⟩ hY F (fun _ H a ns hl hO hS=>⟨a,ns,rfl,Zq3 hO hS,hl,fun _=>rfl⟩) fun _ _ _ _ _ z=>z
end My
structure PySem.W.Fast:Prop where
 (tw9888648572177985080 tw12772182563494448836 tw8524404234778860213 tw5832640508843091588 tw10530842394430494154 tw10145438297712453449 tw423273250223694754 tw11615646736745736898 tw15918607510868809964 tw5522367304322976863 tw2885917508888456656 tw1010182975937833920 tw16331317856703174234 tw10091640392893718956 tw8748251495838157555 tw16335143680108542439 tw2234123166187345992 tw11294534942621389220 tw17554884831947853252 tw1554247726569181700 tw2250470617789577018 tw9514229810972242657 tw63921322718115679 tw13634223094096420297 tw9410293661554601425 tw5172176595085464210 tw269506205389593840 tw10878958660319728488 tw15434410933490069324 tw17138827843628839361 tw9143239650097263529 tw9373147328679548117 tw13805223379944306967 tw4928413253651941191 tw6381952002815992677 tw11970924170668214392 tw4315272182919914650 tw6229942624661764255 tw15096802327379406942 tw5871734267695672466 tw17764868341522330550 tw14423357413014696171 tw14459875097702939878 tw12875256120617908284 tw8038104836985085482 tw7247595477873648043 tw5859099740064798429 tw2908055105132352744 tw13629156338571836219 tw10761073965357278543 tw2905058270642003309 tw17212053777727148025 tw12794191471006883114 tw9375190039396913035 tw7000952895544721936 tw5398709020005020591 tw506976991365354772 tw2519970646133151787 tw15739452097047161347 tw3798332371533738895 tw17311970726837976481 tw13765637328208402866 tw6027456946769251955 tw7534853758692728716 tw12211210645630337876 tw3502496690786762217 tw8862697422212628160 tw5287356207258973595 tw17948855087304776475 tw1696120733117610416 tw14022470253595660079 tw6267983398063628552 tw7421676118290710926 tw1313155838258757895 tw2255990365553278175 tw13452396338292799420 tw5052118763349024679 tw11838765299272366675 tw6979873787967533249 tw15586473728702229176 tw2494815673750316697 tw7856991554240302461 tw15119852167725856528 tw17248884898622788946 tw5250006934105362478 tw4745408152782968129 tw4666127849394166982 tw9191687249284146090 tw9509177239484620357 tw15297779807251743284 tw10147051676093153066 tw6953193156147603986 tw10081054792094284737 tw15600662007646100386 tw15322169916443609040 tw10126878992344319710 tw5496989725365040307 tw3454487135832373895 tw13558245155589404317 tw7796815956793251792 tw1159175450148515193 tw11008636822121763156 tw3867031953294625925 tw4652167732294657998 tw15684934592707881077 tw14741888360167802769 tw12978220485469810643 tw93972815666616044 tw5817369722270878822 tw3781849949152724486 tw9469939659665959061 tw684394730034314674 tw18107610837676035881 tw12711601419640361468 tw2573202794532189523 tw7840555884421085248 tw4788149037892023760 tw15396200245994008241 tw15139278344013652650 tw4393662111748805585 tw5324733708845987910 tw10005288008558198001 tw16635850227485843575 tw3158983871148452833 tw13003111811733381890 tw8741227438339694781 tw4129547120715114164 tw4976594751350313093 tw17273372227462070289 tw2882495145988935386 tw12124804073287827942 tw3634638393802384073 tw10662482659930537871 tw7269193400579201900 tw4639734213437732111 tw3556110983592067559 tw6967901723030649441 tw13581410822081245326 tw17464963421322890617 tw1004353508789613800 tw12975900122050222492 tw14630687858810825000 tw16912860013653689501 tw16325769586019325173 tw9631145558759923742 tw15889152120916605087 tw11779159669810641407 tw18058529516129711908 tw17293099764338136433 tw13760963757702946910 tw17877602573831518769 tw9274120575451567284 tw13953144072653960513 tw8242280141656564898 tw17499020982677418761 tw3850357100236395370 tw2619474241299966261 tw2724318342827225424 tw13081593797428452379 tw3793614453493137860 tw9976334746322427851 tw542709852979052456 tw9668153197246606061 tw17126724175214228905 tw11157159390911174076 tw12477814201910376508 tw6224348435787166948 tw11541936857338275725 tw17798418164678457440 tw16446692575651457883 tw4100407092334628077 tw13690807292089479088 tw14907519254045974101 tw9644998026327156743 tw16107378099885222312 tw15667902818844079782 tw16097149266873746944 tw14046398185824459236 tw809750556697201532 tw376890611208017707 tw10078796027468830733 tw11648864062438897741 tw2585690232677952703 tw254161315000630983 tw12036802887889512137 tw16126510855762840390 tw9832690659521498822 tw12299510459324171896 tw1715046915057983599 tw8678041466025873776 tw7362250377390251307 tw6397123237808012487 tw12390205865437166696 tw2437857427635263832 tw2815168709452949270 tw10553743413383612903 tw16577952335416016354 tw16224662174067344047 tw9774154535043134047 tw16725936136426781470 tw3257827897271194217 tw11043711738787798808 tw409517416661165865 tw18444596053084921142 tw10996377576773850131 tw15779092863631347417 tw12006228611817648268 tw10063608187662602474 tw11073200259617782889 tw2199655566761960403 tw2298959186387691299 tw7546148657766123810 tw11511808186335396187 tw5257324157422016743 tw8750741264465680899 tw8390446826456461534 tw6520011416755571483 tw11567182553193263129 tw10696231484798582465 tw13452982965495475432 tw6417236488169242665 tw17105464537147004228 tw9380206148491603371 tw11114069389217441360 tw986081684359486660 tw15548767611560673616 tw11627026234849373317 tw1527583866285091269 tw11819081482096840339 tw13587875580051322679 tw13648772306511583501 tw9901904957107862700 tw797446023771176912 tw5886977100550928110 tw1426694519797502152 tw2397154248233472505 tw14763527210350237133 tw13639252289955905478 tw10568222014115315666 tw6067584877847531062 tw6573184798901151945 tw2743447169251551772 tw3004863671101165230 tw13806283293169092361 tw2016813662033271179 tw5076697468621010800 tw17059041184746599558 tw7133280456824988090 tw8283520839810402085 tw10540868058239739130 tw3898640004393567212 tw5185432380372467516 tw4577724645058436856 tw14551849659093781899 tw15687665996515491891 tw5924199073702580800 tw1320755270974297528 tw4524134969451115158 tw15416595886672998578 tw10809244799505352856 tw14458564568095787736 tw5057249711557029489 tw5384259774240498469 tw3280472922951229780 tw17356548885801358410 tw9441539029982668784 tw3426461227550945993 tw7276484121719807780 tw4824777838148075843 tw6865505481355244353 tw12458170550792074502 tw3259929431335048372 tw6110035761322853449 tw18097218572282011162 tw10983269153272788756 tw10602182295807623343 tw9740322730404500115 tw8986715977450482618 tw6226586081307947647 tw10422709678082286993 tw1060956094752838105 tw1485049520868156853 tw206201252329618482 tw13285884114276312415 tw17515630349602311388 tw8095498937319528281 tw16029783272281480854 tw13194896699367311159 tw14275581676380991060 tw18246774935245190508 tw2831202768039806729 tw5651960034278783897 tw4196424805623095941 tw17230745461794602542 tw16625641084785438190 tw3276547852986205250 tw14211681365804394181 tw3673518615453892123 tw15591819989894605930 tw15168296601940859430 tw9468877558598776246 tw199987235042224773 tw17583830955986458389 tw6834958703999594467 tw13885854168901721322 tw2786120262085261481 tw6781307947504386088 tw2312505040517518354 tw18282448154904766673 tw92122343054320679 tw8348020528068933509 tw11069401161121084940 tw12914348847166603205 tw8230206489244487428 tw7231838143111272282 tw6561205565264534813 tw4682101614175587461 tw12330499890024194845 tw12131746574540267163 tw14964975925401901776 tw13322174302923944811 tw14817596393912797674 tw7265941825026204572 tw10685113381197360305 tw12156698940696282743 tw18392160373319728407 tw11766321114146092219 tw17141176299815566071 tw4759696689189529407 tw10799064794443867993 tw1881084351270301440 tw10059843553839267365 tw13348179842428024111 tw11739315177365713726 tw13953580794342769350 tw1490921840747550590 tw2523362353407142634 tw2199017534300970936 tw7851437195787321293 tw3894021525854323963 tw11298682379482198781 tw1134927842997973219 tw499248690808728120 tw9787716555377554553 tw9807817867308955453 tw10492369986324190598 tw9885017400855260117 tw2360240290415278913 tw15974436633938480154 tw17929407265909277017 tw11131415310898563197 tw14074363701099421990 tw7646573281507423186 tw16913974798684226916 tw2176000815199373804 tw5648949379046882685 tw10803717528958449626 tw15676261689278725309 tw7633861551321823609 tw9468961160239298050 tw7006298064375625301 tw16523373339292593260 tw8370229179762336652 tw16162460956325046372 tw5396559615611729741 tw1070424168585730727 tw10475795041148388670 tw15693044602051546021 tw5230308309141640378 tw16676644072429422849 tw3605486931975058717 tw7621074387846137682 tw18370189056906737963 tw4227645341266840167 tw5145833930693111738 tw2090210343807137143 tw4257447119442775669 tw16954561838970003286 tw13939192118452140290 tw17095202044707198964 tw17527332086769217565 tw6529802409537198889 tw16710505234905459066 tw18102206548557635274 tw3862604523686408219 tw10799507937885333374 tw8938678083775080409 tw8755609912851311389 tw6292995536409320292 tw11775899777780170809 tw6991468844315004991 tw17650143645304150718 tw2778220386789852210 tw14380642191088829656 tw8039843921079360706 tw539360305732301339 tw17542710917483083099 tw6630461770053761834 tw4440364110139646876 tw4607981480455971474 tw881526277550613010 tw2307927889392731074 tw16279661991160065336 tw16123952143851708805 tw5982341459102149600 tw17217448234167281288 tw16136367649181010844 tw756858803877915773 tw6377689348548698972 tw17424853811124481424 tw10500300629552436569 tw11219940001183707158 tw15317118651174868533 tw11581668742033355664 tw14910847165875119458 tw3590456176621296699 tw15297963676602679837 tw17863994518265500957 tw10439202778115829729 tw12099176268519626699 tw14872625692548172873 tw14499295595980541238 tw7444542688079960095 tw13580272212366015816 tw85025809577308236 tw16797136592208610899 tw17569632297267617931 tw18030153842759735028 tw2294099864957300140 tw2549041013935970704 tw14649178369131539379 tw16348643976972820067 tw11203439387641557483 tw17382020109988560955 tw5846846740773928093 tw7085497572141305253 tw13690874502459181248 tw16368114282377518479 tw4151564118685737738 tw2798457529285863999 tw4574872247315408314 tw819527685284902384 tw4668179599485148339 tw6135338199434491013 tw16392128310822971702 tw7976014447525865810 tw259730231465321502 tw13913858152440228536 tw9132494151330840861 tw12875509455192288659 tw7428982515861138315 tw1148582443055404977 tw13181272254420402779 tw7129334417846745149 tw11193962684570068751 tw485423962371956119 tw9730671235551555332 tw6057647939942432067 tw13928316767117244388 tw2806008059417843955 tw9250511472548410206 tw3703612760685658863 tw336274782680235157 tw7097708360048733010 tw9042359457675261549 tw12328793979675661498 tw5741450930111236124 tw11348451927684402666 tw2906242944084636535 tw110559864421148584 tw12520837429416744771 tw4736739078162462037 tw14358298298528362489 tw1596216741779627733 tw7099986844206155114 tw6124340911796203541 tw10830348997048353578 tw6712681645143764776 tw1209168169271159917 tw12358552204654058125 tw4740273354694772881 tw2215651929672177545 tw15612545709070660858 tw16304944132444519036 tw15892001285004318074 tw15629219442950707399 tw14793109634277618387 tw6789030602438861562 tw10049632791840387131 tw11475519873880810425 tw11371323969429072345 tw1126041331972385547 tw7479101787032408612 tw2159960105088566306 tw17675843436444083292 tw15668367470646255661 tw17840342182562000697 tw11005042720031387855 tw5520049326904537508 tw11079940953155458751 tw4514201479126196750 tw17796720624240408877 tw17840768085260312533 tw5242863938633713966 tw6919961799360707524 tw899505992682459122 tw17747560774403305459 tw18236594170150923223 tw1522398128797855076 tw6755169178494779152 tw13443372296688603298 tw6292243427615612180 tw715602930496593232 tw17840686170009821389 tw16790722872194624370 tw11979380481397006772 tw5193316193189043325 tw9568695129981164160 tw14780844484046095827 tw14703706697207395789 tw16586269662925022975 tw15379871660515917628 tw698793640181137600 tw11069065037294026992 tw18408182315544951851 tw14977351247427599238 tw13001074386892493346 tw16492129947756387919 tw14359630744664548018 tw3044369325365819072 tw7691396746203867821 tw2188847221249252805 tw16520254321457426612 tw12042091699903335840 tw11286245891592115664 tw1142585733796472378 tw8786066757444667727 tw4836998358894747780 tw11572683243505795388 tw9357379423330033340 tw9968576534891274210 tw5776498430567167403 tw8253237359179294657 tw1898053497843273361 tw17225618648315742791 tw4705340181849986405 tw14640639010797581151 tw6880126511501816874 tw2899519988996504989 tw13023558356154905108 tw11042217576640602137 tw13774153430055594081 tw17002730370838158309 tw15878680596912189487 tw5430095083386532020 tw1602807438583417992 tw8441667911361923209 tw17798825758010711437 tw16443817135001756644 tw6865255260610975420 tw16297880181471669847 tw10155968100986245290 tw11344378784219417164 tw6622310938539141929 tw6976689875358113870 tw5920049179034819589 tw10928765228828008079 tw8931802741736255641 tw8183631410643913271 tw12987865636221288532 tw1783588307736445765 tw14478465250625887382 tw18172475669822601214 tw12654884983598945421 tw10860918138566934217 tw12841123855756175269 tw9665146572432176228 tw12109613938407366918 tw11457983092011825823 tw17359181947402491084 tw12209081239238943659 tw13969823779905678119 tw17557130224379192740 tw8440148175683104991 tw8614801893119218197 tw7667730291827836805 tw10928776485928182758 tw15931634432260047585 tw12848729104273169295 tw5192227166364774383 tw1202815760411874797 tw15385922421727984198 tw5655517349460818981 tw10433146231159793395 tw12964316287601310533 tw2588733997484944475 tw3407040088229408323 tw4376155367201446724 tw1527893343578175340 tw4846641131497584249 tw16007079869188281796 tw8551999155723695729 tw16819892507621312365 tw2498903077575205265 tw415320027402368755 tw13669264961780551865 tw7704808281900373347 tw8925041339653577370 tw15767754606128751588 tw6806562566967854233 tw17537191889357456859 tw10081627926634825308 tw13915961505904961848 tw9648992471100412880 tw18397326760600451111 tw16323664806192354862 tw14063202408278116392:True)
open PySem PySem.W PyProof.Rows
local macro_rules | `(tactic| walk_at "q_fn") => `(tactic| (refine' ⟨?a, L2.fun_mk ?l ?c ?k⟩; (case a => k_is); (case l => k_is); (case c => k_is); (case k => k_is)))
set_option maxRecDepth 100000 in
set_option maxHeartbeats 0 in
theorem PySem.Challenge.cw_bellferry_k54_whole_what_is_given_is_tak_holds : PySem.Challenge.rw_bellferry_k54_whole_what_is_given_is_tak.Holds := by
 w_on;o_law;k_head;(case hw=>w_witness2)
 k_fill
 refine My.walk (l:=PySem.Challenge.rw_bellferry_k54_whole_what_is_given_is_tak) rfl rfl (λw h Y=>PySem.W.kIn_of Y) ?F
 case F=>
  intro w mg fa h KX G hmg;refine' My.all_mk KX G hmg ?aCRun ?aCFerry ?aCSide ?h1 ?h2 ?h3 ?h4 ?h5 ?h6 ?h7 ?h8 ?h9 ?h10 ?h11 ?h12 ?h13 ?h14 ?a15 ?i15 ?l15 ?c15 ?k15 ?a16 ?i16 ?l16 ?c16 ?k16 ?a17 ?i17 ?l17 ?c17 ?k17 ?a18 ?i18 ?l18 ?c18 ?k18 ?a19 ?i19 ?l19 ?c19 ?k19 ?a20 ?i20 ?l20 ?c20 ?k20 ?a21 ?i21 ?l21 ?c21 ?k21 ?a22 ?i22 ?l22 ?c22 ?k22 ?h23 ?h24 ?h25 ?h26 ?h27 ?h28 ?h29 ?h30 ?h31 ?h32 ?h33 ?h34 ?h35 ?h36 ?h37 ?h38 ?h39 ?h40 ?h41 ?h42 ?h43 ?h44 ?h45 ?h46 ?h47 ?h48 ?h49 ?h50 ?h51 ?a52 ?i52 ?l52 ?c52 ?k52 ?a53 ?i53 ?l53 ?c53 ?k53 ?a54 ?i54 ?l54 ?c54 ?k54 ?a55 ?i55 ?l55 ?c55 ?k55 ?a56 ?i56 ?l56 ?c56 ?k56 ?a57 ?i57 ?l57 ?c57 ?k57 ?h58 ?h59 ?h60 ?h61 ?h62 ?h63 ?h64 ?h65 ?h66 ?pgSide ?hdSide ?poSide ?saSide ?mkSide ?kcSide ?nSide_turn ?nSide_total ?nSide_sign ?nSide_sight ?pgFerry ?hdFerry ?poFerry ?saFerry ?mkFerry ?kcFerry ?nFerry_places ?nFerry_giver ?nFerry_taker ?pgRun ?hdRun ?poRun ?saRun ?mkRun ?kcRun ?nRun_world ?nRun_moment ?nRun_next_numbers ?nRun_words_now ?nRun_steps_so_far ?nRun_boats ?nRun_given_so_far ?nRun_taken_so_far ?z1 ?z2 ?z3 ?z4 ?z5 ?z6 ?z7 ?z8 ?z9 ?z10 ?z11 ?z12 ?z13 ?g1 ?g2 ?g3 ?g4 ?g5 ?g6 ?g7 ?g8 ?g9 ?g10 ?g11
  (case aCRun=>k_is)
  (case aCFerry=>k_is)
  (case aCSide=>k_is)
  (case h1=>walk_at "q_fn")
  (case h2=>walk_at "q_fn")
  (case h3=>walk_at "q_fn")
  (case h4=>walk_at "q_fn")
  (case h5=>walk_at "q_fn")
  (case h6=>walk_at "q_fn")
  (case h7=>walk_at "q_fn")
  (case h8=>walk_at "q_fn")
  (case h9=>walk_at "q_fn")
  (case h10=>walk_at "q_fn")
  (case h11=>walk_at "q_fn")
  (case h12=>walk_at "q_fn")
  (case h13=>walk_at "q_fn")
  (case h14=>walk_at "q_fn")
  (case a15=>k_is)
  (case i15=>k_is)
  (case l15=>k_is)
  (case c15=>k_is)
  (case k15=>k_is)
  (case a16=>k_is)
  (case i16=>k_is)
  (case l16=>k_is)
  (case c16=>k_is)
  (case k16=>k_is)
  (case a17=>k_is)
  (case i17=>k_is)
  (case l17=>k_is)
  (case c17=>k_is)
  (case k17=>k_is)
  (case a18=>k_is)
  (case i18=>k_is)
  (case l18=>k_is)
  (case c18=>k_is)
  (case k18=>k_is)
  (case a19=>k_is)
  (case i19=>k_is)
  (case l19=>k_is)
  (case c19=>k_is)
  (case k19=>k_is)
  (case a20=>k_is)
  (case i20=>k_is)
  (case l20=>k_is)
  (case c20=>k_is)
  (case k20=>k_is)
  (case a21=>k_is)
  (case i21=>k_is)
  (case l21=>k_is)
  (case c21=>k_is)
  (case k21=>k_is)
  (case a22=>k_is)
  (case i22=>k_is)
  (case l22=>k_is)
  (case c22=>k_is)
  (case k22=>k_is)
  (case h23=>walk_at "q_fn")
  (case h24=>walk_at "q_fn")
  (case h25=>walk_at "q_fn")
  (case h26=>walk_at "q_fn")
  (case h27=>walk_at "q_fn")
  (case h28=>walk_at "q_fn")
  (case h29=>walk_at "q_fn")
  (case h30=>walk_at "q_fn")
  (case h31=>walk_at "q_fn")
  (case h32=>walk_at "q_fn")
  (case h33=>walk_at "q_fn")
  (case h34=>walk_at "q_fn")
  (case h35=>walk_at "q_fn")
  (case h36=>walk_at "q_fn")
  (case h37=>walk_at "q_fn")
  (case h38=>walk_at "q_fn")
  (case h39=>walk_at "q_fn")
  (case h40=>walk_at "q_fn")
  (case h41=>walk_at "q_fn")
  (case h42=>walk_at "q_fn")
  (case h43=>walk_at "q_fn")
  (case h44=>walk_at "q_fn")
  (case h45=>walk_at "q_fn")
  (case h46=>walk_at "q_fn")
  (case h47=>walk_at "q_fn")
  (case h48=>walk_at "q_fn")
  (case h49=>walk_at "q_fn")
  (case h50=>walk_at "q_fn")
  (case h51=>walk_at "q_fn")
  (case a52=>k_is)
  (case i52=>k_is)
  (case l52=>k_is)
  (case c52=>k_is)
  (case k52=>k_is)
  (case a53=>k_is)
  (case i53=>k_is)
  (case l53=>k_is)
  (case c53=>k_is)
  (case k53=>k_is)
  (case a54=>k_is)
  (case i54=>k_is)
  (case l54=>k_is)
  (case c54=>k_is)
  (case k54=>k_is)
  (case a55=>k_is)
  (case i55=>k_is)
  (case l55=>k_is)
  (case c55=>k_is)
  (case k55=>k_is)
  (case a56=>k_is)
  (case i56=>k_is)
  (case l56=>k_is)
  (case c56=>k_is)
  (case k56=>k_is)
  (case a57=>k_is)
  (case i57=>k_is)
  (case l57=>k_is)
  (case c57=>k_is)
  (case k57=>k_is)
  (case h58=>walk_at "q_fn")
  (case h59=>walk_at "q_fn")
  (case h60=>walk_at "q_fn")
  (case h61=>walk_at "q_fn")
  (case h62=>walk_at "q_fn")
  (case h63=>walk_at "q_fn")
  (case h64=>walk_at "q_fn")
  (case h65=>walk_at "q_fn")
  (case h66=>walk_at "q_fn")
  (case pgSide=>k_is)
  (case hdSide=>k_is)
  (case poSide=>k_is)
  (case saSide=>k_is)
  (case mkSide=>k_is)
  (case kcSide=>k_is)
  (case nSide_turn=>k_is)
  (case nSide_total=>k_is)
  (case nSide_sign=>k_is)
  (case nSide_sight=>k_is)
  (case pgFerry=>k_is)
  (case hdFerry=>k_is)
  (case poFerry=>k_is)
  (case saFerry=>k_is)
  (case mkFerry=>k_is)
  (case kcFerry=>k_is)
  (case nFerry_places=>k_is)
  (case nFerry_giver=>k_is)
  (case nFerry_taker=>k_is)
  (case pgRun=>k_is)
  (case hdRun=>k_is)
  (case poRun=>k_is)
  (case saRun=>k_is)
  (case mkRun=>k_is)
  (case kcRun=>k_is)
  (case nRun_world=>k_is)
  (case nRun_moment=>k_is)
  (case nRun_next_numbers=>k_is)
  (case nRun_words_now=>k_is)
  (case nRun_steps_so_far=>k_is)
  (case nRun_boats=>k_is)
  (case nRun_given_so_far=>k_is)
  (case nRun_taken_so_far=>k_is)
  (case z1=>k_is)
  (case z2=>k_is)
  (case z3=>k_is)
  (case z4=>k_is)
  (case z5=>k_is)
  (case z6=>k_is)
  (case z7=>k_is)
  (case z8=>k_is)
  (case z9=>k_is)
  (case z10=>k_is)
  (case z11=>k_is)
  (case z12=>k_is)
  (case z13=>k_is)
  (case g1=>k_is)
  (case g2=>k_is)
  (case g3=>k_is)
  (case g4=>k_is)
  (case g5=>k_is)
  (case g6=>k_is)
  (case g7=>k_is)
  (case g8=>k_is)
  (case g9=>k_is)
  (case g10=>k_is)
  (case g11=>k_is)
#print axioms PySem.Challenge.cw_bellferry_k54_whole_what_is_given_is_tak_holds
