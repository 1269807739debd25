import PyProof.Rows.All
import Wide.All
import OpenK.AllK
import Wide.FinOn
import Lean
import PyProof.EqAt
import PyProof.EqKinds
import PyProof.TupleCall
import PySem.Challenge.RW_bellferry_k54_whole_what_is_given_is_tak
import PyProof.Rows.SetFrom
import PyProof.FactsAll.set_1
import PyProof.CollectWalk
import PyProof.Rows.SortStr
import PyProof.IsiH_list
import PyProof.ConsumeWalk
import PyProof.StrWalks
import PyProof.IsiH_tuple
import PyProof.SliceStr2
import PyProof.ListRange
import PyProof.Rows.Range3
import PyProof.Rows.CallKwBuiltin
import PyProof.WalkInts
import PyProof.FString5
set_option Elab.async false
set_option tactic.hygienic false
set_option linter.all false
set_option maxRecDepth 100000
set_option maxHeartbeats 8000000
set_option genSizeOf false
set_option genSizeOfSpec false
noncomputable section
set_option bootstrap.genMatcherCode false
set_option compiler.extract_closed false
open PySem renaming Value→X0, World→Xm, Program→Xv, sysModules→YT, mainGlobals→Xo, bootBuiltins→YA, Around→XB, Shared→X2, wpAny→X3, model→X6, backTo→XZ, starEach→Xw, wpAny_mono→Zt, holding→Z4, wpAny_truthy_bool→Zu, swapsWith→Zv, assignEach→Zw, wpAny_bind→X1, wpAny_holding→YH, wpAny_passesOwn→UT, letOwnedTupleGo→Bt, wpAny_pure→X8, wpAny_load→Vp, rawInt→Y2, foldedSetIterable→Bu, Operator→Uv, binaryOp→Yi, compareOp→Y0, codeAny→YU, attributeBase→Uw, FuncData→Xh, codeAny_mono→Vq, wpAny_Call_Name_kw→Ux, backToKw→ZY, keywordEach→ZZ, Keyword→Z5, NameKind→Z6, wpAny_callSpecial?_slot→Bv, wpAny_call_entry→Z7, wpAny_typeOf→Zx, wpAny_newObj_type→U0, typeLookup→Vr, sliceBounds→Z0, call_meets→UU, valueAt→Z1, tupleKind_room_in1→Bw, wpAny_richCompare_same_room→Vs, wpAny_loadPart'→Yd, plainId_quiet→Zh, codeAny_builtin→Z8, codeAny_call_builtin→Wn, wpAny_dictEntries→Bx, wpAny_notOrdered_dict→By, wpAny_isInstance→Uy, SetTable→Yv, wpAny_setState_of→Wo, wpAny_rule→Uz, wpAny_askSetting→Wp, wpAny_pyIter_list→Bz, typeLookup_type→Vt, builtinLookup_eq_fast→Vu, wpAny_setField→Vv, ownMembersOf→YV, getattributeRaised→BA
open List renaming getElem?_eq_getElem→Xc, length_map→Xa, replicate→Xi, mem_of_getElem?→Xz, getElem?_map→Xq, getElem?_eq_some_iff→XO, mem_cons→Xl, mem_cons_of_mem→XR, map_cons→Xy, size_toArray→XQ, not_mem_nil→XL, getD_eq_getElem?_getD→Yo, range→Xr, getElem_of_mem→Y6, getElem_mem→XV, mem_singleton→Y3, mem_cons_self→Ye, map_append→Y1, getD_cons_succ→Yp, getD_cons_zero→Yq, mem_map→XS, nil_append→Y8, length_append→Yw, cons_append→Yj, length_cons→Yr, getElem?_append_right→Zy, length_replicate→Z9, getElem?_append_left→U1, length_take→YI, nodup_cons→YB, replicate_succ→Za, map_nil→Yc, mem_append→YJ, mem_append_right→Zz, map_map→Ys, nodup_append→Zi, eq_of_mem_replicate→UV, getElem?_eq_none→UA, lookup_cons→Zj, flatten_cons→ZA, mem_range→Zb, take_add_one→U2, take_of_length_le→Vw, length_range→UB, eq_nil_of_length_eq_zero→BB, getElem?_set_ne→Vx, any_cons→ZB, length_set→UC, length_dropLast→Wq, append_assoc→Vy, getElem?_set→Vz, length_eq_zero_iff→BC, getElem?_range→Wr, mem_flatten→VA, mem_flatMap→VB, map_replicate→Ws, lookup→U3, append_nil→VC, foldl_cons→VD, find?_cons→VE, all_cons→UW, dropLast_subset→BD, getElem?_eq_none_iff→Dr, length_drop→Wt, ext_getElem?→BE, getElem_inj→BF, all_eq_true→BG, ext_getElem→BH, take_append_of_le_length→Ha, filterMap_cons→Ds, length_pos_iff→Du, length_eraseIdx_of_lt→Hb, pairwise_cons→Dv, map_set→Wu, mem_or_eq_of_mem_set→Hc, foldl→VF, foldl_append→Dw, length→Wv, getElem?_replicate→Hd, take_length→Dx, getElem_map→Dy, getElem_set→Dz, getElem?_set_self→He, drop_eq_nil_of_le→Hf, mem_filter→DA, of_mem_zip→DB, map_id'→BJ, drop_zero→DC, getD→Ww
open PySem.W renaming Frag→X4, findIn→XF, nsIn→XA, keepIn→XW, fnOf→Y9, mg_none_of→Z2, codeIn→Yx, mg_of→Yy, isFn→Yz, kia_one→Zk, kia_tup→Zl, emptyDict→U4, instObj→UD, plainGet→UX, hasDictIn→VG, kitOne→UY, plainOver→Wx, makesIn→Wy, kitx_list→BK, kitx_dict→BL, plainGet_of→DD, callWith_K→DE, lookIn→BM, kitAny→BN, methodObj→DF, cellsFrom_some→Hg, takerIn→DG, methodCall_KW→Hh, OpenLaw→DH
open PySem.Heap renaming get?_push_of_some→Xp, get?_push_size→XM, lt_size→Xu, get?_update_self→UZ, size_push→Zm, get?_update_other→VH, SameBut→U5, ExtBut→BO
open Bool renaming false_ne_true→Xx, and_eq_true→XX, false_eq_true→Yk, not_true→VI, false_and→Wz, or_self→VJ, eq_iff_iff→BP, or_eq_true→BQ, and_false→BR, not_false→BS, true_and→BT, true_or→BU, or_true→BV, false_or→DI
open Nat renaming le_refl→Xg, ne_of_lt→XC, lt_of_lt_of_le→YC, le_trans→Y4, two_pow_pos→Zn, zero_le→YK, lt_succ_of_lt→V0, mod_eq_of_lt→V1, lt_irrefl→V2, pow_le_pow_right→BW, le_succ→UE, ne_of_gt→V3, lt_trans→V4, le_of_eq→VL, lt_succ_self→BX, lt_of_le_of_lt→DJ, xor_lt_two_pow→DK, mod_lt→VM, le_of_lt→BY, mul_comm→BZ, min_eq_left→DL, testBit_and→DM
open Array renaming length_toList→XY, getElem?_eq_getElem→V5, getElem?_eq_none→DO, getElem?_toList→Hi
open PySem.Value renaming none→Xt, ref→Xn, type→XD, str→XE, bool→Ya, int→VN, float→C0
open Option.some renaming inj→Yb, injEq→C1
open Sum renaming inr→Xs, inl→V6
open Int renaming toNat_natCast→YL, emod_lt_of_pos→U6, toNat_of_nonneg→UF, emod_nonneg→ZC, lt_of_lt_of_le→VO, natCast_pow→V7, natCast_nonneg→WB, le_refl→UG, zero_add→WC, natCast_emod→DP, sub_emod→C2
open PySem.NameKind renaming free→Yl, cell→VP
open PySem.Around renaming under_plainId→Zo, under→DQ
open PySem.Str renaming ofString→Yf, empty→U7, length→C3
open PyProof.Rows renaming callWith_type1→V8, slot_tuple_getitem→VQ, callWith_builtin1→Hj, bitAnd_pp→Hk
open False renaming elim→Y7
open PySem.Heap.SameBut renaming update→U8
open Ne renaming symm→XN
open PySem.Builtin.Range renaming rangeSize→VR, small→Hl
open True renaming intro→YD
open PySem.Builtin.Tuple renaming tupleCompareSizes→C4, tupleExact→C5, tupleItemsOf→Hm, tupleTooMany→Hn, tupleIsExact→Ho
open PySem.AutoSeq1 renaming wpAny_loadPart'→C6, sub_tuple_tuple→Hq, sub_list_list→Hr, idx_int→Hs
open PySem renaming mem_of_lookup→VS, Within→DR
open PySem.Builtin.Str renaming strSliceIndices→C7
open PySem.Builtin.Slice renaming slicePlaces→C8, sliceAdjust→DS, sliceApplied→Ht
open PySem.Builtin.Dict renaming dictSlotArgs→C9, updateFrom→Ca, selfAndRest→Hu, samePairs→Hv
open PySem.F renaming slot_tuple_getattribute→Cb, slot_list_getattribute→Cc, slot_tuple_mul→Cd, called_set→UH, slot_dict_keyiterator_iter→Hw, args_tuple_add_2→Hx, args_tuple_mul_2→Hy, entry_tuple_add→Hz, slot_tuple_rmul→HA, entry_tuple_mul→HB, slot_tuple_add→HC, sub_dict_dict→HD, slot_int_rmul→HE, slot_list_pop→HF, type_list_pop→HG, slot_dict_get→HH, type_dict_get→HI, slot_dict_eq→HJ, slot_dict_ne→HK, slot_list_eq→DT, slot_list_ne→DU
open PySem.Builtin.List renaming listTooLong→Ce, listExtendWith→HL, listSameRef→HM
open PySem.Data renaming fields→ZD, seq→YW
open PySem.SetTable renaming grown→V9, below→Cf
open Iff renaming rfl→Ym
open PySem.Calls renaming spliced_cons→WD, spliced_nil→WE, Name_function_global→HN, callWith_builtin→HP
open PySem.Manifest renaming find?→VT
open PySem.Obj renaming mapSeq→U9, data_mapFields→Cg, isFreed_of_fields→DV, cls_mapFields→DW, mapFields→DX
open Option renaming map_eq_some_iff→DY, map_some→Ch, isSome_some→DZ, toList_some→E1, isSome_map→E2
open PySem.Shared renaming TypeIs→WF
open Sum.inr renaming inj→VU
open ForInStep renaming yield→Ci
open Nat.succ renaming inj→WG
open PySem.Builtin renaming bitAnd→Cj, bitXor→Ck
open PySem.Builtin.Frozenset renaming sizeOf→HQ
open List.Pairwise renaming sublist→HR
open PySem.SeqAt.EqAt renaming int_str→HS, str_int→HU
open PySem.ScopeKind renaming function→HV
open PySem.SetTable.below renaming go→HW
open Char renaming toNat→Cl
open PySem.IsRange renaming new→E3
open PySem.Heap.DictOf renaming new→HX
namespace L2
open PySem PySem.Spec PyProof.Rows
theorem nl0 {α:Type _}{p:α->Prop}:∀x∈([]:List α),p x:=λ_ h=>nomatch h
theorem fMc{α:Type _}{p:α->Prop}{a:α}{l:List α}(h:p a/\∀x∈l,p x):∀x∈a::l,p x:=List.forall_mem_cons.2 h
abbrev Key:=Sum Int Str
def VW:Key->X0->Bool
 |.inl k,v=>Value.isInt k v
 |.inr x,v=>Value.isStrOf x v
def keyH(w:Xm):Key->Int
 |.inl k=>hashInt k
 |.inr x=>hashStr w x
theorem _E:∀{k:Key} {v:X0},VW k v=true->(∃i t,k=V6 i/\v=VN i t)\/(∃x t,k=Xs x/\v=XE x t)
 |.inl i,v,h=>by
  obtain⟨t,e⟩:=Value.isInt_shape (k:=i) (v:=v) h;exact .inl ⟨i,t,rfl,e⟩
 |.inr x,v,h=>by
  obtain⟨t,e⟩:=Value.isStrOf_shape (x:=x) (v:=v) h;exact .inr ⟨x,t,rfl,e⟩
theorem RY(i:Int)(t:Tok):VW (.inl i) (.int i t)=true:=by simp[VW,Value.isInt]
theorem RZ(x:Str)(t:Tok):VW (.inr x) (.str x t)=true:=by simp[VW,Value.isStrOf]
theorem S0(a b:Int):decide ((V6 a:Key)=V6 b)=(a==b):=by
 by_cases e:a=b
 ·subst e;simp
 ·have h:¬(V6 a:Key)=V6 b:=λq=>e (Sum.inl.inj q);rw[decide_eq_false h];exact(beq_eq_false_iff_ne.mpr e).symm
theorem S1(a b:Str):decide ((Xs a:Key)=Xs b)=decide (a=b):=by
 by_cases e:a=b
 ·subst e;simp
 ·have h:¬(Xs a:Key)=Xs b:=λq=>e (VU q);rw[decide_eq_false h,decide_eq_false e]
theorem S2(a:Int)(b:Str):decide ((V6 a:Key)=Xs b)=false:=decide_eq_false (λq=>nomatch q)
theorem S3(a:Str)(b:Int):decide ((Xs a:Key)=V6 b)=false:=decide_eq_false (λq=>nomatch q)
def Yt(prog:Xv)(w:Xm):PySem.KeyKind prog w Key where
 is:=VW
 hash:=keyH w
 inj:=λv a b ha hb=>by
  rcases _E ha with⟨i,t,rfl,rfl⟩|⟨x,t,rfl,rfl⟩
  ·rcases _E hb with⟨j,u,rfl,e⟩|⟨y,u,rfl,e⟩
   ·injection e with e1 _;rw[e1]
   ·exact nomatch e
  ·rcases _E hb with⟨j,u,rfl,e⟩|⟨y,u,rfl,e⟩
   ·exact nomatch e
   ·injection e with e1 _;rw[e1]
 byValue:=λk v h=>by
  rcases _E h with⟨i,t,rfl,rfl⟩|⟨x,t,rfl,rfl⟩<;>rfl
 pyHash:=λhv h=>by
  rcases _E hv with⟨i,t,rfl,rfl⟩|⟨x,t,rfl,rfl⟩
  ·exact wpAny_pyHash_int h
  ·exact wpAny_pyHash_str h
 eqBool:=λhu hv h=>by
  rcases _E hu with⟨i,t,rfl,rfl⟩|⟨x,t,rfl,rfl⟩
  ·rcases _E hv with⟨j,u,rfl,rfl⟩|⟨y,u,rfl,rfl⟩
   ·rw[S0]at h;exact wpAny_eqBool_int h
   ·rw[S2]at h;exact HS i t y u _ _ _ _ h
  ·rcases _E hv with⟨j,u,rfl,rfl⟩|⟨y,u,rfl,rfl⟩
   ·rw[S3]at h;exact HU x t j u _ _ _ _ h
   ·rw[S1]at h;exact wpAny_eqBool_str h
 «strs»:=λk x t v h=>by
  rcases _E h with⟨i,u,rfl,e⟩|⟨y,u,rfl,e⟩
  ·exact nomatch e
  ·injection e with e1 _;subst e1;cases v<;>rfl
theorem S4(prog:Xv)(w:Xm)(i:Int)(t:Tok):(Yt prog w).is (.inl i) (.int i t)=true:=RY i t
theorem S5(prog:Xv)(w:Xm)(x:Str)(t:Tok):(Yt prog w).is (.inr x) (.str x t)=true:=RZ x t
inductive V where
 |non|bl (b:Bool)|int (i:Int)|str (x:Str)|byt (b:Array UInt8)|flt (b:UInt64)|ref (a:Addr)|ty (n:String)
  deriving DecidableEq
def RelV:V->X0->Prop
 |.non,u=>u=Xt
 |.bl b,u=>u=Ya b
 |.int i,u=>∃t,u=VN i t
 |.str x,u=>∃t,u=XE x t
 |.byt b,u=>∃t,u=Value.bytes b t
 |.flt b,u=>∃t,u=C0 b t
 |.ref a,u=>u=Xn a
 |.ty n,u=>u=XD n
abbrev Vals:List V->List X0->Prop:=Paired RelV
theorem Vals.length(r:Vals xs us):xs.length=us.length:=Paired.length r
theorem Vals.get:∀{xs:List V} {us:List X0} {i:Nat} {x:V},Vals xs us->xs[i]?=some x->∃u,us[i]?=some u/\RelV x u
 |_,_,_,_,.nil,e=>by simp at e
 |_,_,0,_,.cons r _,e=>by simp at e;subst e;exact⟨_,rfl,r⟩
 |_,_,i+1,x,.cons _ t,e=>by
  obtain⟨u,h1,h2⟩:=Vals.get (i:=i) (x:=x) t (by simpa using e)
  exact⟨u,by simpa using h1,h2⟩
theorem Vals.set(r:RelV x u):∀{xs:List V} {us:List X0} (i:Nat),Vals xs us->Vals (xs.set i x) (us.set i u)
 |_,_,_,.nil=>.nil
 |_,_,0,.cons _ t=>.cons r t
 |_,_,i+1,.cons q t=>.cons q (Vals.set r i t)
theorem Vals.append:∀{xs ys:List V} {us ws:List X0},Vals xs us->Vals ys ws->Vals (xs++ys) (us++ws)
 |_,_,_,_,.nil,s=>s
 |_,_,_,_,.cons r t,s=>.cons r (Vals.append t s)
theorem Vals.take:∀{xs:List V} {us:List X0} (n:Nat),Vals xs us->Vals (xs.take n) (us.take n)
 |_,_,0,_=>.nil
 |_,_,_+1,.nil=>.nil
 |_,_,n+1,.cons r t=>.cons r (Vals.take n t)
theorem Vals.drop:∀{xs:List V} {us:List X0} (n:Nat),Vals xs us->Vals (xs.drop n) (us.drop n)
 |_,_,0,r=>r
 |_,_,_+1,.nil=>.nil
 |_,_,n+1,.cons _ t=>Vals.drop n t
def RelO:Option V->Option X0->Prop
 |some v,some u=>RelV v u
 |none,none=>True
 |_,_=>False
def KV{κ:Type}:List (κ×V)->List (κ×X0)->Prop:=Paired fun(p:κ×V) (q:κ×X0)=>p.1=q.1/\RelV p.2 q.2
def kV:Key->V
 |.inl i=>.int i
 |.inr x=>.str x
inductive HO where
 |lst (xs:List V)
 |tup (xs:List V)
 |dK (kvs:List (Key×V))|dT (kvs:List (List Key×V))
 |set (S:Int->Bool) (n:Nat)
 |ins (C dx:Addr) (fs:List (Str×V))
 |own (x:Addr)
 |xd (fs:List (Str×V))
 |met (f x:Addr)
 |rng (lo hi:Int)
 |frz (o:Obj) (u:HO)
 |tbl (ps:Array X0)
 |ext (φ:Heap->Prop)
abbrev Hp:=Addr->Option HO
def upd(H:Hp)(a:Addr)(o:HO):Hp:=λb=>if b=a then some o else H b
theorem _c{H:Hp}{a:Addr}{o:HO}:upd H a o a=some o:=by unfold upd;rw[if_pos rfl]
theorem XG{H:Hp}{a b:Addr}{o:HO}(h:b≠a):upd H a o b=H b:=by unfold upd;rw[if_neg h]
theorem HY{H:Hp}{a b:Addr}{o u:HO}(h:H a=some o)(h':H b=some u)(d:o≠u):a≠b:=by
 intro e;subst e;rw[h]at h';exact d (Yb h')
theorem Va{H:Hp}{a b:Addr}{o:HO}(h:H a=some o)(h':H b=none):a≠b:=by
 intro e;subst e;rw[h]at h';cases h'
section
variable(P:Xv)(w:Xm)
def ObjOk(H:Hp)(h:Heap)(a:Addr):HO->Prop
 |.lst xs=>xs.length≤sizeLine/\∃(its:List X0) (n:Nat),Vals xs its/\h.get? a=some {cls:=.type "list",data:=.seq its.toArray n}
 |.tup xs=>xs.length≤sizeLine/\∃its:List X0,Vals xs its/\IsTup h a its.toArray/\∃o,h.get? a=some o/\o.dict=none
 |.dK kvs=>kvs.length≤sizeLine/\(a==YT)=false/\∃vs,KV kvs vs/\h.DictOf (Yt P w) a vs
 |.dT kvs=>kvs.length≤sizeLine/\(a==YT)=false/\∃xs:List (List Key×Addr×X0),
   Paired (fun(p:List Key×V) (q:List Key×Addr×X0)=>p.1=q.1/\H q.2.1=some (.tup (p.1.map kV))/\RelV p.2 q.2.2) kvs xs/\
   ∃o es ep,h.get? a=some o/\o.ExactDict/\o.data=.dict es ep/\es.toList=xs.map (entryOfKey (tupleKind (Yt P w)))/\(xs.map (·.1)).Nodup
 |.set S n=>h.SetOf (intKind P w) a S n
 |.ins C dx fs=>H dx=some (.own a)/\fs.length≤1000/\dx≠a/\h.get? a=some (UD C dx)/\
   ∃mA,h.Ns1 dx mA/\(∀f,RelO (fs.lookup f) (mA f))/\DR mA (fs.map (·.1))
 |.own _=>∃o,h.get? a=some o
 |.xd fs=>∃mA,h.Ns1 a mA/\∀f,RelO (fs.lookup f) (mA f)
 |.rng lo hi=>∃t u v,h.get? a=some {cls:=.type "range",data:=.fields #[.int lo t,.int hi u,.int 1 v]}
 |.frz o u=>h.get? a=some o/\ObjOk H h a u
 |.tbl ps=>h.get? a=some {cls:=.none,data:=.fields ps}
 |.met f x=>h.get? a=some (DF (.ref f) (.ref x))
 |.ext φ=>φ h/\(∃o,h.get? a=some o)/\∀h1 h2:Heap,φ h1->(∀o,h1.get? a=some o->h2.get? a=some o)->φ h2
def HOk(H:Hp)(h:Heap):Prop:=∀a o,H a=some o->ObjOk P w H h a o
end
section
variable{P:Xv}{w:Xm}{H H':Hp}{h h':Heap}{a:Addr}{o:HO}
theorem ObjOk.lt(x:ObjOk P w H h a o):a<h.objs.size:=by
 cases o with
 |lst xs=>obtain⟨_,_,_,_,e⟩:=x;exact Xu e
 |tup xs=>obtain⟨_,_,_,p⟩:=x;exact p.1.lt
 |dK kvs=>obtain⟨_,_,_,_,o,_,_,e,_⟩:=x;exact Xu e
 |dT kvs=>obtain⟨_,_,_,_,o,_,_,e,_⟩:=x;exact Xu e
 |set S n=>obtain⟨o,_,_,_,e,_⟩:=x;exact Xu e
 |ins C dx fs=>obtain⟨_,_,_,e,_⟩:=x;exact Xu e
 |own y=>obtain⟨_,e⟩:=x;exact Xu e
 |xd fs=>obtain⟨_,⟨_,_,_,e,_⟩,_⟩:=x;exact Xu e
 |rng lo hi=>obtain⟨_,_,_,e⟩:=x;exact Xu e
 |frz ob u=>obtain⟨e,_⟩:=x;exact Xu e
 |tbl ps=>exact Xu (show h.get? a=some _ from x)
 |met f y=>exact Xu (show h.get? a=some _ from x)
 |ext φ=>obtain⟨_,⟨_,e⟩,_⟩:=x;exact Xu e
theorem Paired.mapP{α β:Type}{F G:α->β->Prop}:∀{l₁:List α} {l₂:List β},Paired F l₁ l₂->(∀a b,F a b->G a b)->Paired G l₁ l₂
 |_,_,.nil,_=>.nil
 |_,_,.cons r t,f=>.cons (f _ _ r) (Paired.mapP t f)
theorem ObjOk.stay(x:ObjOk P w H h a o)(k:∀b u,(b=a\/H b=some (.own a))->h.get? b=some u->h'.get? b=some u)
  (ho:∀b,H b=some (.own a)->H' b=some (.own a)) (ht:∀b xs,H b=some (.tup xs)->H' b=some (.tup xs)):ObjOk P w H' h' a o:=by
 induction o with
 |lst xs=>obtain⟨z,its,n,r,e⟩:=x;exact⟨z,its,n,r,k _ _ (.inl rfl) e⟩
 |tup xs=>obtain⟨z,its,r,⟨ob,e,c⟩,o2,e2,c2⟩:=x;exact⟨z,its,r,⟨ob,k _ _ (.inl rfl) e,c⟩,o2,k _ _ (.inl rfl) e2,c2⟩
 |dK kvs=>obtain⟨z,y,vs,r,ob,es,ep,e,c⟩:=x;exact⟨z,y,vs,r,ob,es,ep,k _ _ (.inl rfl) e,c⟩
 |dT kvs=>
  obtain⟨z,y,xs,r,ob,es,ep,e,c⟩:=x;exact⟨z,y,xs,Paired.mapP r λp q z=>⟨z.1,ht _ _ z.2.1,z.2.2⟩,ob,es,ep,k _ _ (.inl rfl) e,c⟩
 |set S n=>obtain⟨ob,es,ep,t,e,c⟩:=x;exact⟨ob,es,ep,t,k _ _ (.inl rfl) e,c⟩
 |ins C dx fs=>
  obtain⟨d,z,ne,e,mA,⟨od,es,ep,e2,c⟩,r⟩:=x;exact⟨ho _ d,z,ne,k _ _ (.inl rfl) e,mA,⟨od,es,ep,k _ _ (.inr d) e2,c⟩,r⟩
 |own y=>obtain⟨ob,e⟩:=x;exact⟨ob,k _ _ (.inl rfl) e⟩
 |xd fs=>obtain⟨mA,⟨od,es,ep,e,c⟩,r⟩:=x;exact⟨mA,⟨od,es,ep,k _ _ (.inl rfl) e,c⟩,r⟩
 |rng lo hi=>obtain⟨t,u,v,e⟩:=x;exact⟨t,u,v,k _ _ (.inl rfl) e⟩
 |frz ob u ih=>obtain⟨e,q⟩:=x;exact⟨k _ _ (.inl rfl) e,ih q⟩
 |tbl ps=>
  have e:h.get? a=some {cls:=.none,data:=.fields ps}:=x;show h'.get? a=some {cls:=.none,data:=.fields ps};exact k a _ (.inl rfl) e
 |met f y=>
  have e:h.get? a=some (DF (.ref f) (.ref y)):=x;show h'.get? a=some (DF (.ref f) (.ref y));exact k a _ (.inl rfl) e
 |ext φ=>obtain⟨p,⟨o,e⟩,st⟩:=x;exact⟨st _ _ p λo q=>k _ _ (.inl rfl) q,⟨o,k _ _ (.inl rfl) e⟩,st⟩
theorem HOk.lt(x:HOk P w H h)(e:H a=some o):a<h.objs.size:=(x a o e).lt
theorem HOk.fresh(x:HOk P w H h)(e:h.objs.size≤a):H a=none:=by
 cases q:H a with
 |none=>rfl
 |some u=>exact absurd (YC (x.lt q) e) (V2 _)
theorem HOk.kept(x:HOk P w H h)(k:∀b u,h.get? b=some u->h'.get? b=some u):HOk P w H h':=λa o e=>
 (x a o e).stay (λb u _ q=>k b u q) (λ_ q=>q) λ_ _ q=>q
theorem HOk.laid(x:HOk P w H h)(k:∀b u,h.get? b=some u->h'.get? b=some u)(hp:h.objs.size≤a)(new:ObjOk P w (upd H a o) h' a o):HOk P w (upd H a o) h':=λb u e=>by
 have hn:=x.fresh hp;by_cases hb:b=a
 ·subst hb;rw[_c]at e;cases e;exact new
 ·rw[XG hb]at e;exact(x b u e).stay (λc v _ q=>k c v q) (λc q=>by rw[XG (Va q hn)];exact q) λc xs q=>by rw[XG (Va q hn)];exact q
end
def Rd(H:Hp)(a:Addr)(u:HO):Prop:=H a=some u\/∃o,H a=some (.frz o u)
theorem Rd.ok(r:Rd H a u)(x:HOk P w H h):ObjOk P w H h a u:=by
 rcases r with r|⟨o,r⟩
 ·exact x a u r
 ·obtain⟨_,q⟩:=x a _ r;exact q
def Mut:Option HO->Prop
 |some (.lst _)=>True
 |some (.dK _)=>True
 |some (.dT _)=>True
 |some (.set _ _)=>True
 |some (.ins _ _ _)=>True
 |some (.ext _)=>True
 |_=>False
section
variable{P:Xv}{w:Xm}{H:Hp}{h h':Heap}{x e:Addr}{o':HO}
theorem HOk.write(ok:HOk P w H h)(mu:Mut (H x))(he:e=x\/H e=some (.own x))(k:∀b u,b≠e->h.get? b=some u->h'.get? b=some u)(heo:∃u,h'.get? e=some u)
  (new:ObjOk P w (upd H x o') h' x o'):HOk P w (upd H x o') h':=λb u q=>by
 have nown:∀c y,H c=some (.own y)->c≠x:=λc y r z=>by subst z;rw[r]at mu;exact mu
 have ntup:∀c xs,H c=some (.tup xs)->c≠x:=λc xs r z=>by subst z;rw[r]at mu;exact mu
 by_cases hb:b=x
 ·subst hb;rw[_c]at q;cases q;exact new
 ·rw[XG hb]at q;by_cases hbe:b=e
  ·have q':H b=some (.own x):=by
    rcases he with z|z
    ·exact absurd (hbe.trans z) hb
    ·rw[hbe];exact z
   rw[q]at q';cases q';obtain⟨v,hv⟩:=heo;exact⟨v,by rw[hbe];exact hv⟩
  ·refine(ok b u q).stay (λc v hc r=>k c v ?_ r) (λc r=>by rw[XG (nown c b r)];exact r) λc xs r=>by rw[XG (ntup c xs r)];exact r
   rcases hc with rfl|hc
   ·exact hbe
   ·rintro rfl;rcases he with z|z
    ·exact nown c b hc z
    ·rw[hc]at z;cases z;exact hb rfl
end
structure Un (fs ex:List Addr) (H H':Hp) (h h':Heap):Prop where
 keep:∀b o,h.get? b=some o->H b=none->b∉fs->b∉ex->h'.get? b=some o
 slot:∀b o,h.get? b=some o->H b=none->b∈fs->b∉ex->∃sl,h'.get? b=some {o with slots:=sl}
 free:∀b o,h.get? b=some o->H b=none->b∉ex->H' b=none
 there:∀b o,h.get? b=some o->b∉ex->∃o',h'.get? b=some o'
 tups:∀b xs,H b=some (.tup xs)->H' b=some (.tup xs)
 frzs:∀b o u,H b=some (.frz o u)->H' b=some (.frz o u)
 tbls:∀b ps,H b=some (.tbl ps)->∃more,H' b=some (.tbl (ps++more))
section
variable{fs fs' ex ex':List Addr}{H H1 H2:Hp}{h h1 h2 h':Heap}{a x e:Addr}{o:HO}
theorem Un.any(u:Un fs ex H H1 h h1)(q:h.get? b=some ob)(n:H b=none)(hx:b∉ex):∃sl,h1.get? b=some {ob with slots:=sl}:=by
 by_cases hb:b∈fs
 ·exact u.slot b ob q n hb hx
 ·exact⟨ob.slots,u.keep b ob q n hb hx⟩
theorem Un.kept(k:∀b u,h.get? b=some u->h'.get? b=some u):Un fs ex H H h h':=
 ⟨λb ob q _ _ _=>k b ob q,λb ob q _ _ _=>⟨ob.slots,k b ob q⟩,λ_ _ _ n _=>n,λb ob q _=>⟨ob,k b ob q⟩,λ_ _ q=>q,λ_ _ _ q=>q,λ_ ps q=>⟨#[],by rw[q];simp⟩⟩
theorem Un.refl:Un fs ex H H h h:=Un.kept λ_ _ q=>q
theorem Un.laid(k:∀b u,h.get? b=some u->h'.get? b=some u)(hp:h.objs.size≤a)(hn:H a=none):Un fs ex H (upd H a o) h h' where
 keep:=λb u q _ _ _=>k b u q
 slot:=λb u q _ _ _=>⟨u.slots,k b u q⟩
 free:=λb u q n _=>by rw[XG (XC (YC (Xu q) hp))];exact n
 there:=λb u q _=>⟨u,k b u q⟩
 tups:=λb xs q=>by rw[XG (Va q hn)];exact q
 frzs:=λb u xs q=>by rw[XG (Va q hn)];exact q
 tbls:=λb ps q=>⟨#[],by rw[XG (Va q hn),q];simp⟩
theorem Un.write(mu:Mut (H x))(he:e=x\/H e=some (.own x))(k:∀b u,b≠e->h.get? b=some u->h'.get? b=some u)(heo:∃u,h'.get? e=some u):Un fs ex H (upd H x o) h h':=by
 have hx:∀b,H b=none->b≠x:=λb n z=>by subst z;rw[n]at mu;exact mu
 have hb:∀b,H b=none->b≠e:=λb n z=>by
  subst z;rcases he with r|r
  ·exact hx b n r
  ·rw[n]at r;cases r
 have hm:∀b u,H b=some u->¬Mut (some u)->b≠x:=λb u q nm z=>by subst z;rw[q]at mu;exact nm mu
 refine⟨λb u q n _ _=>k b u (hb b n) q,λb u q n _ _=>⟨u.slots,k b u (hb b n) q⟩,λb u q n _=>by rw[XG (hx b n)];exact n,λb u q _=>?_,
  λb xs q=>by rw[XG (hm b _ q λz=>z)];exact q,λb u xs q=>by rw[XG (hm b _ q λz=>z)];exact q,λb ps q=>⟨#[],by rw[XG (hm b _ q λz=>z),q];simp⟩⟩
 by_cases hbe:b=e
 ·subst hbe;exact heo
 ·exact⟨u,k b u hbe q⟩
end
def trk(h:Heap)(H:Hp):List Addr:=(Xr h.objs.size).filter λa=>(H a).isSome
def hidT(h:Heap)(H:Hp):Heap:=PySem.W.hideAll h (trk h H)
theorem S6(h:Heap)(H:Hp):(hidT h H).objs.size=h.objs.size:=PySem.W.hideAll_size _ _
theorem S7(e:h.get? b=some o)(n:H b=none):(hidT h H).get? b=some o:=
 PySem.W.hideAll_get _ e λhm=>by
  have q:(H b).isSome=true:=(DA.mp hm).2;rw[n]at q;simp at q
theorem S8(e:(hidT h H).get? b=some o):h.get? b=some o/\H b=none:=by
 have e':h.get? b=some o:=PySem.W.of_hideAll (trk h H) e;refine⟨e',?_⟩;cases q:H b with
 |none=>rfl
 |some x=>
  have hm:b∈trk h H:=DA.mpr ⟨Zb.mpr (Xu e'),by simp[q]⟩
  have z:(hidT h H).get? b=none:=PySem.W.hideAll_none (trk h H) hm;rw[z]at e;cases e
noncomputable def S9(g h:Heap)(L:Addr):List (Addr×Obj):=(Xr h.objs.size).filterMap λa=>if a=L\/(g.get? a).isSome=true then none else(h.get? a).map λo=>(a,o)
def rest(g h:Heap)(L d:Addr):List (Addr×Obj):=(S9 g h L).filter λp=>decide (p.1≠d)
structure Mod (K:X4) (mg:Str->Option X0) (base:Heap):Prop where
 kin:K.In base
 glob:base.Ns Xo mg
 blt:∃mb,base.Ns builtinsNs mb/\∀x:Str,x≠"__name__"->mb x=YA x
 nolimit:base.NoLimit
structure Cx where
 prog:Xv
 w:Xm
 K:X4
 mg:Str->Option X0
 base:Heap
 A:XB
 N:List Str
 s₀:X2
 H₀:Hp
 env:Env
 outer:List Env
 stack:List Env
 ex:List Addr
 fn:Str->Bool
 calm:Bool
 pn:List (Addr×Obj)
 xe:X0->X2->Prop
def frs(l:List Env):List Addr:=l.filterMap (·.frame)
abbrev Cx.fs(X:Cx):List Addr:=frs X.outer
def Vis(sc:Scope)(x:Str):Prop:=sc.names.lookup x=some .local\/sc.names.lookup x=some .cell\/sc.names.lookup x=some .free
def Loc(sc:Scope)(x:Str):Prop:=sc.names.lookup x=some .local\/sc.names.lookup x=some .cell
def Look(env:Env)(h:Heap)(m:Str->Option X0)(x:Str)(u:X0):Prop:=
 (env.kindOf x=some .local/\m x=some u)\/((env.kindOf x=some .cell\/env.kindOf x=some .free)/\∃c,env.cells.lookup x=some c/\h.IsCell c (some u))
structure Cx.Ok (X:Cx):Prop where
 mod:Mod X.K X.mg X.base
 kind:X.env.scope.kind=.function
 glob:X.env.globals=Xo
 blt:X.env.builtins=builtinsNs
 above:X.s₀.heap.objs.size≤X.env.locals
 inj:∀x y c,X.env.cells.lookup x=some c->X.env.cells.lookup y=some c->x=y
 has:∀x,(X.env.kindOf x=some .cell\/X.env.kindOf x=some .free)->∃c,X.env.cells.lookup x=some c
 cab:∀x c,X.fn x=true->X.env.cells.lookup x=some c->X.s₀.heap.objs.size≤c
 hd:X.calm=true->X.A.handled=none
 frames:X.A.frames=some X.stack
 stk:X.stack=X.outer\/(X.stack=X.env::X.outer/\X.env.frame=some X.env.locals)
 exf:∀b∈X.ex,b≠X.env.locals/\∀x c,X.env.cells.lookup x=some c->c≠b
 bs:∀b o,X.base.get? b=some o->X.s₀.heap.get? b=some o/\X.H₀ b=none
 bsz:X.base.objs.size≤X.s₀.heap.objs.size
 noex:∀b o,X.base.get? b=some o->b∉X.ex
 exfs:∀b∈X.ex,b∉X.fs
 funs:X.s₀.heap.FunFrames X.base X.outer
 frf:∀b∈X.fs,X.H₀ b=none
structure Inv (X:Cx) (pins:List (Addr×Obj)) (σ:List (Option V)) (H:Hp) (s:X2):Prop where
 ok:X.Ok
 os:s.os=X.s₀.os
 bare:AllBare s.gens
 base:Un X.fs X.ex X.H₀ H X.s₀.heap s.heap
 loc:∃m,s.heap.Ns X.env.locals m/\∀(i:Nat) (x:Str) (v:V),X.N[i]?=some x->σ[i]?=some (some v)->Vis X.env.scope x->∃u,RelV v u/\Look X.env s.heap m x u
 cell:∀x c,X.env.cells.lookup x=some c->∃v,s.heap.IsCell c v
 free:H X.env.locals=none
 freeC:∀x c,X.env.cells.lookup x=some c->H c=none
 pin:∀p∈X.pn++pins,s.heap.get? p.1=some p.2/\H p.1=none/\p.1≠X.env.locals/\p.1∉X.fs/\∀v,p.2.data≠.cell v
 hok:HOk X.prog X.w H s.heap
 len:σ.length=X.N.length
section
variable{X:Cx}{pins:List (Addr×Obj)}{σ:List (Option V)}{H H':Hp}{s:X2}{h':Heap}
theorem Cx.Ok.nofr(ok:X.Ok)(e:X.base.get? b=some o):b∉X.fs:=λhb=>by
 have:=(ok.funs.mem hb).1;rw[e]at this;cases this
theorem Inv.bs(I:Inv X pins σ H s):∀b o,X.base.get? b=some o->s.heap.get? b=some o/\H b=none:=λb o e=>
 ⟨I.base.keep b o (I.ok.bs b o e).1 (I.ok.bs b o e).2 (I.ok.nofr e) (I.ok.noex b o e),I.base.free b o (I.ok.bs b o e).1 (I.ok.bs b o e).2 (I.ok.noex b o e)⟩
theorem Inv.bk(I:Inv X pins σ H s):∀b o,X.base.get? b=some o->s.heap.get? b=some o:=λb o e=>(I.bs b o e).1
theorem Inv.mod(I:Inv X pins σ H s):Mod X.K X.mg X.base:=I.ok.mod
theorem Inv.kIn(I:Inv X pins σ H s):X.K.In s.heap:=I.ok.mod.kin.keeps I.bk
theorem Inv.lt(I:Inv X pins σ H s):X.env.locals<s.heap.objs.size:=let⟨_,hn,_⟩:=I.loc;hn.lt
theorem Inv.sz(I:Inv X pins σ H s):X.s₀.heap.objs.size≤s.heap.objs.size:=Y4 I.ok.above (BY I.lt)
theorem Inv.nofs(I:Inv X pins σ H s)(h:s.heap.objs.size≤a):a∉X.fs:=λhb=>by
 obtain⟨_,o,ho,_⟩:=I.ok.funs.mem hb;exact absurd (YC (Xu ho) (Y4 I.sz h)) (V2 _)
theorem Inv.cne(I:Inv X pins σ H s):∀x c,X.env.cells.lookup x=some c->c≠X.env.locals:=λx c e z=>by
 obtain⟨v,o,ho,hd⟩:=I.cell x c e;obtain⟨m,⟨o',es,ep,ho',hd',_⟩,_⟩:=I.loc;rw[z,ho']at ho;cases ho;rw[hd']at hd;cases hd
theorem Inv.funs(I:Inv X pins σ H s):s.heap.FunFrames X.base X.outer:=by
 have all:∀(l:List Env),(∀b∈frs l,b∈X.fs)->X.s₀.heap.FunFrames X.base l->s.heap.FunFrames X.base l:=by
  intro l
  induction l with
  |nil=>intro _ _;trivial
  |cons env r ih=>
   intro hs hl;obtain⟨hk,⟨L,o,hf,hn,ho,hd⟩,hr⟩:=hl;have hL:L∈X.fs:=hs L (by unfold frs;rw[Ds,hf];exact Ye)
   obtain⟨sl,e⟩:=I.base.slot L o ho (I.ok.frf L hL) hL λz=>I.ok.exfs L z hL;exact⟨hk,⟨L,_,hf,hn,e,hd⟩,ih (λb hb=>hs b (by unfold frs;rw[Ds,hf];exact XR _ hb)) hr⟩
 exact all X.outer (λ_ hb=>hb) I.ok.funs
theorem Inv.stack(I:Inv X pins σ H s):s.heap.FunFrames X.base X.stack:=by
 rcases I.ok.stk with e|⟨e,hf⟩
 ·rw[e];exact I.funs
 ·rw[e];obtain⟨m,hn,_⟩:=I.loc;refine .cons (by rw[I.ok.kind];decide) hf hn ?_ I.funs
  exact Heap.get?_none_of_le (Y4 I.ok.bsz I.ok.above)
theorem Inv.stkSub(I:Inv X pins σ H s):∀b∈frs X.stack,b∈X.env.locals::X.fs:=λb hb=>by
 rcases I.ok.stk with e|⟨e,hf⟩
 ·rw[e]at hb;exact XR _ hb
 ·rw[e]at hb;unfold frs at hb;rw[Ds,hf]at hb;exact hb
theorem Inv.stkFree(I:Inv X pins σ H s):∀b∈frs X.stack,H b=none:=λb hb=>by
 rcases Xl.mp (I.stkSub b hb)with e|hb
 ·rw[e];exact I.free
 ·obtain⟨_,o,ho,_⟩:=I.ok.funs.mem hb;exact I.base.free b o ho (I.ok.frf b hb) λz=>I.ok.exfs b z hb
theorem Inv.step{g':Array GenState}{t':Nat}{d':Drawn}{ch:List Addr}(I:Inv X pins σ H s)
  (hch:∀b∈ch,(b∈X.ex\/X.s₀.heap.objs.size≤b)/\b≠X.env.locals/\(∀x c,X.env.cells.lookup x=some c->c≠b)/\∀p∈X.pn++pins,p.1≠b)
  (keep:∀b o,b≠X.env.locals->b∉X.fs->b∉ch->s.heap.get? b=some o->H b=none->h'.get? b=some o)
  (slot:∀b o,b≠X.env.locals->b∈X.fs->b∉ch->s.heap.get? b=some o->H b=none->∃sl,h'.get? b=some {o with slots:=sl}) (free:∀b o,b∉ch->s.heap.get? b=some o->H b=none->H' b=none)
  (there:∀b o,b∉ch->s.heap.get? b=some o->∃o',h'.get? b=some o')
  (tups:∀b xs,H b=some (.tup xs)->H' b=some (.tup xs)) (frzs:∀b o u,H b=some (.frz o u)->H' b=some (.frz o u)) (tbls:∀b ps,H b=some (.tbl ps)->∃more,H' b=some (.tbl (ps++more)))
  (ns:∀m,s.heap.Ns X.env.locals m->h'.Ns X.env.locals m) (hok:HOk X.prog X.w H' h') (hg:AllBare g'):
  Inv X pins σ H' {s with heap:=h',gens:=g',drawn:=d',toks:=t'}:=by
 have neL:∀b o,X.s₀.heap.get? b=some o->b≠X.env.locals:=λb o e=>XC (YC (Xu e) I.ok.above);have neC:∀b o,X.s₀.heap.get? b=some o->b∉X.ex->b∉ch:=λb o e hx hb=>by
  rcases(hch b hb).1 with z|z
  ·exact hx z
  ·exact absurd (YC (Xu e) z) (V2 _)
 have cellK:∀x c,X.env.cells.lookup x=some c->∀v,s.heap.IsCell c v->h'.IsCell c v:=λx c e v ⟨o,ho,hd⟩=>by
  have nch:c∉ch:=λz=>(hch c z).2.2.1 x c e rfl;by_cases hc:c∈X.fs
  ·obtain⟨sl,q⟩:=slot c o (I.cne x c e) hc nch ho (I.freeC x c e);exact⟨_,q,hd⟩
  ·exact⟨o,keep c o (I.cne x c e) hc nch ho (I.freeC x c e),hd⟩
 refine⟨I.ok,I.os,hg,⟨λb o e n hb hx=>?_,λb o e n hb hx=>?_,λb o e n hx=>?_,λb o e hx=>?_,λb xs e=>tups b xs (I.base.tups b xs e),λb o xs e=>frzs b o xs (I.base.frzs b o xs e),λb ps e=>?_⟩,?_,λx c e=>?_,?_,λx c e=>?_,λp hp=>?_,hok,I.len⟩
 ·exact keep b o (neL b o e) hb (neC b o e hx) (I.base.keep b o e n hb hx) (I.base.free b o e n hx)
 ·obtain⟨sl,e1⟩:=I.base.slot b o e n hb hx;obtain⟨sl',e2⟩:=slot b _ (neL b o e) hb (neC b o e hx) e1 (I.base.free b o e n hx);exact⟨sl',e2⟩
 ·obtain⟨o',e1⟩:=I.base.there b o e hx;exact free b o' (neC b o e hx) e1 (I.base.free b o e n hx)
 ·obtain⟨o',e1⟩:=I.base.there b o e hx;exact there b o' (neC b o e hx) e1
 ·obtain⟨m1,e1⟩:=I.base.tbls b ps e;obtain⟨m2,e2⟩:=tbls b _ e1;exact⟨m1++m2,by rw[e2,Array.append_assoc]⟩
 ·obtain⟨m,hn,hl⟩:=I.loc;refine⟨m,ns m hn,λi x v e1 e2 e3=>?_⟩;obtain⟨u,r,l⟩:=hl i x v e1 e2 e3;refine⟨u,r,?_⟩;rcases l with l|⟨k,c,e,z⟩
  ·exact .inl l
  ·exact .inr ⟨k,c,e,cellK x c e _ z⟩
 ·obtain⟨v,z⟩:=I.cell x c e;exact⟨v,cellK x c e v z⟩
 ·obtain⟨m,⟨o,_,_,ho,_⟩,_⟩:=I.loc;exact free _ o (λz=>(hch _ z).2.1 rfl) ho I.free
 ·obtain⟨v,o,ho,hd⟩:=I.cell x c e;exact free c o (λz=>(hch c z).2.2.1 x c e rfl) ho (I.freeC x c e)
 ·obtain⟨e,n,ne,nf,d⟩:=I.pin p hp;have nch:p.1∉ch:=λz=>(hch p.1 z).2.2.2 p hp rfl;exact⟨keep p.1 p.2 ne nf nch e n,free p.1 p.2 nch e n,ne,nf,d⟩
theorem Inv.un{t':Nat}(I:Inv X pins σ H s)(u:Un X.fs [] H H' s.heap h')(hok:HOk X.prog X.w H' h'):Inv X pins σ H' {s with heap:=h',toks:=t'}:=by
 obtain⟨m,⟨o,es,ep,ho,r⟩,_⟩:=id I.loc;obtain⟨sl,hL⟩:=u.any ho I.free (by simp)
 exact I.step (g':=s.gens) (d':=s.drawn) (ch:=[]) (λ_ z=>nomatch z) (λb o _ hb _ e n=>u.keep b o e n hb (by simp)) (λb o _ hb _ e n=>u.slot b o e n hb (by simp)) (λb o _ e n=>u.free b o e n (by simp)) (λb o _ e=>u.there b o e (by simp)) u.tups u.frzs u.tbls (λm' hm=>by
  obtain⟨o',es',ep',ho',r'⟩:=hm;rw[ho]at ho';cases ho';exact⟨_,es',ep',hL,r'⟩) hok I.bare
theorem Inv.call{g':Array GenState}{t':Nat}{d':Drawn}{ch:List Addr}(I:Inv X pins σ H s)(u:Un (frs X.stack) ch H H' s.heap h')(hok:HOk X.prog X.w H' h')(hg:AllBare g')
  (hch:∀b∈ch,(b∈X.ex\/X.s₀.heap.objs.size≤b)/\b≠X.env.locals/\(∀x c,X.env.cells.lookup x=some c->c≠b)/\∀p∈X.pn++pins,p.1≠b):
  Inv X pins σ H' {s with heap:=h',gens:=g',drawn:=d',toks:=t'}:=by
 obtain⟨m,⟨o,es,ep,ho,r⟩,_⟩:=id I.loc;obtain⟨sl,hL⟩:=u.any ho I.free λz=>(hch _ z).2.1 rfl;exact I.step (ch:=ch) hch (λb o hL hb hc e n=>u.keep b o e n (λz=>(Xl.mp (I.stkSub b z)).elim hL hb) hc) (λb o _ _ hc e n=>u.any e n hc) (λb o hc e n=>u.free b o e n hc) (λb o hc e=>u.there b o e hc) u.tups u.frzs u.tbls (λm' hm=>by
  obtain⟨o',es',ep',ho',r'⟩:=hm;rw[ho]at ho';cases ho';exact⟨_,es',ep',hL,r'⟩) hok hg
theorem Inv.turned{t':Nat}{it:Addr}(I:Inv X pins σ H s)(k:∀b o,b≠it->s.heap.get? b=some o->h'.get? b=some o)(hn:H it=none)(hL:it≠X.env.locals)
  (h1:it∈X.ex\/X.s₀.heap.objs.size≤it) (h2:∀x c,X.env.cells.lookup x=some c->c≠it) (h3:∀p∈X.pn++pins,p.1≠it):Inv X pins σ H {s with heap:=h',toks:=t'}:=by
 have nit:∀b u,H b=some u->b≠it:=λb u e z=>by rw[z,hn]at e;cases e
 refine I.step (g':=s.gens) (d':=s.drawn) (ch:=[it]) (λb hb=>?_) (λb o _ _ hc e _=>k b o (λz=>hc (by simp[z])) e) (λb o _ _ hc e _=>⟨o.slots,k b o (λz=>hc (by simp[z])) e⟩) (λ_ _ _ _ n=>n)
  (λb o hc e=>⟨o,k b o (λz=>hc (by simp[z])) e⟩) (λ_ _ e=>e) (λ_ _ _ e=>e) (λb ps e=>⟨#[],by rw[e];simp⟩) (λm hm=>?_) (λb u e=>?_) I.bare
 ·have e:b=it:=by simpa using hb
  subst e;exact⟨h1,hL,h2,h3⟩
 ·obtain⟨o,es,ep,ho,r⟩:=hm;exact⟨o,es,ep,k _ o (XN hL) ho,r⟩
 ·refine(I.hok b u e).stay (λc v hc q=>k c v ?_ q) (λ_ q=>q) λ_ _ q=>q;rcases hc with z|z
  ·rw[z];exact nit b u e
  ·exact nit c _ z
theorem Inv.tok(I:Inv X pins σ H s)(t:Nat):Inv X pins σ H {s with toks:=t}:=I.un (h':=s.heap) (t':=t) Un.refl I.hok
theorem Inv.kept(I:Inv X pins σ H s)(k:∀b u,s.heap.get? b=some u->h'.get? b=some u):Inv X pins σ H {s with heap:=h',toks:=t'}:=I.un (Un.kept k) (I.hok.kept k)
theorem Inv.laid(I:Inv X pins σ H s)(k:∀b u,s.heap.get? b=some u->h'.get? b=some u)(hp:s.heap.objs.size≤a)(new:ObjOk X.prog X.w (upd H a o) h' a o):
  Inv X pins σ (upd H a o) {s with heap:=h',toks:=t'}:=I.un (Un.laid k hp (I.hok.fresh hp)) (I.hok.laid k hp new)
theorem Inv.write(I:Inv X pins σ H s)(mu:Mut (H x))(he:e=x\/H e=some (.own x))(k:∀b u,b≠e->s.heap.get? b=some u->h'.get? b=some u)(heo:∃u,h'.get? e=some u)
  (new:ObjOk X.prog X.w (upd H x o) h' x o):Inv X pins σ (upd H x o) {s with heap:=h',toks:=t'}:=I.un (Un.write mu he k heo) (I.hok.write mu he k heo new)
theorem Inv.weak(I:Inv X pins σ H s)(hl:σ'.length=σ.length)(w:∀(i:Nat) v,σ'[i]?=some (some v)->σ[i]?=some (some v)):Inv X pins σ' H s:=
 ⟨I.ok,I.os,I.bare,I.base,let⟨m,hn,hl'⟩:=I.loc;⟨m,hn,λi x v e1 e2 e3=>hl' i x v e1 (w i v e2) e3⟩,I.cell,I.free,I.freeC,I.pin,I.hok,hl.trans I.len⟩
theorem Inv.pins_of(I:Inv X pins σ H s)(h:∀p∈pins',s.heap.get? p.1=some p.2/\H p.1=none/\p.1≠X.env.locals/\p.1∉X.fs/\∀v,p.2.data≠.cell v):Inv X pins' σ H s:=
 ⟨I.ok,I.os,I.bare,I.base,I.loc,I.cell,I.free,I.freeC,λp hp=>(YJ.mp hp).elim (λz=>I.pin p (List.mem_append_left _ z)) (h p),I.hok,I.len⟩
theorem HZ{N:List Str}(hN:N.Nodup){i j:Nat}{x:Str}(a:N[i]?=some x) (b:N[j]?=some x):i=j:=by
 obtain⟨h1,e1⟩:=XO.mp a;obtain⟨h2,e2⟩:=XO.mp b;exact(BF hN).mp (e1.trans e2.symm)
theorem I0{M:Model}{A:XB}{E:X0->X2->Prop}{i:Nat}{x:Str}{v:V}{u:X0}{Q:Unit->X2->Prop}(I:Inv X pins σ H s)(hN:X.N.Nodup)(hi:X.N[i]?=some x) (hx:Loc X.env.scope x) (r:RelV v u)
  (h:∀s',Inv X pins (σ.set i (some v)) H s'->(∃a,U5 a s.heap s'.heap/\(a=X.env.locals\/X.env.cells.lookup x=some a))->Q () s') (hf:X.fn x=true\/X.env.scope.names.lookup x=some .local:=by first|exact .inl rfl|exact .inr rfl|assumption):X3 M A (storeName X.env x u) Q E s:=by
 obtain⟨m,hn,hl⟩:=id I.loc;have hcls:(X.env.scope.kind==.class||(X.env.scope.kind==.module&&X.env.locals != X.env.globals))=false:=by rw[I.ok.kind];rfl
 have hiσ:i<σ.length:=by rw[I.len];exact(XO.mp hi).1
 have cne:=I.cne;have tracked:∀{a:Addr} {h':Heap},(∃o,s.heap.get? a=some o/\H a=none)->U5 a s.heap h'->HOk X.prog X.w H h':=fun{a h'} ha hs b ob e=>by
  obtain⟨_,_,jm⟩:=ha;refine(I.hok b ob e).stay (λc w' hc q=>(hs.2 c ?_).trans q) (λ_ q=>q) λ_ _ q=>q;rintro rfl;rcases hc with rfl|hc
  ·rw[jm]at e;cases e
  ·rw[jm]at hc;cases hc
 rcases hx with hk|hk
 ·refine wpAny_storeName_local hk hn (λh' hn' hs=>?_) hcls;obtain⟨oL,_,_,hoL,_⟩:=id hn;refine h _ ⟨I.ok,I.os,I.bare,⟨λb o e n hb hx=>?_,λb o e n hb hx=>?_,I.base.free,λb o e hx=>?_,I.base.tups,I.base.frzs,I.base.tbls⟩,⟨_,hn',λj y v' e1 e2 e3=>?_⟩,λy c e=>?_,I.free,I.freeC,λp hp=>?_,tracked ⟨oL,hoL,I.free⟩ hs,by simpa using I.len⟩ ⟨_,hs,.inl rfl⟩
  ·exact(hs.2 b (XC (YC (Xu e) I.ok.above))).trans (I.base.keep b o e n hb hx)
  ·obtain⟨sl,e1⟩:=I.base.slot b o e n hb hx;exact⟨sl,(hs.2 b (XC (YC (Xu e) I.ok.above))).trans e1⟩
  ·obtain⟨o',e1⟩:=I.base.there b o e hx;exact⟨o',(hs.2 b (XC (YC (Xu e) I.ok.above))).trans e1⟩
  ·by_cases hj:j=i
   ·subst hj;rw[hi]at e1;cases e1;rw[He hiσ]at e2;cases e2;exact⟨u,r,.inl ⟨hk,by simp⟩⟩
   ·rw[Vx (XN hj)]at e2;obtain⟨u',r',q⟩:=hl j y v' e1 e2 e3;refine⟨u',r',?_⟩;rcases q with⟨k,e⟩|⟨k,c,e,z⟩
    ·refine .inl ⟨k,?_⟩;have:y≠x:=λe=>hj (HZ hN e1 (e▸hi));simp[this,e]
    ·exact .inr ⟨k,c,e,z.sameBut hs (cne y c e)⟩
  ·obtain⟨w',z⟩:=I.cell y c e;exact⟨w',z.sameBut hs (cne y c e)⟩
  ·obtain⟨e,n,ne,nf,d⟩:=I.pin p hp;exact⟨(hs.2 p.1 ne).trans e,n,ne,nf,d⟩
 ·have hfn:X.fn x=true:=by
   rcases hf with z|z
   ·exact z
   ·rw[z]at hk;cases hk
  obtain⟨c,hc⟩:=I.ok.has x (.inl hk);obtain⟨w',z⟩:=I.cell x c hc;refine wpAny_storeName_cell I.ok.kind hk hc z (λh' hc' hs=>?_);obtain⟨oc,hoc,hocd⟩:=id z;refine h {s with heap:=h'} ⟨I.ok,I.os,I.bare,⟨λb o e n hb hx=>?_,λb o e n hb hx=>?_,I.base.free,λb o e hx=>?_,I.base.tups,I.base.frzs,I.base.tbls⟩,⟨m,hn.sameBut hs (XN (cne x c hc)),λj y v' e1 e2 e3=>?_⟩,λy c' e=>?_,I.free,I.freeC,λp hp=>?_,tracked ⟨oc,hoc,I.freeC x c hc⟩ hs,by simpa using I.len⟩ ⟨c,hs,.inr hc⟩
  ·exact(hs.2 b (XC (YC (Xu e) (I.ok.cab x c hfn hc)))).trans (I.base.keep b o e n hb hx)
  ·obtain⟨sl,e1⟩:=I.base.slot b o e n hb hx;exact⟨sl,(hs.2 b (XC (YC (Xu e) (I.ok.cab x c hfn hc)))).trans e1⟩
  ·obtain⟨o',e1⟩:=I.base.there b o e hx;exact⟨o',(hs.2 b (XC (YC (Xu e) (I.ok.cab x c hfn hc)))).trans e1⟩
  ·by_cases hj:j=i
   ·subst hj;rw[hi]at e1;cases e1;rw[He hiσ]at e2;cases e2;exact⟨u,r,.inr ⟨.inl hk,c,hc,hc'⟩⟩
   ·rw[Vx (XN hj)]at e2;obtain⟨u',r',q⟩:=hl j y v' e1 e2 e3;refine⟨u',r',?_⟩;rcases q with q|⟨k,c',e,z'⟩
    ·exact .inl q
    ·refine .inr ⟨k,c',e,z'.sameBut hs ?_⟩;rintro rfl;exact hj (HZ hN e1 (I.ok.inj _ _ _ e hc▸hi))
  ·by_cases hcc:c'=c
   ·subst hcc;exact⟨_,hc'⟩
   ·obtain⟨w2,z2⟩:=I.cell y c' e;exact⟨w2,z2.sameBut hs hcc⟩
  ·obtain⟨e,n,ne,nf,d⟩:=I.pin p hp;refine⟨(hs.2 p.1 ?_).trans e,n,ne,nf,d⟩;intro q;rw[q,hoc]at e;have q':oc=p.2:=Yb e;exact d w' (by rw[<- q'];exact hocd)
theorem Ia(I:Inv X pins σ H s)(hN:X.N.Nodup)(hi:X.N[i]?=some x) (hx:Loc X.env.scope x) (r:RelV v u)
  (h:∀s',Inv X pins (σ.set i (some v)) H s'->Q () s') (hf:X.fn x=true\/X.env.scope.names.lookup x=some .local:=by first|exact .inl rfl|exact .inr rfl|assumption):X3 M A (storeName X.env x u) Q E s:=
 I0 I hN hi hx r (λs' I' _=>h s' I') hf
theorem Inv.call'(I:Inv X pins σ H s)(ho:s'.os=s.os)(u:Un (frs X.stack) ch H H' s.heap s'.heap)(hok:HOk X.prog X.w H' s'.heap)(hg:AllBare s'.gens)
  (hch:∀b∈ch,(b∈X.ex\/X.s₀.heap.objs.size≤b)/\b≠X.env.locals/\(∀x c,X.env.cells.lookup x=some c->c≠b)/\∀p∈X.pn++pins,p.1≠b):Inv X pins σ H' s':=by
 obtain⟨h',g',d',t',o'⟩:=s';have e:o'=s.os:=ho;subst e;exact I.call (g':=g') (t':=t') (d':=d') u hok hg hch
end
abbrev XK:=X0->Option Addr->Hp->Prop
abbrev St:=List (Option V)
abbrev VK:=V->Hp->Prop
abbrev TE:=St->Hp->VK->Prop
abbrev TT:=St->Hp->(Bool->Hp->Prop)->Prop
abbrev TA:=St->Hp->(List V->Hp->Prop)->Prop
structure Ends where
 nx:St->Hp->Prop
 rt:VK
 bk:St->Hp->Prop:=λ_ _=>False
 ct:St->Hp->Prop:=λ_ _=>False
abbrev TS:=Ends->St->Hp->Prop
def EP(X:Cx)(pins:List (Addr×Obj))(σ:St)(Q:VK)(u:X0)(s':X2):Prop:=∃v H',Inv X pins σ H' s'/\RelV v u/\Q v H'
def TP(X:Cx)(pins:List (Addr×Obj))(σ:St)(Q:Bool->Hp->Prop)(b:Bool)(s':X2):Prop:=∃H',Inv X pins σ H' s'/\Q b H'
def AP(X:Cx)(pins:List (Addr×Obj))(σ:St)(Q:List V->Hp->Prop)(us:List X0)(s':X2):Prop:=∃vs H',Inv X pins σ H' s'/\Vals vs us/\Q vs H'
def SP(X:Cx)(pins:List (Addr×Obj))(D:Ends)(f:Flow)(s':X2):Prop:=
 match f with
 |.next=>∃σ' H',Inv X pins σ' H' s'/\D.nx σ' H'
 |.brk=>∃σ' H',Inv X pins σ' H' s'/\D.bk σ' H'
 |.cont=>∃σ' H',Inv X pins σ' H' s'/\D.ct σ' H'
 |.ret u=>∃v σ' H',Inv X pins σ' H' s'/\RelV v u/\D.rt v H'
def PE(X:Cx)(e:Expr)(t:TE):Prop:=
 ∀(pins:List (Addr×Obj)) (s:X2) (σ:St) (H:Hp) (Q:VK),Inv X pins σ H s->t σ H Q->X3 (X6 X.prog X.w) X.A (eval e X.env) (EP X pins σ Q) X.xe s
def PT(X:Cx)(e:Expr)(t:TT):Prop:=
 ∀(pins:List (Addr×Obj)) (s:X2) (σ:St) (H:Hp) (Q:Bool->Hp->Prop),Inv X pins σ H s->t σ H Q->X3 (X6 X.prog X.w) X.A (isTrue e X.env (eval e X.env)) (TP X pins σ Q) X.xe s
def PW(X:Cx)(e:Expr)(t:TT):Prop:=
 ∀(whole:Sem X0) (pins:List (Addr×Obj)) (s:X2) (σ:St) (H:Hp) (Q:Bool->Hp->Prop),Inv X pins σ H s->t σ H Q->X3 (X6 X.prog X.w) X.A (isTrue e X.env whole) (TP X pins σ Q) X.xe s
theorem PW.pt{t:TT}(h:PW X e t):PT X e t:=h _
def PA(X:Cx)(es:List Expr)(t:TA):Prop:=
 ∀(pos:Pos) (pins:List (Addr×Obj)) (s:X2) (σ:St) (H:Hp) (Q:List V->Hp->Prop),Inv X pins σ H s->t σ H Q->X3 (X6 X.prog X.w) X.A (spliced (XZ pos (Xw es X.env))) (AP X pins σ Q) X.xe s
def PS(X:Cx)(st:Stmt)(t:TS):Prop:=
 ∀(pins:List (Addr×Obj)) (s:X2) (σ:St) (H:Hp) (D:Ends),Inv X pins σ H s->t D σ H->X3 (X6 X.prog X.w) X.A (exec st X.env) (SP X pins D) X.xe s
def PSs(X:Cx)(st:List Stmt)(t:TS):Prop:=
 ∀(pins:List (Addr×Obj)) (s:X2) (σ:St) (H:Hp) (D:Ends),Inv X pins σ H s->t D σ H->X3 (X6 X.prog X.w) X.A (execs st X.env) (SP X pins D) X.xe s
theorem thn{α:Type}{t:Sem α}{Q Q':α->X2->Prop}{M:Model}{A:XB}{E:X0->X2->Prop}{s:X2}(h:X3 M A t Q E s)(hQ:∀a s,Q a s->Q' a s):X3 M A t Q' E s:=Zt h hQ λ_ _ x=>x
section
variable{X:Cx}
theorem bin{a b:Expr}{ta tb:TE}(ha:PE X a ta)(hb:PE X b tb){pins:List (Addr×Obj)}{s:X2}{σ:St}{H:Hp}{R:V->V->Hp->Prop}(I:Inv X pins σ H s)(h:ta σ H λx H1=>tb σ H1 λy H2=>R x y H2)
  {α:Type} {Q:α->X2->Prop} {f:X0->X0->Sem α}
  (hf:∀v u s2 x y H2,Inv X pins σ H2 s2->RelV x v->RelV y u->R x y H2->X3 (X6 X.prog X.w) X.A (f v u) Q X.xe s2):
  X3 (X6 X.prog X.w) X.A (eval a X.env) (λv s₁=>X3 (X6 X.prog X.w) X.A (eval b X.env) (λu s₂=>X3 (X6 X.prog X.w) X.A (f v u) Q X.xe s₂) X.xe s₁) X.xe s:=by
 refine thn (ha pins s σ H _ I h) λv s1 ⟨x,H1,I1,r1,q1⟩=>?_;refine thn (hb pins s1 σ H1 _ I1 q1) λu s2 ⟨y,H2,I2,r2,q2⟩=>?_;exact hf v u s2 x y H2 I2 r1 r2 q2
def tVar(i:Nat):TE:=λσ H Q=>∃v,σ[i]?=some (some v)/\Q v H
def tC(v:V):TE:=λ_ H Q=>Q v H
theorem Ib{i:Nat}{x:Str}{pos:Pos}(hN:X.N[i]?=some x) (hv:Vis X.env.scope x) (hd:(x==("__debug__":Str))=false:=by decide) (hcd:(x==("__classdict__":Str))=false:=by decide):PE X (.Name x pos) (tVar i):=by
 intro pins s σ H Q I h;obtain⟨v,e,h⟩:=h;obtain⟨m,hn,hl⟩:=I.loc;obtain⟨u,r,l⟩:=hl i x v hN e hv;have fin:EP X pins σ Q u s:=⟨v,H,I,r,h⟩;rcases l with⟨hk,hm⟩|⟨hk,c,hc,hcell⟩
 ·exact wpAny_Name (wpAny_loadName_local I.ok.kind hk hn hm fin) hd
 ·rcases hk with hk|hk
  ·exact wpAny_Name (wpAny_loadName_cell I.ok.kind hk hc hcell fin) hd
  ·exact wpAny_Name (wpAny_loadName_free I.ok.kind hk hc hcell fin hcd) hd
theorem pe_int{i j pos}:PE X (.Constant (.int i) j pos) (tC (.int i)):=λ_ _ _ H _ I h=>wpAny_Constant_int ⟨.int i,H,I.tok _,⟨_,rfl⟩,h⟩
theorem pe_bl{b j pos}:PE X (.Constant (.bool b) j pos) (tC (.bl b)):=λ_ _ _ H _ I h=>Constant_bool ⟨.bl b,H,I,rfl,h⟩
theorem pe_non{j pos}:PE X (.Constant .none j pos) (tC .non):=λ_ _ _ H _ I h=>Constant_none ⟨.non,H,I,rfl,h⟩
theorem pe_str{x j pos}:PE X (.Constant (.str x) j pos) (tC (.str x)):=λ_ _ _ H _ I h=>Calls.Constant_str ⟨.str x,H,I.tok _,⟨_,rfl⟩,h⟩
def Gl(X:Cx)(x:Str):Prop:=X.env.kindOf x=some .globalImplicit
theorem E4(I:Inv X pins σ H s)(hg:Gl X x)(hm:X.mg x=some u)(h:Q u s)
  (hd:(x==("__debug__":Str))=false:=by decide):X3 (X6 X.prog X.w) X.A (eval (.Name x pos) X.env) Q E s:=
 HN I.ok.kind hg (Calls.loadGlobal_global (by rw[I.ok.glob];exact I.mod.glob.keeps I.bk) hm h) hd
theorem _F(I:Inv X pins σ H s)(hg:Gl X x)(hm:X.mg x=none)(hv:YA x=some u)(h:Q u s)
  (hn:x≠"__name__":=by decide) (hd:(x==("__debug__":Str))=false:=by decide):X3 (X6 X.prog X.w) X.A (eval (.Name x pos) X.env) Q E s:=by
 obtain⟨mb,h1,h2⟩:=I.mod.blt;exact HN I.ok.kind hg (Calls.loadGlobal_builtin (by rw[I.ok.glob];exact I.mod.glob.keeps I.bk) hm (by rw[I.ok.blt];exact h1.keeps I.bk) ((h2 x hn).trans hv) h) hd
theorem Sa{x:Str}{v:V}{u:X0}{pos:Pos}(hg:Gl X x)(hm:X.mg x=some u)(r:RelV v u)(hd:(x==("__debug__":Str))=false:=by decide):PE X (.Name x pos) (tC v):=
 λ_ _ _ H _ I h=>E4 I hg hm ⟨v,H,I,r,h⟩ hd
theorem Sb{x:Str}{v:V}{u:X0}{pos:Pos}(hg:Gl X x)(hm:X.mg x=none)(hv:YA x=some u)(r:RelV v u)(hn:x≠"__name__":=by decide)(hd:(x==("__debug__":Str))=false:=by decide):PE X (.Name x pos) (tC v):=
 λ_ _ _ H _ I h=>_F I hg hm hv ⟨v,H,I,r,h⟩ hn hd
variable{a b:Expr}{ta tb:TE}{pos:Pos}
def tB(t:TE):TT:=λσ H Q=>t σ H λx H1=>∃c,x=.bl c/\Q c H1
theorem Sc{e:Expr}{t:TE}(h:PE X e t)(he:∀whole,isTrue e X.env whole=(do let v<- whole;standAt e.pos;Z4 [v] (truthy v)):=by intro _;rfl):PT X e (tB t):=by
 intro pins s σ H Q I hw;refine isTrue_plain (thn (h pins s σ H _ I hw) λv s1 ⟨x,H1,I1,r1,q1⟩=>?_) (he _);obtain⟨d,rfl,q⟩:=q1;cases r1;exact Zu ⟨H1,I1,q⟩
variable{tA tB':TT}{rest:List Expr}
noncomputable def tAnd(t u:TT):TT:=λσ H Q=>t σ H λc H1=>if c=true then u σ H1 Q else Q false H1
noncomputable def tOr(t u:TT):TT:=λσ H Q=>t σ H λc H1=>if c=true then Q true H1 else u σ H1 Q
def tNot(t:TT):TT:=λσ H Q=>t σ H λc H1=>Q (!c) H1
theorem pw_and1(ha:PT X a tA):PW X (.BoolOp .And [a] pos) tA:=by
 intro wh pins s σ H Q I h;refine isTrue_and (thn (ha pins s σ H Q I h) λc s1 e=>?_);cases c with
 |true=>exact isTrue_and_nil e
 |false=>exact e
theorem pw_or1(ha:PT X a tA):PW X (.BoolOp .Or [a] pos) tA:=by
 intro wh pins s σ H Q I h;refine isTrue_or (thn (ha pins s σ H Q I h) λc s1 e=>?_);cases c with
 |false=>exact isTrue_or_nil e
 |true=>exact e
theorem pw_and(ha:PT X a tA)(hb:PW X (.BoolOp .And (b::rest) pos) tB'):PW X (.BoolOp .And (a::b::rest) pos) (tAnd tA tB'):=by
 intro wh pins s σ H Q I h;refine isTrue_and (thn (ha pins s σ H _ I h) λc s1 ⟨H1,I1,q1⟩=>?_);cases c with
 |true=>exact hb wh pins s1 σ H1 Q I1 q1
 |false=>exact⟨H1,I1,q1⟩
theorem pw_or(ha:PT X a tA)(hb:PW X (.BoolOp .Or (b::rest) pos) tB'):PW X (.BoolOp .Or (a::b::rest) pos) (tOr tA tB'):=by
 intro wh pins s σ H Q I h;refine isTrue_or (thn (ha pins s σ H _ I h) λc s1 ⟨H1,I1,q1⟩=>?_);cases c with
 |true=>exact⟨H1,I1,q1⟩
 |false=>exact hb wh pins s1 σ H1 Q I1 q1
theorem Sd(ha:PT X a tA):PT X (.UnaryOp .Not a pos) (tNot tA):=by
 intro pins s σ H Q I h;exact isTrue_not (ha pins s σ H (λc H1=>Q (!c) H1) I h)
noncomputable def Se(ta tb:TE):TE:=λσ H Q=>ta σ H λx H1=>∃c,x=.bl c/\if c=true then tb σ H1 Q else Q (.bl false) H1
noncomputable def tOrV(ta tb:TE):TE:=λσ H Q=>ta σ H λx H1=>∃c,x=.bl c/\if c=true then Q (.bl true) H1 else tb σ H1 Q
def Sf(ta:TE):TE:=λσ H Q=>ta σ H λx H1=>∃c,x=.bl c/\Q (.bl (!c)) H1
theorem Ic{op}{t:TE}(h:PE X a t):PE X (.BoolOp op [a] pos) t:=λpins s σ H Q I hw=>BoolOp_one (h pins s σ H Q I hw)
theorem Sg(ha:PE X a ta)(hb:PE X (.BoolOp .And (b::rest) pos) tb):PE X (.BoolOp .And (a::b::rest) pos) (Se ta tb):=by
 intro pins s σ H Q I h;refine BoolOp_and (thn (ha pins s σ H _ I h) λv s1 ⟨x,H1,I1,r1,q1⟩=>?_);obtain⟨c,rfl,q1⟩:=q1;cases r1;refine Zu ?_;cases c with
 |true=>exact hb pins s1 σ H1 Q I1 q1
 |false=>exact⟨.bl false,H1,I1,rfl,q1⟩
theorem Sh(ha:PE X a ta)(hb:PE X (.BoolOp .Or (b::rest) pos) tb):PE X (.BoolOp .Or (a::b::rest) pos) (tOrV ta tb):=by
 intro pins s σ H Q I h;refine BoolOp_or (thn (ha pins s σ H _ I h) λv s1 ⟨x,H1,I1,r1,q1⟩=>?_);obtain⟨c,rfl,q1⟩:=q1;cases r1;refine Zu ?_;cases c with
 |false=>exact hb pins s1 σ H1 Q I1 q1
 |true=>exact⟨.bl true,H1,I1,rfl,q1⟩
theorem Si(ha:PE X a ta):PE X (.UnaryOp .Not a pos) (Sf ta):=by
 intro pins s σ H Q I h;refine UnaryOp_ (thn (ha pins s σ H _ I h) λv s1 ⟨x,H1,I1,r1,q1⟩=>?_);obtain⟨c,rfl,q1⟩:=q1;cases r1;exact not_of (Zu ⟨.bl (!c),H1,I1,rfl,q1⟩)
noncomputable def tIf(t:TT)(ta tb:TE):TE:=λσ H Q=>t σ H λc H1=>if c=true then ta σ H1 Q else tb σ H1 Q
theorem Sj{c:Expr}(hc:PT X c tA)(ha:PE X a ta)(hb:PE X b tb):PE X (.IfExp c a b pos) (tIf tA ta tb):=by
 intro pins s σ H Q I h;refine wpAny_IfExp (thn (hc pins s σ H _ I h) λd s1 ⟨H1,I1,q1⟩=>?_);cases d with
 |true=>exact ha pins s1 σ H1 Q I1 q1
 |false=>exact hb pins s1 σ H1 Q I1 q1
end
def SqL(K:X4)(H:Hp)(a:Addr)(xs:List V):Prop:=
 Rd H a (.lst xs)\/
  ∃(o:Obj) (its:Array X0) (n:Nat),K.lookup a=some o/\o.cls=.type "list"/\o.dict=none/\o.data=.seq its n/\its.size≤sizeLine/\Vals xs its.toList
def SqT(K:X4)(H:Hp)(a:Addr)(xs:List V):Prop:=
 Rd H a (.tup xs)\/
  ∃(o:Obj) (its:Array X0) (n:Nat),K.lookup a=some o/\o.cls=.type "tuple"/\o.data=.seq its n/\its.size≤sizeLine/\Vals xs its.toList
noncomputable def absV:X0->Option V
 |.none=>some .non
 |.bool b=>some (.bl b)
 |.int i _=>some (.int i)
 |.str x _=>some (.str x)
 |.bytes b _=>some (.byt b)
 |.float b _=>some (.flt b)
 |.ref a=>some (.ref a)
 |.type n=>some (.ty n)
 |_=>none
theorem RelV.abs(r:RelV x u):absV u=some x:=by
 cases x with
 |non=>cases r;rfl
 |bl _=>cases r;rfl
 |int _=>obtain⟨t,rfl⟩:=r;rfl
 |str _=>obtain⟨t,rfl⟩:=r;rfl
 |byt _=>obtain⟨t,rfl⟩:=r;rfl
 |flt _=>obtain⟨t,rfl⟩:=r;rfl
 |ref _=>cases r;rfl
 |ty _=>cases r;rfl
theorem RelV.inj(r:RelV x u)(q:RelV y u):x=y:=Yb (r.abs.symm.trans q.abs)
theorem Vals.inj:∀{xs ys:List V} {us:List X0},Vals xs us->Vals ys us->xs=ys
 |_,_,_,.nil,.nil=>rfl
 |_,_,_,.cons r t,.cons r' t'=>by rw[r.inj r',Vals.inj t t']
section
variable{X:Cx}{pins:List (Addr×Obj)}{σ:St}{H:Hp}{s:X2}{a:Addr}{xs ys:List V}
theorem SqL.of{K:X4}(h:H a=some (.lst xs)):SqL K H a xs:=.inl (.inl h)
theorem SqT.of{K:X4}(h:H a=some (.tup xs)):SqT K H a xs:=.inl (.inl h)
theorem Inv.list(I:Inv X pins σ H s)(h:SqL X.K H a xs):∃its:List X0,Vals xs its/\PlainL s.heap a its.toArray/\xs.length≤sizeLine:=by
 rcases h with h|⟨o,its,n,hk,hc,hd,hs,hz,r⟩
 ·obtain⟨z,its,n,r,e⟩:=h.ok I.hok;exact⟨its,r,⟨_,n,e,rfl,rfl,rfl⟩,z⟩
 ·refine⟨its.toList,r,⟨o,n,I.kIn a o hk,hc,hd,by simpa using hs⟩,?_⟩
  have e:=r.length;simp only[XY]at e;lia
theorem Inv.tuple(I:Inv X pins σ H s)(h:SqT X.K H a xs):∃its:List X0,Vals xs its/\IsTup s.heap a its.toArray/\xs.length≤sizeLine:=by
 rcases h with h|⟨o,its,n,hk,hc,hs,hz,r⟩
 ·obtain⟨z,its,r,p⟩:=h.ok I.hok;exact⟨its,r,p.1,z⟩
 ·refine⟨its.toList,r,⟨o,I.kIn a o hk,hc,n,by simpa using hs⟩,?_⟩
  have e:=r.length;simp only[XY]at e;lia
theorem Inv.list_inj(I:Inv X pins σ H s)(h:SqL X.K H a xs)(h':SqL X.K H a ys):xs=ys:=by
 obtain⟨its,r,⟨o,n,e,_,_,d⟩,_⟩:=I.list h;obtain⟨its',r',⟨o',n',e',_,_,d'⟩,_⟩:=I.list h';rw[e]at e';cases e';rw[d]at d';injection d' with d1 _;have:its=its':=by simpa using congrArg Array.toList d1
 subst this;exact r.inj r'
theorem Inv.tuple_inj(I:Inv X pins σ H s)(h:SqT X.K H a xs)(h':SqT X.K H a ys):xs=ys:=by
 obtain⟨its,r,⟨o,e,_,n,d⟩,_⟩:=I.tuple h;obtain⟨its',r',⟨o',e',_,n',d'⟩,_⟩:=I.tuple h';rw[e]at e';cases e';rw[d]at d';injection d' with d1 _;have:its=its':=by simpa using congrArg Array.toList d1
 subst this;exact r.inj r'
end
abbrev Cx.wish(X:Cx)(E:X0->X2->Prop):Cx:={X with xe:=E}
abbrev Cx.nox(X:Cx):Cx:=X.wish λ_ _=>False
theorem Cx.Ok.wish{X:Cx}(ok:X.Ok)(E:X0->X2->Prop):(X.wish E).Ok:=
 ⟨ok.mod,ok.kind,ok.glob,ok.blt,ok.above,ok.inj,ok.has,ok.cab,ok.hd,ok.frames,ok.stk,ok.exf,ok.bs,ok.bsz,ok.noex,ok.exfs,ok.funs,ok.frf⟩
theorem Cx.Ok.unwish{X:Cx}{E:X0->X2->Prop}(ok:(X.wish E).Ok):X.Ok:=
 ⟨ok.mod,ok.kind,ok.glob,ok.blt,ok.above,ok.inj,ok.has,ok.cab,ok.hd,ok.frames,ok.stk,ok.exf,ok.bs,ok.bsz,ok.noex,ok.exfs,ok.funs,ok.frf⟩
section
variable{X:Cx}{pins:List (Addr×Obj)}{σ:St}{H:Hp}{s:X2}{E:X0->X2->Prop}
theorem Inv.wish(I:Inv X pins σ H s)(E:X0->X2->Prop):Inv (X.wish E) pins σ H s:=⟨I.ok.wish E,I.os,I.bare,I.base,I.loc,I.cell,I.free,I.freeC,I.pin,I.hok,I.len⟩
theorem Inv.unwish(I:Inv (X.wish E) pins σ H s):Inv X pins σ H s:=⟨I.ok.unwish,I.os,I.bare,I.base,I.loc,I.cell,I.free,I.freeC,I.pin,I.hok,I.len⟩
theorem SP.unwish(h:SP (X.wish E) pins D f s'):SP X pins D f s':=by
 cases f with
 |next=>obtain⟨σ',H',I,q⟩:=h;exact⟨σ',H',I.unwish,q⟩
 |brk=>obtain⟨σ',H',I,q⟩:=h;exact⟨σ',H',I.unwish,q⟩
 |cont=>obtain⟨σ',H',I,q⟩:=h;exact⟨σ',H',I.unwish,q⟩
 |ret u=>obtain⟨v,σ',H',I,r,q⟩:=h;exact⟨v,σ',H',I.unwish,r,q⟩
theorem PSs.nox{st:List Stmt}{t:TS}(h:PSs X.nox st t):PSs X st t:=λpins s σ H D I hw=>
 Zt (h pins s σ H D (I.wish _) hw) (λ_ _ q=>q.unwish) λ_ _ z=>Y7 z
end
section
variable{X:Cx}{st:Stmt}{rest:List Stmt}{t u:TS}{e:Expr}{te:TE}{pos:Pos}
def Sk:TS:=λD σ H=>D.nx σ H
def tSeq(t u:TS):TS:=λD σ H=>t {D with nx:=u D} σ H
theorem pss_nil:PSs X [] Sk:=λ_ _ σ H _ I h=>wpAny_execs_nil ⟨σ,H,I,h⟩
theorem Sl(h1:PS X st t)(h2:PSs X rest u):PSs X (st::rest) (tSeq t u):=by
 intro pins s σ H D I h;refine wpAny_execs_cons (thn (h1 pins s σ H {D with nx:=u D} I h) λf s1 q=>?_);cases f with
 |next=>
  obtain⟨σ',H',I',q⟩:=q;exact h2 pins s1 σ' H' D I' q
 |ret v=>exact q
 |brk=>exact q
 |cont=>exact q
theorem Inv.quiet(I:Inv X pins σ H s):interactive X.env=false:=by simp[interactive,I.ok.kind]
def Sn(te:TE):TS:=λD σ H=>te σ H λ_ H1=>D.nx σ H1
theorem So(he:PE X e te)(hs:Zv e none pos.line X.env=pure false:=by rfl):PS X (.Expr e pos) (Sn te):=by
 intro pins s σ H D I h;exact wpAny_Expr_any (thn (he pins s σ H _ I h) λv s1 ⟨x,H1,I1,r1,q1⟩=>⟨σ,H1,I1,q1⟩) I.quiet hs
def tRet(te:TE):TS:=λD σ H=>te σ H D.rt
theorem Sq(he:PE X e te):PS X (.Return (some e) pos) (tRet te):=by
 intro pins s σ H D I h;exact wpAny_Return_some (thn (he pins s σ H _ I h) λv s1 ⟨x,H1,I1,r1,q1⟩=>⟨x,σ,H1,I1,r1,q1⟩)
noncomputable def tIfS(c:TT)(t u:TS):TS:=λD σ H=>c σ H λb H1=>if b=true then t D σ H1 else u D σ H1
theorem Sr{c:Expr}{a b:List Stmt}{tc:TT}(hc:PT X c tc)(ha:PSs X a t)(hb:PSs X b u):PS X (.If c a b pos) (tIfS tc t u):=by
 intro pins s σ H D I h;refine wpAny_If (thn (hc pins s σ H _ I h) λd s1 ⟨H1,I1,q1⟩=>?_);cases d with
 |true=>exact ha pins s1 σ H1 D I1 q1
 |false=>exact hb pins s1 σ H1 D I1 q1
def Su:TS:=λ_ _ _=>False
theorem ps_never:PS X st Su:=λ_ _ _ _ _ _ h=>h.elim
end
abbrev TG:=V->St->Hp->(St->Hp->Prop)->Prop
abbrev TGs:=List V->St->Hp->(St->Hp->Prop)->Prop
def PG(X:Cx)(target:Expr)(t:TG):Prop:=
 ∀(pins:List (Addr×Obj)) (s:X2) (σ:St) (H:Hp) (v:V) (u:X0) (Q:St->Hp->Prop),Inv X pins σ H s->RelV v u->t v σ H Q->
  X3 (X6 X.prog X.w) X.A (assign target X.env u) (λ_ s'=>∃σ' H',Inv X pins σ' H' s'/\Q σ' H') X.xe s
def PGs(X:Cx)(ts:List Expr)(t:TGs):Prop:=
 ∀(pins:List (Addr×Obj)) (s:X2) (σ:St) (H:Hp) (vs:List V) (us:List X0) (Q:St->Hp->Prop),Inv X pins σ H s->Vals vs us->t vs σ H Q->
  X3 (X6 X.prog X.w) X.A (assignInOrder ((Zw ts X.env).map (·.2)) us) (λ_ s'=>∃σ' H',Inv X pins σ' H' s'/\Q σ' H') X.xe s
abbrev TSet:=V->V->V->Hp->(Hp->Prop)->Prop
def PSet(X:Cx)(t:TSet):Prop:=
 ∀(pins:List (Addr×Obj)) (s:X2) (σ:St) (H:Hp) (o i v:V) (ov iv u:X0) (Q:Hp->Prop),Inv X pins σ H s->RelV o ov->RelV i iv->RelV v u->t o i v H Q->
  X3 (X6 X.prog X.w) X.A (setItem ov iv u) (λ_ s'=>∃H',Inv X pins σ H' s'/\Q H') X.xe s
section
variable{X:Cx}{pos:Pos}
def Cm(i:Nat):TG:=λv σ H Q=>Q (σ.set i (some v)) H
theorem Id(hN:X.N.Nodup)(hi:X.N[i]?=some x) (hx:Loc X.env.scope x) (hf:X.fn x=true\/X.env.scope.names.lookup x=some .local:=by first|exact .inl rfl|exact .inr rfl|assumption):PG X (.Name x pos) (Cm i):=by
 intro pins s σ H v u Q I r h;exact wpAny_assign_Name (Ia I hN hi hx r (λs' I'=>⟨_,H,I',h⟩) hf)
def gNil:TGs:=λvs σ H Q=>vs=[]/\Q σ H
def Ie(t:TG)(u:TGs):TGs:=λvs σ H Q=>∃v r,vs=v::r/\t v σ H λσ' H'=>u r σ' H' Q
theorem Sv:PGs X [] gNil:=by
 intro pins s σ H vs us Q I r h;obtain⟨e,h⟩:=h;subst e;cases r;exact assignInOrder_nil ⟨σ,H,I,h⟩
theorem Sw{e:Expr}{es:List Expr}{t:TG}{u:TGs}(h1:PG X e t)(h2:PGs X es u)
  (hs:(Zw (e::es) X.env).map (·.2)=assign e X.env::(Zw es X.env).map (·.2):=by rfl):PGs X (e::es) (Ie t u):=by
 intro pins s σ H vs us Q I r h;obtain⟨v,vr,e1,h⟩:=h;subst e1;cases r with
 |cons r rr=>
  rw[hs];refine assignInOrder_cons (thn (h1 pins s σ H _ _ _ I r h) λ_ s1 ⟨σ1,H1,I1,q1⟩=>?_);exact h2 pins s1 σ1 H1 _ _ Q I1 rr q1
def gTup(K:X4)(n:Nat)(t:TGs):TG:=λv σ H Q=>∃a xs,v=.ref a/\SqT K H a xs/\xs.length=n/\t xs σ H Q
theorem Sx{k:Nat}{t:TGs}(hc:X.calm=true)(h:PGs X es t)
  (hn:(Zw es X.env).length=n:=by rfl) (hst:(Zw es X.env).findIdx? (·.1)=none:=by rfl):PG X (.Tuple es k pos) (gTup X.K n t):=by
 intro pins s σ H v u Q I r hw;obtain⟨a,xs,e1,hq,hl,hw⟩:=hw;subst e1;cases r;obtain⟨its,rv,ht,hz⟩:=I.tuple hq;refine assign_Tuple_tuple (I.ok.hd hc) ht (by simp[hn,<- hl,rv.length]) hst λh' hx=>?_
 have I1:Inv X pins σ H {s with heap:=h'}:=I.kept (t':=s.toks) λb o e=>hx b o (XC (Xu e)) e;exact h pins _ σ H xs _ Q I1 (by simpa using rv) hw
noncomputable def gSub(to ti:TE)(t:TSet):TG:=λv σ H Q=>to σ H λo H1=>ti σ H1 λi H2=>t o i v H2 λH3=>Q σ H3
theorem Sy{o i:Expr}{to ti:TE}{t:TSet}(ho:PE X o to)(hi:PE X i ti)(hs:PSet X t)
  (ha:∀v,assign (.Subscript o i pos) X.env v=(do
   let ov<- Z4 [v] (eval o X.env)
   let iv<- Z4 [v,ov] (eval i X.env)
   standAt pos
   Z4 [v,ov,iv] (setItem ov iv v)
   release [v,ov,iv] []):=by intro _;rfl):PG X (.Subscript o i pos) (gSub to ti t):=by
 intro pins s σ H v u Q I r h;rw[ha];refine X1 (YH (thn (ho pins s σ H _ I h) λov s1 ⟨x,H1,I1,r1,q1⟩=>?_));refine X1 (YH (thn (hi pins s1 σ H1 _ I1 q1) λiv s2 ⟨y,H2,I2,r2,q2⟩=>?_));refine X1 (wpAny_standAt (X1 (YH (thn (hs pins s2 σ H2 x y v ov iv u _ I2 r1 r2 r q2) λ_ s3 ⟨H3,I3,q3⟩=>?_))));exact wpAny_release ⟨σ,H3,I3,q3⟩
def tAsg(te:TE)(g:TG):TS:=λD σ H=>te σ H λx H1=>g x σ H1 D.nx
theorem Ig{tg e:Expr}{te:TE}{g:TG}(he:PE X e te)(hg:PG X tg g)(hs:swapsWithSole [tg] e pos.line X.env=pure false:=by rfl)(hw:swappedStores [tg] e X.env=pure none:=by rfl)
  (h1:(Zw [tg] X.env).map (·.2)=[assign tg X.env]:=by rfl):PS X (.Assign [tg] e pos) (tAsg te g):=by
 intro pins s σ H D I h;refine wpAny_Assign_stores (thn (he pins s σ H _ I h) λv s1 ⟨x,H1,I1,r1,q1⟩=>?_) hs hw;rw[h1];exact thn (hg pins s1 σ H1 x v _ I1 r1 q1) λ_ s2 q=>q
theorem Ih{i:Nat}{x:Str}{e:Expr}{te:TE}{pos':Pos}(hN:X.N.Nodup)(hi:X.N[i]?=some x) (hx:Loc X.env.scope x) (he:PE X e te) (hs:Zv e (some (.Name x pos')) pos.line X.env=pure false:=by rfl) (hf:X.fn x=true\/X.env.scope.names.lookup x=some .local:=by first|exact .inl rfl|exact .inr rfl|assumption):
  PS X (.Assign [.Name x pos'] e pos) (tAsg te (Cm i)):=by
 intro pins s σ H D I h;refine wpAny_Assign_Name (thn (he pins s σ H _ I h) λv s1 ⟨y,H1,I1,r1,q1⟩=>?_) hs;exact Ia I1 hN hi hx r1 (λs2 I2=>⟨_,H1,I2,q1⟩) hf
end
section
variable{X:Cx}{pos:Pos}
def Sz(c:TT)(tb:TS):TS:=λD σ H=>∃W:Nat->St->Hp->Prop,(∃m,W m σ H)/\∀m σ H,W m σ H->
 c σ H λb H1=>if b=true then∃N:St->Hp->Prop,(∀σ' H',N σ' H'->∃m',m'<m/\W m' σ' H')/\tb {D with nx:=N,ct:=N,bk:=D.nx} σ H1 else D.nx σ H1
theorem SA{c:Expr}{body:List Stmt}{tc:TT}{tb:TS}(hp:PassesOwn (X6 X.prog X.w) X.A X.env X.xe)(hc:PT X c tc)(hb:PSs X body tb):PS X (.While c body [] pos) (Sz tc tb):=by
 intro pins s σ H D I h;obtain⟨W,⟨m0,w0⟩,turn⟩:=h;refine wpAny_While (codeAny_whileLoop (λn s'=>∃σ' H',Inv X pins σ' H' s'/\W n σ' H') ?_ m0 ⟨σ,H,I,w0⟩);rintro n s1 ⟨σ1,H1,I1,w1⟩;refine UT hp (thn (hc pins s1 σ1 H1 _ I1 (turn n σ1 H1 w1)) λb s2 ⟨H2,I2,q2⟩=>?_);cases b with
 |true=>
  obtain⟨N,hN,q2⟩:=q2;rw[if_pos rfl];refine UT hp (thn (hb pins s2 σ1 H2 _ I2 q2) λf s3 q3=>?_);cases f with
  |next=>
   obtain⟨σ3,H3,I3,n3⟩:=q3;obtain⟨m',hm,w3⟩:=hN σ3 H3 n3;exact⟨m',hm,σ3,H3,I3,w3⟩
  |cont=>
   obtain⟨σ3,H3,I3,n3⟩:=q3;obtain⟨m',hm,w3⟩:=hN σ3 H3 n3;exact⟨m',hm,σ3,H3,I3,w3⟩
  |brk=>exact q3
  |ret v=>exact q3
 |false=>
  rw[if_neg Xx];exact wpAny_execs_nil ⟨σ1,H2,I2,q2⟩
end
structure It where
 go:Nat->Hp->Prop
 yld:Nat->Hp->V->Hp->Prop
 stop:Nat->Hp->Prop
def FpOk(X:Cx)(pins:List (Addr×Obj))(H:Hp)(b:Addr):Prop:=
 H b=none/\b≠X.env.locals/\b∉X.fs/\(b∈X.ex\/X.s₀.heap.objs.size≤b)/\(∀x c,X.env.cells.lookup x=some c->c≠b)/\∀p∈X.pn++pins,p.1≠b
theorem Inv.fpOk(I:Inv X pins σ H s)(hb:s.heap.objs.size≤b)(hn:H' b=none):FpOk X pins H' b:=by
 refine⟨hn,V3 (YC I.lt hb),I.nofs hb,.inr (Y4 I.sz hb),λx c e z=>?_,λp hp z=>?_⟩
 ·obtain⟨v,q⟩:=I.cell x c e;exact absurd (YC q.lt (by rw[z];exact hb)) (V2 _)
 ·exact absurd (YC (Xu (I.pin p hp).1) (by rw[z];exact hb)) (V2 _)
structure Turn (P:Xv) (w:Xm) (K:X4) (tg:Expr) (J:It) (fp:List Addr) (it:Addr) (tn:Nat->Heap->Prop):Prop where
 mem:it∈fp
 obj:∀i h,tn i h->∀b∈fp,∃o,h.get? b=some o/\∀v,o.data≠.cell v
 keep:∀i h h',tn i h->(∀b∈fp,∀o,h.get? b=some o->h'.get? b=some o)->tn i h'
 item:∀(X:Cx),X.prog=P->X.w=w->X.K=K->X.calm=true->∀(i:Nat) (pins:List (Addr×Obj)) (s:X2) (σ:St) (H:Hp) (E:X0->X2->Prop),Inv X pins σ H s->(∀b∈fp,FpOk X pins H b)->tn i s.heap->J.go i H->
  X3 (X6 P w) X.A (pyNext (.ref it)) (λr s1=>∃u,r=some u/\
   X3 (X6 P w) X.A (Bt tg (.ref it) u) (λ_ s2=>∃x H',Inv X pins σ H' s2/\RelV x u/\J.yld i H x H'/\tn (i+1) s2.heap/\∀b∈fp,H' b=none) E s1) E s
 done:∀(X:Cx),X.prog=P->X.w=w->X.K=K->X.calm=true->∀(i:Nat) (pins:List (Addr×Obj)) (s:X2) (σ:St) (H:Hp) (E:X0->X2->Prop),Inv X pins σ H s->(∀b∈fp,FpOk X pins H b)->tn i s.heap->J.stop i H->
  X3 (X6 P w) X.A (pyNext (.ref it)) (λr s1=>r=none/\Inv X pins σ H s1) E s
 self:∀(A:XB) (i:Nat) (s:X2) (Q:X0->X2->Prop) (E:X0->X2->Prop),tn i s.heap->Q (.ref it) s->X3 (X6 P w) A (pyIter (.ref it)) Q E s
abbrev TI:=St->Hp->(It->Hp->Prop)->Prop
def PIE(X:Cx)(pins:List (Addr×Obj))(σ:St)(tg:Expr)(R:It->Hp->Prop)(itv:X0)(s2:X2):Prop:=
 ∃(it:Addr) (fp:List Addr) (tn:Nat->Heap->Prop) (J:It) (H':Hp),itv=.ref it/\Inv X pins σ H' s2/\Turn X.prog X.w X.K tg J fp it tn/\tn 0 s2.heap/\(∀b∈fp,FpOk X pins H' b)/\R J H'
def PI(X:Cx)(tg iter:Expr)(wi:TI):Prop:=
 ∀(pins:List (Addr×Obj)) (s:X2) (σ:St) (H:Hp) (R:It->Hp->Prop),Inv X pins σ H s->wi σ H R->
  X3 (X6 X.prog X.w) X.A (eval iter X.env) (λv s1=>X3 (X6 X.prog X.w) X.A (pyIter v) (PIE X pins σ tg R) X.xe s1) X.xe s
theorem Vb(ho:s.heap.get? it=some o)(hc:o.cls=.type n)(hd:o.data=.fields vs)
  (hn:["enumerate","zip","dict_itemiterator","dict_reverseitemiterator","odict_iterator","itertools.zip_longest","itertools.pairwise"].contains n=false) (hQ:Q () s):X3 M A (Bt tg (.ref it) u) Q E s:=by
 unfold Bt;cases tg<;>first
  |exact X8 hQ
  |(cases u<;>first
    |exact X8 hQ
    |(refine X1 (Vp ho ?_)
      rw[hc,hd];show X3 M A (if(["enumerate","zip","dict_itemiterator","dict_reverseitemiterator","odict_iterator","itertools.zip_longest","itertools.pairwise"].contains n&&vs[0]?==some (Y2 _))=true then _ else _) Q E s;rw[if_neg (by intro h;rw[hn,Wz]at h;cases h)]
      exact X8 hQ))
def Itl(K:X4)(a:Addr):It:=
 ⟨λi H=>∃xs x,SqL K H a xs/\xs[i]?=some x,λi H x H'=>H'=H/\∀xs,SqL K H a xs->xs[i]?=some x,λi H=>∃xs,SqL K H a xs/\xs.length≤i⟩
def Itt(K:X4)(a:Addr):It:=
 ⟨λi H=>∃xs x,SqT K H a xs/\xs[i]?=some x,λi H x H'=>H'=H/\∀xs,SqT K H a xs->xs[i]?=some x,λi H=>∃xs,SqT K H a xs/\xs.length≤i⟩
noncomputable def Itr(lo:Int)(n:Nat):It:=⟨λi _=>i<n,λi H x H'=>H'=H/\x=.int (lo+i),λi _=>n≤i⟩
theorem SC{K:X4}(a it:Addr):Turn P w K tg (Itl K a) [it] it (λi h=>h.IsListIter it a i)where
 mem:=by simp
 obj:=λi h st b hb=>by
  have e:b=it:=by simpa using hb
  subst e;obtain⟨o,e,c,d⟩:=st;exact⟨o,e,λv z=>by rw[d]at z;cases z⟩
 keep:=λi h h' st k=>st.at λo e=>k it (by simp) o e
 item:=by
  intro X hP hw hK hc i pins s σ H E I hf st hg;subst hP hw hK;obtain⟨xs,x,hq,hx⟩:=hg;obtain⟨its,rv,p,hz⟩:=I.list hq;obtain⟨u,hu,ru⟩:=rv.get hx;obtain⟨f0,f1,f2,f3,f4,f5⟩:=hf it (by simp)
  refine wpAny_pyNext_list_item st p.isList (x:=u) (by simpa using hu) λh' st' sb=>?_
  have I1:Inv X pins σ H {s with heap:=h'}:=I.turned (t':=s.toks) (λb o hb e=>(sb.2 b hb).trans e) f0 f1 f3 f4 f5;obtain⟨o,e,c,d⟩:=id st';exact⟨u,rfl,Vb (s:={s with heap:=h'}) e c d (by decide) ⟨x,H,I1,ru,⟨rfl,λys hy=>by rw[I.list_inj hy hq];exact hx⟩,st',λb hb=>(hf b hb).1⟩⟩
 done:=by
  intro X hP hw hK hc i pins s σ H E I hf st hg;subst hP hw hK;obtain⟨xs,hq,hx⟩:=hg;obtain⟨its,rv,p,hz⟩:=I.list hq;obtain⟨f0,f1,f2,f3,f4,f5⟩:=hf it (by simp)
  have hl:=rv.length;exact wpAny_pyNext_list_end (I.ok.hd hc) st p.isList (by simp;lia) λh' eb=>⟨rfl,I.turned (t':=s.toks) (λb o hb e=>eb b o hb e) f0 f1 f3 f4 f5⟩
 self:=λ_ _ _ _ _ st h=>wpAny_pyIter_listiter st h
theorem SD{K:X4}(a it:Addr):Turn P w K tg (Itt K a) [it] it (λi h=>h.IsTupleIter it a i)where
 mem:=by simp
 obj:=λi h st b hb=>by
  have e:b=it:=by simpa using hb
  subst e;obtain⟨o,e,c,d⟩:=st;exact⟨o,e,λv z=>by rw[d]at z;cases z⟩
 keep:=λi h h' st k=>st.at λo e=>k it (by simp) o e
 item:=by
  intro X hP hw hK hc i pins s σ H E I hf st hg;subst hP hw hK;obtain⟨xs,x,hq,hx⟩:=hg;obtain⟨its,rv,p,hz⟩:=I.tuple hq;obtain⟨u,hu,ru⟩:=rv.get hx;obtain⟨f0,f1,f2,f3,f4,f5⟩:=hf it (by simp)
  refine wpAny_pyNext_tuple_item st (show s.heap.IsTuple a its.toArray from p) (x:=u) (by simpa using hu) λh' st' sb=>?_
  have I1:Inv X pins σ H {s with heap:=h'}:=I.turned (t':=s.toks) (λb o hb e=>(sb.2 b hb).trans e) f0 f1 f3 f4 f5;obtain⟨o,e,c,d⟩:=id st';exact⟨u,rfl,Vb (s:={s with heap:=h'}) e c d (by decide) ⟨x,H,I1,ru,⟨rfl,λys hy=>by rw[I.tuple_inj hy hq];exact hx⟩,st',λb hb=>(hf b hb).1⟩⟩
 done:=by
  intro X hP hw hK hc i pins s σ H E I hf st hg;subst hP hw hK;obtain⟨xs,hq,hx⟩:=hg;obtain⟨its,rv,p,hz⟩:=I.tuple hq;obtain⟨f0,f1,f2,f3,f4,f5⟩:=hf it (by simp)
  have hl:=rv.length;exact wpAny_pyNext_tuple_end (I.ok.hd hc) st (show s.heap.IsTuple a its.toArray from p) (by simp;lia) λh' eb=>⟨rfl,I.turned (t':=s.toks) (λb o hb e=>eb b o hb e) f0 f1 f3 f4 f5⟩
 self:=λ_ _ _ _ _ st h=>wpAny_pyIter_tupleiter st h
theorem SE{K:X4}(it:Addr)(lo:Int)(n:Nat):Turn P w K tg (Itr lo n) [it] it (λi h=>IsRangeIter h it (lo+(i:Nat)*1) ((n:Int) - (i:Nat)) 1)where
 mem:=by simp
 obj:=λi h st b hb=>by
  have e:b=it:=by simpa using hb
  subst e;exact⟨_,st,λv z=>by
   have z':ZD _=Data.cell v:=z;cases z'⟩
 keep:=λi h h' st k=>k it (by simp) _ st
 item:=by
  intro X hP hw hK hc i pins s σ H E I hf st hg;subst hP hw hK;obtain⟨f0,f1,f2,f3,f4,f5⟩:=hf it (by simp)
  have W:=Walks.range (prog:=X.prog) (w:=X.w) (I.ok.hd hc) it lo 1 n;refine W.item i s _ _ hg st λv h' tk hv st' kk=>?_;obtain⟨t,rfl⟩:=hv;have I1:Inv X pins σ H {s with heap:=h',toks:=tk}:=I.turned (λb o hb e=>kk b o (by simpa using hb) e) f0 f1 f3 f4 f5
  refine⟨_,rfl,Vb (s:={s with heap:=h',toks:=tk}) (n:="range_iterator") st' rfl rfl (by decide) ⟨.int (lo+i),H,I1,⟨t,?_⟩,⟨rfl,rfl⟩,st',fun b hb=>(hf b hb).1⟩⟩
  rw[Int.mul_one]
 done:=by
  intro X hP hw hK hc i pins s σ H E I hf st hg;subst hP hw hK;obtain⟨f0,f1,f2,f3,f4,f5⟩:=hf it (by simp)
  exact wpAny_pyNext_range_end (I.ok.hd hc) st (by have:n≤i:=hg;lia) λh' eb=>⟨rfl,I.turned (t':=s.toks) (λb o hb e=>eb b o hb e) f0 f1 f3 f4 f5⟩
 self:=λ_ _ _ _ _ st h=>wpAny_pyIter_rangeiter st h
section
variable{X:Cx}{tg:Expr}
theorem Ii{lo:Int}{t:Tok}(I:Inv X pins σ H s)(h1:-(2^62)≤lo)(h2:lo<2^62)(h3:-(2^62)≤hi)(h4:hi<2^62)
  (q:R (Itr lo (hi - lo).toNat) H):X3 (X6 X.prog X.w) X.A (pyIter (.ref s.heap.objs.size)) (PIE X pins σ tg R) E {s with heap:=s.heap.push {cls:=.type "range",data:=.fields #[.int lo t,.int hi u,.int 1 v]},toks:=tk}:=by
 refine wpAny_pyIter_range (E3 ..) (small_one h1 h2 h3 h4) ?_;have I1:Inv X pins σ H {s with heap:=s.heap.push {cls:=.type "range",data:=.fields #[.int lo t,.int hi u,.int 1 v]},toks:=tk}:=I.kept fun b o e=>Xp _ e;refine⟨(s.heap.push {cls:=.type "range",data:=.fields #[.int lo t,.int hi u,.int 1 v]}).objs.size,[(s.heap.push {cls:=.type "range",data:=.fields #[.int lo t,.int hi u,.int 1 v]}).objs.size],_,_,H,rfl,
  I1.kept (t':=tk) λb o e=>Xp _ e,SE _ lo (hi - lo).toNat,?_,λb hb=>?_,q⟩
 ·have e1:lo+((0:Nat):Int)*1=lo:=by simp
  have e2:(((hi - lo).toNat:Nat):Int) - ((0:Nat):Int)=VR lo hi 1:=by rw[rangeSize_one];split<;>lia
  show IsRangeIter _ _ (lo+((0:Nat):Int)*1) ((((hi - lo).toNat:Nat):Int) - ((0:Nat):Int)) 1;rw[e1,e2];exact XM _ rfl
 ·have e:b=(s.heap.push {cls:=.type "range",data:=.fields #[.int lo t,.int hi u,.int 1 v]}).objs.size:=by simpa using hb
  subst e;exact I1.fpOk (Xg _) (I1.hok.fresh (Xg _))
def SF(ta:TA):TI:=λσ H R=>ta σ H λvs H1=>∃j:Int,vs=[.int j]/\ -(2^62)≤j/\j<2^62/\R (Itr 0 j.toNat) H1
def SG(ta:TA):TI:=λσ H R=>ta σ H λvs H1=>∃i j:Int,vs=[.int i,.int j]/\(-(2^62)≤i/\i<2^62/\ -(2^62)≤j/\j<2^62)/\R (Itr i (j - i).toNat) H1
theorem SH{a:Expr}{ta:TA}{p pos:Pos}(hg:Gl X "range")(hm:X.mg "range"=none)(ha:PA X [a] ta)(hs:Xw [a] X.env=[(false,eval a X.env)]:=by rfl):PI X tg (.Call (.Name "range" p) [a] [] pos) (SF ta):=by
 intro pins s σ H R I h;refine Call_ (_F I hg hm boot_range (V8 (thn (ha pos pins s σ H _ I h) λus s1 ⟨vs,H1,I1,r1,q1⟩=>?_) hs rfl));obtain⟨j,e,q1,q2,q⟩:=q1;subst e;cases r1 with
 |cons r rr=>
  cases rr;obtain⟨t,rfl⟩:=r;exact call_range_1 (Ii I1 (by lia) (by lia) q1 q2 (by simpa using q))
theorem SI{a b:Expr}{ta:TA}{p pos:Pos}(hg:Gl X "range")(hm:X.mg "range"=none)(ha:PA X [a,b] ta)(hs:Xw [a,b] X.env=[(false,eval a X.env),(false,eval b X.env)]:=by rfl)(hs2:Xw [b] X.env=[(false,eval b X.env)]:=by rfl):
  PI X tg (.Call (.Name "range" p) [a,b] [] pos) (SG ta):=by
 intro pins s σ H R I h;refine Call_ (_F I hg hm boot_range (V8 (thn (ha pos pins s σ H _ I h) λus s1 ⟨vs,H1,I1,r1,q1⟩=>?_) (by rw[hs,hs2]) (by rw[hs2];rfl)))
 obtain⟨i,j,e,⟨q1,q2,q3,q4⟩,q⟩:=q1;subst e;cases r1 with
 |cons r rr=>
  cases rr with
  |cons r' rr=>
   cases rr;obtain⟨t,rfl⟩:=r;obtain⟨t',rfl⟩:=r';exact call_range_2 (Ii I1 q1 q2 q3 q4 q)
def tFor(wi:TI)(g:TG)(tb:TS):TS:=λD σ H=>wi σ H λJ H1=>∃W:Nat->Nat->St->Hp->Prop,(∃m,W 0 m σ H1)/\∀i m σ H,W i m σ H->
 (J.stop i H/\D.nx σ H)\/(J.go i H/\∃N:St->Hp->Prop,(∀σ' H',N σ' H'->∃m',m'<m/\W (i+1) m' σ' H')/\∀x H',J.yld i H x H'->g x σ H' λσ2 H2=>tb {D with nx:=N,ct:=N,bk:=D.nx} σ2 H2)
noncomputable def VX(fp:List Addr)(h:Heap):List (Addr×Obj):=fp.filterMap λb=>(h.get? b).map λo=>(b,o)
theorem Cn(hb:b∈fp)(e:h.get? b=some o):(b,o)∈VX fp h:=List.mem_filterMap.mpr ⟨b,hb,by rw[e];rfl⟩
theorem SJ(hp:p∈VX fp h):p.1∈fp/\h.get? p.1=some p.2:=by
 obtain⟨b,hb,e⟩:=List.mem_filterMap.mp hp;cases q:h.get? b with
 |none=>rw[q]at e;cases e
 |some o=>
  rw[q]at e;have e':(b,o)=p:=Yb e;subst e';exact⟨hb,q⟩
theorem Inv.pinned(I:Inv X pins σ H s)(hf:∀b∈fp,FpOk X pins H b)(ho:∀b∈fp,∃o,s.heap.get? b=some o/\∀v,o.data≠.cell v):Inv X (pins++VX fp s.heap) σ H s:=
 I.pins_of λp hp=>(YJ.mp hp).elim (λz=>I.pin p (Zz _ z)) λz=>by
  obtain⟨hb,e⟩:=SJ z;obtain⟨f0,f1,f2,_⟩:=hf p.1 hb;obtain⟨o,e',d⟩:=ho p.1 hb;rw[e]at e';cases e';exact⟨e,f0,f1,f2,d⟩
theorem Inv.unpinned(I:Inv X (pins++pl) σ H s):Inv X pins σ H s:=I.pins_of λp hp=>I.pin p (Zz _ (List.mem_append_left _ hp))
theorem SK{iter:Expr}{body:List Stmt}{wi:TI}{g:TG}{tb:TS}{pos:Pos}(hp:PassesOwn (X6 X.prog X.w) X.A X.env X.xe)(hc:X.calm=true)(hi:PI X tg iter wi)(hg:PG X tg g)(hb:PSs X body tb)
  (hs:∀x,Bu iter X.env x=pure x:=by intro _;rfl):PS X (.For tg iter body [] pos) (tFor wi g tb):=by
 intro pins s σ H D I h;refine wpAny_For (thn (hi pins s σ H _ I h) λv s1 h1=>thn h1 λitv s2 h2=>?_) hs;obtain⟨it,fp,tn,J,H2,e,I2,T,st2,f2,W,⟨m0,w0⟩,turn⟩:=h2;subst e;have stat:∀{H':Hp},(∀b∈fp,H' b=none)->∀b∈fp,FpOk X pins H' b:=λhn b hb=>⟨hn b hb,(f2 b hb).2⟩;refine codeAny_forLoop_any (λn s'=>∃i σ' H',Inv X pins σ' H' s'/\tn i s'.heap/\(∀b∈fp,H' b=none)/\W i n σ' H') ?_ m0 ⟨0,σ,H2,I2,st2,λb hb=>(f2 b hb).1,w0⟩;rintro n s3 ⟨i,σ3,H3,I3,st3,fr3,w3⟩;rcases turn i n σ3 H3 w3 with⟨stop,qn⟩|⟨go,N,hN,step⟩
 ·refine UT hp (thn (T.done X rfl rfl rfl hc i pins s3 σ3 H3 X.xe I3 (stat fr3) st3 stop) λr s4 ⟨hr,I4⟩=>?_);subst hr;exact wpAny_execs_nil ⟨σ3,H3,I4,qn⟩
 ·refine UT hp (thn (T.item X rfl rfl rfl hc i pins s3 σ3 H3 X.xe I3 (stat fr3) st3 go) λr s4 ⟨u,hr,h4⟩=>?_);subst hr;refine UT hp (thn h4 λ_ s5 ⟨x,H5,I5,r5,y5,st5,fr5⟩=>?_);have I5':=I5.pinned (stat fr5) (T.obj _ _ st5);refine UT hp (thn (hg _ s5 σ3 H5 x u _ I5' r5 (step x H5 y5)) λ_ s6 ⟨σ6,H6,I6,q6⟩=>?_);refine UT hp (thn (hb _ s6 σ6 H6 _ I6 q6) λf s7 q7=>?_);have again:∀{σ7:St} {H7:Hp},Inv X (pins++VX fp s5.heap) σ7 H7 s7->N σ7 H7->∃m,m<n/\∃i σ' H',Inv X pins σ' H' s7/\tn i s7.heap/\(∀b∈fp,H' b=none)/\W i m σ' H':=fun{σ7 H7} I7 n7=>by
   obtain⟨m',hm,w7⟩:=hN σ7 H7 n7;refine⟨m',hm,i+1,σ7,H7,I7.unpinned,T.keep _ _ _ st5 λb hb o e=>(I7.pin (b,o) (Zz _ (Zz _ (Cn hb e)))).1,λb hb=>?_,w7⟩;obtain⟨o,e,d⟩:=T.obj _ _ st5 b hb;exact(I7.pin (b,o) (Zz _ (Zz _ (Cn hb e)))).2.1
  cases f with
  |next=>obtain⟨σ7,H7,I7,n7⟩:=q7;exact again I7 n7
  |cont=>obtain⟨σ7,H7,I7,n7⟩:=q7;exact again I7 n7
  |brk=>obtain⟨σ7,H7,I7,q7⟩:=q7;exact⟨σ7,H7,I7.unpinned,q7⟩
  |ret v=>obtain⟨x7,σ7,H7,I7,r7,q7⟩:=q7;exact⟨x7,σ7,H7,I7.unpinned,r7,q7⟩
end
abbrev R2:=V->V->Hp->VK->Prop
def OpR(X:Cx)(f:X0->X0->Sem X0)(r:R2):Prop:=
 ∀(pins:List (Addr×Obj)) (s:X2) (σ:St) (H:Hp) (x y:V) (v u:X0) (Q:VK),Inv X pins σ H s->RelV x v->RelV y u->r x y H Q->
  X3 (X6 X.prog X.w) X.A (f v u) (EP X pins σ Q) X.xe s
def UnR(X:Cx)(f:X0->Sem X0)(r:V->Hp->VK->Prop):Prop:=
 ∀(pins:List (Addr×Obj)) (s:X2) (σ:St) (H:Hp) (x:V) (v:X0) (Q:VK),Inv X pins σ H s->RelV x v->r x H Q->
  X3 (X6 X.prog X.w) X.A (f v) (EP X pins σ Q) X.xe s
def Yg(X:Cx)(f:X0)(r:List V->Hp->VK->Prop):Prop:=
 ∀(pins:List (Addr×Obj)) (s:X2) (σ:St) (H:Hp) (xs:List V) (us:List X0) (Q:VK),Inv X pins σ H s->Vals xs us->r xs H Q->
  X3 (X6 X.prog X.w) X.A (call f us) (EP X pins σ Q) X.xe s
def tOp(r:R2)(ta tb:TE):TE:=λσ H Q=>ta σ H λx H1=>tb σ H1 λy H2=>r x y H2 Q
def tUn(r:V->Hp->VK->Prop)(ta:TE):TE:=λσ H Q=>ta σ H λx H1=>r x H1 Q
noncomputable def rI(C:Int->Int->Prop)(g:Int->Int->V):R2:=λx y H Q=>∃i j,x=.int i/\y=.int j/\C i j/\Q (g i j) H
def rI0(g:Int->Int->V):R2:=λx y H Q=>∃i j,x=.int i/\y=.int j/\Q (g i j) H
def rU(g:Int->V):V->Hp->VK->Prop:=λx H Q=>∃i,x=.int i/\Q (g i) H
section
variable{X:Cx}{a b c:Expr}{ta tb tc:TE}{pos:Pos}
theorem binT(ha:PE X a ta)(hb:PE X b tb){pins:List (Addr×Obj)}{s:X2}{σ:St}{H:Hp}{R:V->V->Hp->Prop}(I:Inv X pins σ H s)
  (h:ta σ H λx H1=>tb σ H1 λy H2=>R x y H2) {Q:X0->X2->Prop} {f:X0->X0->Sem X0}
  (hf:∀v u s2 x y H2,Inv X pins σ H2 s2->RelV x v->RelV y u->R x y H2->X3 (X6 X.prog X.w) X.A (f v u) Q X.xe s2):
  X3 (X6 X.prog X.w) X.A (eval a X.env) (λv s₁=>X3 (X6 X.prog X.w) X.A (eval b X.env) (λu s₂=>X3 (X6 X.prog X.w) X.A (f v u) Q X.xe s₂) X.xe s₁) X.xe s:=by
 refine thn (ha pins s σ H _ I h) λv s1 ⟨x,H1,I1,r1,q1⟩=>?_;refine thn (hb pins s1 σ H1 _ I1 q1) λu s2 ⟨y,H2,I2,r2,q2⟩=>?_;exact hf v u s2 x y H2 I2 r1 r2 q2
theorem SL{op:Uv}{r:R2}(ho:OpR X (Yi op) r)(ha:PE X a ta)(hb:PE X b tb):PE X (.BinOp a op b pos) (tOp r ta tb):=by
 intro pins s σ H Q I h;exact wpAny_BinOp (binT ha hb I h λv u s2 x y H2 I2 rx ry q=>ho pins s2 σ H2 x y v u Q I2 rx ry q)
theorem SM{op:UnaryOp}{r:V->Hp->VK->Prop}(ho:UnR X (unaryOp op) r)(ha:PE X a ta):PE X (.UnaryOp op a pos) (tUn r ta):=by
 intro pins s σ H Q I h;exact UnaryOp_ (thn (ha pins s σ H _ I h) λv s1 ⟨x,H1,I1,r1,q1⟩=>ho pins s1 σ H1 x v Q I1 r1 q1)
theorem opI{f:X0->X0->Sem X0}{C:Int->Int->Prop}{g:Int->Int->Int}
  (rule:∀(i j:Int) (t u:Tok) (s:X2) (Q:X0->X2->Prop) (E:X0->X2->Prop),C i j->Q (.int (g i j) s.toks) {s with toks:=s.toks+1}->X3 (X6 X.prog X.w) X.A (f (.int i t) (.int j u)) Q E s):
  OpR X f (rI C λi j=>.int (g i j)):=by
 intro pins s σ H x y v u Q I rx ry h;obtain⟨i,j,rfl,rfl,hc,q⟩:=h;obtain⟨t,rfl⟩:=rx;obtain⟨t',rfl⟩:=ry;exact rule i j t t' s _ _ hc ⟨.int (g i j),H,I.tok _,⟨_,rfl⟩,q⟩
theorem opI0{f:X0->X0->Sem X0}{g:Int->Int->Int}
  (rule:∀(i j:Int) (t u:Tok) (s:X2) (Q:X0->X2->Prop) (E:X0->X2->Prop),Q (.int (g i j) s.toks) {s with toks:=s.toks+1}->X3 (X6 X.prog X.w) X.A (f (.int i t) (.int j u)) Q E s):
  OpR X f (rI0 λi j=>.int (g i j)):=by
 intro pins s σ H x y v u Q I rx ry h;obtain⟨i,j,rfl,rfl,q⟩:=h;obtain⟨t,rfl⟩:=rx;obtain⟨t',rfl⟩:=ry;exact rule i j t t' s _ _ ⟨.int (g i j),H,I.tok _,⟨_,rfl⟩,q⟩
theorem opB0{f:X0->X0->Sem X0}{g:Int->Int->Bool}
  (rule:∀(i j:Int) (t u:Tok) (s:X2) (Q:X0->X2->Prop) (E:X0->X2->Prop),Q (.bool (g i j)) s->X3 (X6 X.prog X.w) X.A (f (.int i t) (.int j u)) Q E s):
  OpR X f (rI0 λi j=>.bl (g i j)):=by
 intro pins s σ H x y v u Q I rx ry h;obtain⟨i,j,rfl,rfl,q⟩:=h;obtain⟨t,rfl⟩:=rx;obtain⟨t',rfl⟩:=ry;exact rule i j t t' s _ _ ⟨.bl (g i j),H,I,rfl,q⟩
def CPow(i j:Int):Prop:=0≤j/\j≤1000000/\i.natAbs<2^64
def CMul(i j:Int):Prop:=(-(2^64)<i/\i<2^64)\/(-(2^64)<j/\j<2^64)
theorem CMul.ok(h:CMul i j):IntMulOk i j:=by
 rcases h with⟨h1,h2⟩|⟨h1,h2⟩
 ·exact .of_left (intBits_le_64 h1 h2)
 ·exact .of_right (intBits_le_64 h1 h2)
theorem SN:OpR X (Yi .Add) (rI0 λi j=>.int (i+j)):=opI0 λ_ _ _ _ _ _ _ q=>add_int q
theorem SO:OpR X (Yi .Sub) (rI0 λi j=>.int (i - j)):=opI0 λ_ _ _ _ _ _ _ q=>sub_int q
theorem SQ:OpR X (Yi .Mult) (rI CMul λi j=>.int (i*j)):=opI λ_ _ _ _ _ _ _ hc q=>mul_int q hc.ok
theorem SR:OpR X (Yi .Mod) (rI (λ_ j=>0<j) λi j=>.int (i%j)):=opI λi j _ _ _ _ _ hc q=>by
 have h1:(0:Int)<j:=hc;exact mod_int' (by lia) (by rw[Int.fmod_eq_emod_of_nonneg i (by lia)];exact q)
theorem SS:OpR X (Yi .Pow) (rI CPow λi j=>.int (i^j.toNat)):=opI λ_ _ _ _ _ _ _ hc q=>pow_int_small hc.1 hc.2.1 hc.2.2 q
theorem ST:OpR X (Yi .LShift) (rI CPow λi j=>.int (i*2^j.toNat)):=opI λ_ _ _ _ _ _ _ hc q=>lshift_int_small hc.1 hc.2.1 hc.2.2 q
theorem SU:OpR X (Yi .BitAnd) (rI0 λi j=>.int (Cj i j)):=opI0 λ_ _ _ _ _ _ _ q=>and_int q
theorem SV:OpR X (Yi .BitXor) (rI0 λi j=>.int (Ck i j)):=opI0 λ_ _ _ _ _ _ _ q=>xor_int q
theorem unI{f:X0->Sem X0}{g:Int->Int}
  (rule:∀(i:Int) (t:Tok) (s:X2) (Q:X0->X2->Prop) (E:X0->X2->Prop),Q (.int (g i) s.toks) {s with toks:=s.toks+1}->X3 (X6 X.prog X.w) X.A (f (.int i t)) Q E s):
  UnR X f (rU λi=>.int (g i)):=by
 intro pins s σ H x v Q I rx h;obtain⟨i,rfl,q⟩:=h;obtain⟨t,rfl⟩:=rx;exact rule i t s _ _ ⟨.int (g i),H,I.tok _,⟨_,rfl⟩,q⟩
theorem SW:UnR X (unaryOp .USub) (rU λi=>.int (-i)):=unI λ_ _ _ _ _ q=>neg_int q
end
noncomputable def scal:V->V->Bool
 |.non,.non=>true|.non,.int _=>true|.int _,.non=>true|.non,.bl _=>true|.bl _,.non=>true|.non,.str _=>true|.str _,.non=>true
 |.int _,.int _=>true|.bl _,.bl _=>true|.str _,.str _=>true|.byt _,.byt _=>true
 |.int _,.str _=>true|.str _,.int _=>true|.bl _,.str _=>true|.str _,.bl _=>true
 |_,_=>false
def rEq:R2:=λx y H Q=>scal x y=true/\Q (.bl (decide (x=y))) H
def rNe:R2:=λx y H Q=>scal x y=true/\Q (.bl (!decide (x=y))) H
theorem Ij:decide (V.int i=V.int j)=(i==j):=by
 rw[BP];simp
theorem Ik:decide (V.bl i=V.bl j)=(i==j):=by
 rw[BP];simp
theorem Il:decide (V.str i=V.str j)=(i==j):=by
 rw[BP];simp
theorem Im:decide (V.byt i=V.byt j)=(i.toList==j.toList):=by
 rw[BP];cases i;cases j;simp
section
variable{X:Cx}{a b c:Expr}{ta tb tc:TE}{pos:Pos}
theorem XH{k:Bool}(I:Inv X pins σ H s)(q:Q (.bl k) H)(e:k=k'):EP X pins σ Q (.bool k') s:=by
 subst e;exact⟨.bl k,H,I,rfl,q⟩
theorem SX:OpR X (Y0 .Eq) rEq:=by
 intro pins s σ H x y v u Q I rx ry h;obtain⟨hs,q⟩:=h;cases x with
 |non=>
  cases rx;cases y with
  |non=>cases ry;exact PySem.EqNone.eq_none_none (XH I q (by simp))
  |bl j=>cases ry;exact PySem.EqNone.eq_none_bool (XH I q (by simp))
  |int j=>obtain⟨t',rfl⟩:=ry;exact PySem.EqNone.eq_none_int (XH I q (by simp))
  |str j=>obtain⟨t',rfl⟩:=ry;exact PySem.EqNone.eq_none_str (XH I q (by simp))
  |_=>exact absurd (show false=true from hs) Xx
 |bl i=>
  cases rx;cases y with
  |non=>cases ry;exact PySem.EqNone.eq_bool_none (XH I q (by simp))
  |bl j=>cases ry;exact eq_bool (XH I q Ik)
  |str j=>obtain⟨t',rfl⟩:=ry;exact PySem.EqMixed.eq_bool_str (XH I q (by simp))
  |_=>exact absurd (show false=true from hs) Xx
 |int i=>
  obtain⟨t,rfl⟩:=rx;cases y with
  |non=>cases ry;exact PySem.EqNone.eq_int_none (XH I q (by simp))
  |int j=>obtain⟨t',rfl⟩:=ry;exact eq_int (XH I q Ij)
  |str j=>obtain⟨t',rfl⟩:=ry;exact PySem.EqMixed.eq_int_str (XH I q (by simp))
  |_=>exact absurd (show false=true from hs) Xx
 |str i=>
  obtain⟨t,rfl⟩:=rx;cases y with
  |non=>cases ry;exact PySem.EqNone.eq_str_none (XH I q (by simp))
  |bl j=>cases ry;exact PySem.EqMixed.eq_str_bool (XH I q (by simp))
  |int j=>obtain⟨t',rfl⟩:=ry;exact PySem.EqMixed.eq_str_int (XH I q (by simp))
  |str j=>obtain⟨t',rfl⟩:=ry;exact eq_str (XH I q Il)
  |_=>exact absurd (show false=true from hs) Xx
 |byt i=>
  obtain⟨t,rfl⟩:=rx;cases y with
  |byt j=>obtain⟨t',rfl⟩:=ry;exact PySem.W.eq_bytes (XH I q Im)
  |_=>exact absurd (show false=true from hs) Xx
 |_=>cases y<;>exact absurd (show false=true from hs) Xx
theorem SY:OpR X (Y0 .NotEq) rNe:=by
 intro pins s σ H x y v u Q I rx ry h;obtain⟨hs,q⟩:=h;cases x with
 |non=>
  cases rx;cases y with
  |non=>cases ry;exact PySem.EqNone.ne_none_none (XH I q (by simp))
  |bl j=>cases ry;exact PySem.EqNone.ne_none_bool (XH I q (by simp))
  |int j=>obtain⟨t',rfl⟩:=ry;exact PySem.EqNone.ne_none_int (XH I q (by simp))
  |str j=>obtain⟨t',rfl⟩:=ry;exact PySem.EqNone.ne_none_str (XH I q (by simp))
  |_=>exact absurd (show false=true from hs) Xx
 |bl i=>
  cases rx;cases y with
  |non=>cases ry;exact PySem.EqNone.ne_bool_none (XH I q (by simp))
  |bl j=>cases ry;exact ne_bool (XH I q (congrArg not Ik))
  |str j=>obtain⟨t',rfl⟩:=ry;exact PySem.EqMixed.ne_bool_str (XH I q (by simp))
  |_=>exact absurd (show false=true from hs) Xx
 |int i=>
  obtain⟨t,rfl⟩:=rx;cases y with
  |non=>cases ry;exact PySem.EqNone.ne_int_none (XH I q (by simp))
  |int j=>obtain⟨t',rfl⟩:=ry;exact ne_int (XH I q (congrArg not Ij))
  |str j=>obtain⟨t',rfl⟩:=ry;exact PySem.EqMixed.ne_int_str (XH I q (by simp))
  |_=>exact absurd (show false=true from hs) Xx
 |str i=>
  obtain⟨t,rfl⟩:=rx;cases y with
  |non=>cases ry;exact PySem.EqNone.ne_str_none (XH I q (by simp))
  |bl j=>cases ry;exact PySem.EqMixed.ne_str_bool (XH I q (by simp))
  |int j=>obtain⟨t',rfl⟩:=ry;exact PySem.EqMixed.ne_str_int (XH I q (by simp))
  |str j=>obtain⟨t',rfl⟩:=ry;exact ne_str (XH I q (congrArg not Il))
  |_=>exact absurd (show false=true from hs) Xx
 |byt i=>
  obtain⟨t,rfl⟩:=rx;cases y with
  |byt j=>obtain⟨t',rfl⟩:=ry;exact PySem.W.ne_bytes (XH I q (congrArg not Im))
  |_=>exact absurd (show false=true from hs) Xx
 |_=>cases y<;>exact absurd (show false=true from hs) Xx
theorem SZ:OpR X (Y0 .Lt) (rI0 λi j=>.bl (decide (i<j))):=opB0 λ_ _ _ _ _ _ _ q=>lt_int q
theorem T0:OpR X (Y0 .LtE) (rI0 λi j=>.bl (decide (i≤j))):=opB0 λ_ _ _ _ _ _ _ q=>le_int q
theorem T1:OpR X (Y0 .Gt) (rI0 λi j=>.bl (decide (j<i))):=opB0 λ_ _ _ _ _ _ _ q=>gt_int q
theorem T2:OpR X (Y0 .GtE) (rI0 λi j=>.bl (decide (j≤i))):=opB0 λ_ _ _ _ _ _ _ q=>ge_int q
theorem T3:OpR X (Y0 .Is) (λx y H Q=>y=.non/\Q (.bl (decide (x=.non))) H):=by
 intro pins s σ H x y v u Q I rx ry h;obtain⟨rfl,q⟩:=h;cases ry;refine is_none_gen (XH I q ?_);cases x<;>first
  |(cases rx;rfl)
  |(obtain⟨t,rfl⟩:=rx;rfl)
theorem T4:OpR X (Y0 .IsNot) (λx y H Q=>y=.non/\Q (.bl (!decide (x=.non))) H):=by
 intro pins s σ H x y v u Q I rx ry h;obtain⟨rfl,q⟩:=h;cases ry;refine isnot_none_gen (XH I q ?_);cases x<;>first
  |(cases rx;rfl)
  |(obtain⟨t,rfl⟩:=rx;rfl)
theorem T5{op:CmpOp}{r:R2}(ho:OpR X (Y0 op) r)(ha:PE X a ta)(hb:PE X b tb)(hm:behindInMarks op b=false):PE X (.Compare a [op] [b] pos) (tOp r ta tb):=by
 intro pins s σ H Q I h;exact wpAny_Compare1 (binT ha hb I h λv u s2 x y H2 I2 rx ry q=>ho pins s2 σ H2 x y v u Q I2 rx ry q) hm
def Io(t:TE):TT:=λσ H Q=>t σ H λx H'=>∃k,x=.bl k/\Q k H'
theorem T6{op:CmpOp}{r:R2}(ho:OpR X (Y0 op) r)(ha:PE X a ta)(hb:PE X b tb)(hm:behindInMarks op b=false):PT X (.Compare a [op] [b] pos) (Io (tOp r ta tb)):=by
 intro pins s σ H Q I h;refine wpAny_isTrue_Compare1 (thn (ha pins s σ H _ I h) λv s1 ⟨x,H1,I1,r1,q1⟩=>thn (hb pins s1 σ H1 _ I1 q1) λu s2 ⟨y,H2,I2,r2,q2⟩=>
  thn (ho pins s2 σ H2 x y v u _ I2 r1 r2 q2) λc s3 ⟨z,H3,I3,r3,k,e,q3⟩=>?_) hm
 subst e;cases r3;exact Zu ⟨H3,I3,q3⟩
noncomputable def E5(r r':R2)(ta tb tc:TE):TE:=λσ H Q=>ta σ H λx H1=>tb σ H1 λy H2=>r x y H2 λz H3=>∃k,z=.bl k/\
 (if k=true then tc σ H3 λw' H4=>r' y w' H4 Q else Q (.bl false) H3)
theorem T7{op op':CmpOp}{r r':R2}(ho:OpR X (Y0 op) r)(ho':OpR X (Y0 op') r')(ha:PE X a ta)(hb:PE X b tb)(hc:PE X c tc)
  (hm:lastMarks [op,op'] [b,c]=false:=by with_unfolding_all rfl):PE X (.Compare a [op,op'] [b,c] pos) (E5 r r' ta tb tc):=by
 intro pins s σ H Q I h;refine Compare_chain (thn (ha pins s σ H _ I h) λv s1 ⟨x,H1,I1,r1,q1⟩=>chain_link (thn (hb pins s1 σ H1 _ I1 q1) λu s2 ⟨y,H2,I2,r2,q2⟩=>
  thn (ho pins s2 σ H2 x y v u _ I2 r1 r2 q2) λd s3 ⟨z,H3,I3,r3,k,e,q3⟩=>?_)) hm
 subst e;cases r3;refine Zu ?_;cases k with
 |false=>exact ite_ff ⟨.bl false,H3,I3,rfl,q3⟩
 |true=>exact ite_tt (chain_last (thn (hc pins s3 σ H3 _ I3 q3) λw' s4 ⟨z',H4,I4,r4,q4⟩=>ho' pins s4 σ H4 y z' u w' Q I4 r2 r4 q4))
theorem T8{op op':CmpOp}{r r':R2}(ho:OpR X (Y0 op) r)(ho':OpR X (Y0 op') r')(ha:PE X a ta)(hb:PE X b tb)(hc:PE X c tc)
  (hm:lastMarks [op,op'] [b,c]=false:=by with_unfolding_all rfl):PT X (.Compare a [op,op'] [b,c] pos) (Io (E5 r r' ta tb tc)):=by
 intro pins s σ H Q I h;refine isTrue_chain (thn (ha pins s σ H _ I h) λv s1 ⟨x,H1,I1,r1,q1⟩=>test_link (thn (hb pins s1 σ H1 _ I1 q1) λu s2 ⟨y,H2,I2,r2,q2⟩=>
  thn (ho pins s2 σ H2 x y v u _ I2 r1 r2 q2) λd s3 ⟨z,H3,I3,r3,k,e,q3⟩=>?_)) hm
 subst e;cases r3;refine Zu ?_;cases k with
 |false=>
  obtain⟨k',e',q'⟩:=q3;cases e';exact ite_ff ⟨H3,I3,q'⟩
 |true=>
  refine ite_tt (test_last (thn (hc pins s3 σ H3 _ I3 q3) λw' s4 ⟨z',H4,I4,r4,q4⟩=>thn (ho' pins s4 σ H4 y z' u w' _ I4 r2 r4 q4) λd' s5 ⟨z2,H5,I5,r5,k2,e2,q5⟩=>?_));subst e2;cases r5;exact Zu ⟨H5,I5,q5⟩
theorem VY:(sizeLine:Nat)<2^63:=by rw[sizeLine_eq];decide
theorem T9:OpR X (Yi .Add) (λx y H Q=>∃i j,x=.str i/\y=.str j/\i.length+j.length≤sizeLine/\Q (.str (i++j)) H):=by
 intro pins s σ H x y v u Q I rx ry h;obtain⟨i,j,rfl,rfl,hz,q⟩:=h;obtain⟨t,rfl⟩:=rx;obtain⟨t',rfl⟩:=ry;exact add_str (λt' tk=>⟨.str (i++j),H,I.tok _,⟨_,rfl⟩,q⟩) hz
theorem YX(r:Vals [x] us):∃u,us=[u]/\RelV x u:=by
 cases r with
 |cons r1 r2=>cases r2;exact⟨_,rfl,r1⟩
theorem VZ(r:Vals [x,y] us):∃u w',us=[u,w']/\RelV x u/\RelV y w':=by
 cases r with
 |cons r1 r2=>
  cases r2 with
  |cons r3 r4=>cases r4;exact⟨_,_,rfl,r1,r3⟩
theorem Ta:Yg X (.builtin "abs") (fun xs H Q=>∃i,xs=[.int i]/\Q (.int (if i<0 then -i else i)) H):=by
 intro pins s σ H xs us Q I r h;obtain⟨i,rfl,q⟩:=h;obtain⟨u,rfl,t,rfl⟩:=YX r;exact call_abs_int λu tk=>⟨.int (if i<0 then -i else i),H,I.tok _,⟨_,rfl⟩,q⟩
theorem Tb(hc:X.calm=true):Yg X (.builtin "max") (fun xs H Q=>∃i j,xs=[.int i,.int j]/\Q (.int (if j>i then j else i)) H):=by
 intro pins s σ H xs us Q I r h;obtain⟨i,j,rfl,q⟩:=h;obtain⟨u,w',rfl,⟨t,rfl⟩,⟨t',rfl⟩⟩:=VZ r;refine max_two_ints (I.ok.hd hc) λh' tk k=>⟨_,H,I.kept k,?_,q⟩;by_cases hj:j>i
 ·rw[if_pos hj,if_pos hj];exact⟨_,rfl⟩
 ·rw[if_neg hj,if_neg hj];exact⟨_,rfl⟩
theorem Tc(hc:X.calm=true):Yg X (.builtin "min") (fun xs H Q=>∃i j,xs=[.int i,.int j]/\Q (.int (if j<i then j else i)) H):=by
 intro pins s σ H xs us Q I r h;obtain⟨i,j,rfl,q⟩:=h;obtain⟨u,w',rfl,⟨t,rfl⟩,⟨t',rfl⟩⟩:=VZ r;refine min_two_ints (I.ok.hd hc) λh' tk k=>⟨_,H,I.kept k,?_,q⟩;by_cases hj:j<i
 ·rw[if_pos hj,if_pos hj];exact⟨_,rfl⟩
 ·rw[if_neg hj,if_neg hj];exact⟨_,rfl⟩
theorem Ip:Yg X (.type "int") (fun xs H Q=>(∃i,xs=[.int i]/\Q (.int i) H)\/∃k,xs=[.bl k]/\Q (.int (if k then 1 else 0)) H):=by
 intro pins s σ H xs us Q I r h;rcases h with⟨i,rfl,q⟩|⟨k,rfl,q⟩
 ·obtain⟨u,rfl,t,rfl⟩:=YX r;exact call_int_int ⟨.int i,H,I,⟨_,rfl⟩,q⟩
 ·obtain⟨u,rfl,r1⟩:=YX r;cases r1;exact call_int_bool ⟨.int (if k then 1 else 0),H,I.tok _,⟨_,rfl⟩,q⟩
end
structure ObjM (h:Heap) (x dx C:Addr) (mA:Str->Option X0):Prop where
 obj:h.get? x=some (UD C dx)
 ns:h.Ns1 dx mA
 ne:dx≠x
set_option tactic.hygienic true in
theorem Td{h:Heap}{dx:Addr}{mA:Str->Option X0}(n:h.Ns1 dx mA):∃od,h.get? dx=some od/\∀name,BM name od=some (mA name):=by
 obtain⟨o,es,ep,ho,hd,hk,_,hm⟩:=n;refine⟨o,ho,λname=>?_⟩;have e:=hm name;unfold nsFind findBy at e;rw[<- Array.find?_toList]at e;unfold BM;rw[hd];dsimp only;split
 ·rename_i y q
  rw[q]at e;exact congrArg some e
 ·rename_i q
  rw[q]at e;have a:es.toList.any (·.refKey)=false:=by
   rw[List.any_eq_false];intro y hy;obtain⟨z,t,hkey⟩:=hk y (Array.mem_toList_iff.mp hy);simp[DictEntry.refKey,hkey]
  have a':¬es.toList.any (·.refKey)=true:=by rw[a];exact Xx
  rw[if_neg a'];exact congrArg some e
theorem ObjM.look(I:ObjM h x dx C mA):∃od,PySem.W.InstAt h x (UD C dx) C (some od)/\∀name,BM name od=some (mA name):=
 let⟨od,ho,hl⟩:=Td I.ns
 ⟨od,⟨I.obj,rfl,rfl,ho⟩,hl⟩
section
variable{prog:Xv}{w:Xm}{A:XB}{E:X0->X2->Prop}{s:X2}{K:X4}{x dx C f:Addr}{mA:Str->Option X0}{name:Str}{v:X0}
theorem Te(X:K.In s.heap)(I:ObjM s.heap x dx C mA)(hg:UX K C name=true)(hh:VG K C=true)
  (ha:XF K (.ref C) name=some none) (hv:mA name=some v) (hv':PySem.W.handedIn v=true) (h:Q v {s with toks:=s.toks+1}):
  X3 (X6 prog w) A (getAttr (.ref x) name expr) Q E s:=by
 obtain⟨od,J,hl⟩:=I.look;exact PySem.W.get_value X J (DD hg).1 (PySem.W.findObj_own hh ha rfl (by rw[hl,hv])) hv' h
theorem Tf(X:K.In s.heap)(I:ObjM s.heap x dx C mA)(hg:UX K C name=true)
  (hf:XF K (.ref C) name=some (some (.ref f))) (ht:Yz K (.ref f)=true) (hv:mA name=none) (h:Q (.ref f,[.ref x]) s):
  X3 (X6 prog w) A (getMethod (.ref x) name pl) Q E s:=by
 obtain⟨od,J,hl⟩:=I.look;exact PySem.W.method_fn X J (DD hg).1 (DD hg).2 hf (beq_iff_eq.mp ht) (by show(BM name od).map (·.isSome)=some false;rw[hl,hv];rfl) h
theorem Tg(X:K.In s.heap)(I:ObjM s.heap x dx C mA)
  (hs:XF K (.ref C) "__setattr__"=some (some (.builtin "object.__setattr__"))) (hp:Wx K C=true) (ht:DG K C name=some none) (hh:VG K C=true)
  (hw:DR mA ns) (hsz:ns.length≤sizeLine)
  (h:∀h',ObjM h' x dx C (λy=>if y=name then some v else mA y)->U5 dx s.heap h'->Q () {s with heap:=h',toks:=s.toks+2}):
  X3 (X6 prog w) A (setAttr (.ref x) name v) Q E s:=by
 obtain⟨od,J,hl⟩:=I.look;refine PySem.W.set_plain X J hs (PySem.W.osa_open (s:={s with toks:=s.toks+1}) (r:=none) X J hp ht λb=>?_);obtain⟨cd,hc,hd'⟩:=PySem.W.any_some hh;have hx:s.heap.get? x=some ⟨.ref C,some dx,.plain,#[]⟩:=I.obj;refine X1 (X8 (X1 (X1 (wpAny_loadPart hx (X1 (PySem.W.Looks.here (s:={s with toks:=s.toks+1}) (PySem.W.looks_clsIn X hc) ?_))))));rw[hd'];refine X8 (a:=some dx) (X1 (X8 (X1 ?_)));refine wpAny_nsSet1 (s:={s with toks:=s.toks+1}) I.ns λh' hn2 hs2=>?_;obtain⟨oD,esD,epD,hoD,hdD,hcD⟩:=hn2.count (PySem.Within.cons name v hw);refine X1 (wpAny_lookBehind hoD (by rw[hdD];exact pastItsLine_dict (Y4 hcD (by rw[Yr];lia))) ?_)
 exact X8 (h _ ⟨(hs2.2 _ (XN I.ne)).trans I.obj,hn2,I.ne⟩ hs2)
theorem Th(X:K.In s.heap)(hm:Wy K C=true)
  (hi:XF K (.ref C) "__init__"=some (some (.ref f))) (hf:PySem.W.typeIn K (.ref f)=some (.type "function"))
  (h:YU (X6 prog w) (A.under (.builtin "type.__call__" ⟨.ref C::vs,kw⟩)) (.call (.ref f) ⟨.ref (s.heap.objs.size+1)::vs,kw⟩) (PySem.W.InitBack (s.heap.objs.size+1) R)
   {s with heap:=(s.heap.push U4).push (UD C s.heap.objs.size)}):
  YU (X6 prog w) A (.call (.ref C) ⟨vs,kw⟩) R s:=by
 obtain⟨hh,g,d,t,os⟩:=s;exact PySem.W.make_core (PySem.W.makes_of X hm) (PySem.W.looks_findIn X hi) (λself=>PySem.W.bind_fn X self hf) (.inl rfl) h
end
noncomputable def putF(f:Str)(v:V):List (Str×V)->List (Str×V)
 |[]=>[(f,v)]
 |(g,x)::r=>if g=f then(g,v)::r else(g,x)::putF f v r
theorem Iq(f g:Str)(v:V):∀fs:List (Str×V),(putF f v fs).lookup g=if g=f then some v else fs.lookup g
 |[]=>by
  show U3 g [(f,v)]=_;by_cases h:g=f
  ·have hb:(g==f)=true:=beq_iff_eq.mpr h;simp only[U3,hb,if_pos h]
  ·have hb:(g==f)=false:=beq_eq_false_iff_ne.mpr h;simp only[U3,hb,if_neg h]
 |(k,x)::r=>by
  have ih:=Iq f g v r;rw[show putF f v ((k,x)::r)=(if k=f then(k,v)::r else(k,x)::putF f v r)from rfl];by_cases hk:k=f
  ·rw[if_pos hk];by_cases h:g=k
   ·have hb:(g==k)=true:=beq_iff_eq.mpr h;simp only[U3,hb,if_pos (h.trans hk)]
   ·have hb:(g==k)=false:=beq_eq_false_iff_ne.mpr h;simp only[U3,hb,if_neg (λe:g=f=>h (e.trans hk.symm))]
  ·rw[if_neg hk];by_cases h:g=k
   ·have hb:(g==k)=true:=beq_iff_eq.mpr h;simp only[U3,hb,if_neg (λe:g=f=>hk (h.symm.trans e))]
   ·have hb:(g==k)=false:=beq_eq_false_iff_ne.mpr h;simp only[U3,hb];exact ih
theorem E6(f:Str)(v:V):∀fs:List (Str×V),f∈(putF f v fs).map (·.1)/\∀g,g∈fs.map (·.1)->g∈(putF f v fs).map (·.1)
 |[]=>⟨by simp[putF],λg h=>by simp at h⟩
 |(k,x)::r=>by
  obtain⟨i1,i2⟩:=E6 f v r;rw[show putF f v ((k,x)::r)=(if k=f then(k,v)::r else(k,x)::putF f v r)from rfl];by_cases hk:k=f
  ·rw[if_pos hk];subst hk;exact⟨by simp,λg h=>by simpa using h⟩
  ·rw[if_neg hk];refine⟨?_,λg h=>?_⟩
   ·rw[Xy];exact XR _ i1
   ·rw[Xy]at h ⊢;rcases Xl.mp h with e|e
    ·exact Xl.mpr (.inl e)
    ·exact XR _ (i2 g e)
theorem Ir(f:Str)(v:V):∀fs:List (Str×V),(putF f v fs).length≤fs.length+1
 |[]=>by simp[putF]
 |(k,x)::r=>by
  have ih:=Ir f v r;rw[show putF f v ((k,x)::r)=(if k=f then(k,v)::r else(k,x)::putF f v r)from rfl];by_cases hk:k=f
  ·rw[if_pos hk,Yr,Yr];lia
  ·rw[if_neg hk,Yr,Yr];lia
theorem RelO.some_of(r:RelO (some v) o):∃u,o=some u/\RelV v u:=by
 cases o with
 |none=>exact(show False from r).elim
 |some u=>exact⟨u,rfl,r⟩
theorem RelO.none_of(r:RelO none o):o=none:=by
 cases o with
 |none=>rfl
 |some u=>exact(show False from r).elim
theorem Ti(r:RelV v u):PySem.W.handedIn u=true:=by
 cases v with
 |non=>cases(show u=Xt from r);rfl
 |bl b=>cases(show u=Ya b from r);rfl
 |int i=>obtain⟨t,e⟩:=(show∃t,u=VN i t from r);cases e;rfl
 |str x=>obtain⟨t,e⟩:=(show∃t,u=XE x t from r);cases e;rfl
 |byt b=>obtain⟨t,e⟩:=(show∃t,u=Value.bytes b t from r);cases e;rfl
 |flt b=>obtain⟨t,e⟩:=(show∃t,u=C0 b t from r);cases e;rfl
 |ref a=>cases(show u=Xn a from r);rfl
 |ty n=>cases(show u=XD n from r);rfl
section
variable{P:Xv}{w:Xm}{H H':Hp}{h h':Heap}{a C dx:Addr}{fs fs':List (Str×V)}
theorem WH(hok:HOk P w H h)(e:H a=some (.ins C dx fs)):∃mA,ObjM h a dx C mA/\(∀f,RelO (fs.lookup f) (mA f))/\DR mA (fs.map (·.1))/\fs.length≤1000/\H dx=some (.own a):=by
 obtain⟨d,z,ne,ob,mA,n,r,q⟩:=(show ObjOk P w H h a (.ins C dx fs)from hok a _ e);exact⟨mA,⟨ob,n,ne⟩,r,q,z,d⟩
end
structure Cls (K:X4) (C:Addr):Prop where
 pg:UX K C U7=true
 hd:VG K C=true
 po:Wx K C=true
 sa:XF K (.ref C) "__setattr__"=some (some (.builtin "object.__setattr__"))
theorem Cls.get{K:X4}(c:Cls K C)(f:Str):UX K C f=true:=c.pg
def NoAttr(K:X4)(C:Addr)(f:Str):Prop:=XF K (.ref C) f=some none
theorem NoAttr.taker{K:X4}(n:NoAttr K C f):DG K C f=some none:=by
 unfold DG;rw[show XF K (.ref C) f=some none from n]
 rfl
structure Meth (K:X4) (C:Addr) (m:Str) (f:Addr):Prop where
 at_:XF K (.ref C) m=some (some (.ref f))
 fn:Yz K (.ref f)=true
 kp:XW K (.ref f)=true
section
variable{X:Cx}{pins:List (Addr×Obj)}{σ:St}{H:Hp}{s:X2}{a C dx:Addr}{fs:List (Str×V)}{f:Str}{v:V}{A:XB}{E:X0->X2->Prop}
theorem Tj(I:Inv X pins σ H s)(e:H a=some (.ins C dx fs))(c:Cls X.K C)(n:NoAttr X.K C f)(l:fs.lookup f=some v)
  (h:∀u s',Inv X pins σ H s'->RelV v u->Q u s'):X3 (X6 X.prog X.w) A (getAttr (.ref a) f b) Q E s:=by
 obtain⟨mA,O,r,_,_,_⟩:=WH I.hok e;obtain⟨u,hu,ru⟩:=RelO.some_of (v:=v) (o:=mA f) (by rw[<- l];exact r f)
 exact Te I.kIn O (c.get f) c.hd n hu (Ti ru) (h u _ (I.tok _) ru)
theorem Iu(I:Inv X pins σ H s)(e:H a=some (.ins C dx fs))(c:Cls X.K C)(k:Meth X.K C m g)(l:fs.lookup m=none)
  (h:Q (.ref g,[.ref a]) s):X3 (X6 X.prog X.w) A (getMethod (.ref a) m pl) Q E s:=by
 obtain⟨mA,O,r,_,_,_⟩:=WH I.hok e;have hn:mA m=none:=RelO.none_of (by rw[<- l];exact r m)
 exact Tf I.kIn O (c.get m) k.at_ k.fn hn h
theorem Tk(I:Inv X pins σ H s)(e:H a=some (.ins C dx fs))(c:Cls X.K C)(n:NoAttr X.K C f)(hl:fs.length<1000)(ry:RelV y u)
  (h:∀s',Inv X pins σ (upd H a (.ins C dx (putF f y fs))) s'->Q () s'):X3 (X6 X.prog X.w) A (setAttr (.ref a) f u) Q E s:=by
 obtain⟨mA,O,r,wi,_,ho⟩:=WH I.hok e;have hz:(fs.map (·.1)).length≤sizeLine:=by rw[Xa,sizeLine_eq];lia
 refine Tg I.kIn O c.sa c.po n.taker c.hd wi hz λh' O' sb=>h _ ?_;have hd:∃o,h'.get? dx=some o:=let⟨o,_,_,e',_⟩:=O'.ns;⟨o,e'⟩
 refine I.write (x:=a) (e:=dx) (by rw[e];exact YD) (.inr ho) (λb q hb z=>(sb.2 b hb).trans z) hd ?_
 refine⟨by rw[XG O.ne];exact ho,?_,O.ne,O'.obj,_,O'.ns,λg=>?_,λg hg=>?_⟩
 ·have:=Ir f y fs;lia
 ·show RelO ((putF f y fs).lookup g) (if g=f then some u else mA g);rw[Iq];by_cases q:g=f
  ·rw[if_pos q,if_pos q];exact ry
  ·rw[if_neg q,if_neg q];exact r g
 ·by_cases q:g=f
  ·rw[q];exact(E6 f y fs).1
  ·refine(E6 f y fs).2 g (wi g λz=>hg ?_);show(if g=f then some u else mA g)=none;rw[if_neg q];exact z
theorem Inv.made(I:Inv X pins σ H s):Inv X pins σ (upd (upd H s.heap.objs.size (.own (s.heap.objs.size+1))) (s.heap.objs.size+1) (.ins C s.heap.objs.size []))
  {s with heap:=(s.heap.push U4).push (UD C s.heap.objs.size)}:=by
 have e1:(s.heap.push U4).get? s.heap.objs.size=some U4:=XM s.heap rfl;have e2:((s.heap.push U4).push (UD C s.heap.objs.size)).get? (s.heap.objs.size+1)=some (UD C s.heap.objs.size):=by
  have:=XM (s.heap.push U4) (o:=UD C s.heap.objs.size) rfl
  rwa [Zm]at this
 have e3:(s.heap.push U4).Ns s.heap.objs.size (λ_=>none):=⟨U4,#[],_,e1,rfl,(λe he=>absurd he (by simp)),λ_=>rfl⟩
 have I1:=I.laid (a:=s.heap.objs.size) (o:=.own (s.heap.objs.size+1)) (h':=s.heap.push U4) (t':=s.toks) (λb u q=>Xp _ q) (Xg _) ⟨_,e1⟩;refine I1.laid (a:=s.heap.objs.size+1) (o:=.ins C s.heap.objs.size []) (t':=s.toks) (λb u q=>Xp _ q) (VL (Zm _ _)) ?_;have ne:s.heap.objs.size≠s.heap.objs.size+1:=XC (BX _);refine⟨by rw[XG ne,_c],YK _,ne,e2,λ_=>none,(Heap.Ns1.of_empty e3).at λo q=>Xp _ q,λ_=>YD,λy hy=>absurd rfl hy⟩
theorem Tl(hb:Uw e f env (eval e env)=eval e env)
  (h:X3 (X6 prog w) A (eval e env) (λo s₁=>X3 (X6 prog w) A (getAttr o f true) Q E s₁) E s):X3 (X6 prog w) A (eval (.Attribute e f pos) env) Q E s:=
 Attribute_any_ h (by rw[arm_eval_Attribute,hb])
end
def tFld(K:X4)(ta:TE)(f:Str):TE:=λσ H Q=>ta σ H λx H1=>∃a C dx fs v,x=.ref a/\H1 a=some (.ins C dx fs)/\Cls K C/\NoAttr K C f/\fs.lookup f=some v/\Q v H1
def sFld(K:X4)(ta tv:TE)(f:Str):TS:=λD σ H=>tv σ H λy H1=>ta σ H1 λx H2=>∃a C dx fs,x=.ref a/\H2 a=some (.ins C dx fs)/\Cls K C/\NoAttr K C f/\fs.length<1000/\
 D.nx σ (upd H2 a (.ins C dx (putF f y fs)))
section
variable{X:Cx}{o e value:Expr}{f:Str}{pos pos' tpos:Pos}{ta tv:TE}
theorem Tn(he:PE X e ta)(hb:Uw e f X.env (eval e X.env)=eval e X.env):PE X (.Attribute e f pos) (tFld X.K ta f):=by
 intro pins s σ H Q I h;refine Tl hb (thn (he pins s σ H _ I h) λu s1 ⟨x,H1,I1,rx,a,C,dx,fs,v,ex,ea,c,n,l,q⟩=>?_);subst ex;obtain rfl:u=Xn a:=rx;exact Tj I1 ea c n l λu' s2 I2 ru=>⟨v,H1,I2,ru,q⟩
theorem To(ha:PE X o ta)(hv:PE X value tv)(hs:Zv value (some (.Attribute o f pos')) pos.line X.env=pure false):PS X (.Assign [.Attribute o f pos'] value pos) (sFld X.K ta tv f):=by
 intro pins s σ H D I h;refine plainObj_wpAny_Assign_Attribute (thn (hv pins s σ H _ I h) λu s1 ⟨y,H1,I1,ry,q⟩=>thn (ha pins s1 σ H1 _ I1 q) λov s2 ⟨x,H2,I2,rx,a,C,dx,fs,ex,ea,c,n,l,q2⟩=>?_) hs;subst ex;obtain rfl:ov=Xn a:=rx;exact Tk I2 ea c n l ry λs3 I3=>⟨σ,_,I3,q2⟩
end
section
variable{X:Cx}{pins:List (Addr×Obj)}{σ:St}{H:Hp}{s:X2}{A:XB}{E:X0->X2->Prop}{Q:X0->X2->Prop}{c:X0}{b:Bool}
inductive TyOf (K:X4) (H:Hp):V->X0->Prop where
 |non:TyOf K H .non (.type "NoneType")
 |bl (x:Bool):TyOf K H (.bl x) (.type "bool")
 |int (i:Int):TyOf K H (.int i) (.type "int")
 |str (x:Str):TyOf K H (.str x) (.type "str")
 |flt (x:UInt64):TyOf K H (.flt x) (.type "float")
 |lst {a:Addr} {xs:List V} (e:H a=some (.lst xs)):TyOf K H (.ref a) (.type "list")
 |frz {a:Addr} {o:Obj} {xs:List V} (e:H a=some (.frz o (.lst xs))):TyOf K H (.ref a) (.type "list")
 |tup {a:Addr} {xs:List V} (e:H a=some (.tup xs)):TyOf K H (.ref a) (.type "tuple")
 |dK {a:Addr} {kvs:List (Key×V)} (e:H a=some (.dK kvs)):TyOf K H (.ref a) (.type "dict")
 |dT {a:Addr} {kvs:List (List Key×V)} (e:H a=some (.dT kvs)):TyOf K H (.ref a) (.type "dict")
 |ins {a C dx:Addr} {fs:List (Str×V)} (e:H a=some (.ins C dx fs)) (cl:Cls K C) (ha:XF K (.ref C) "__class__"=some (some (.builtin "object.__class__")))
   (hn:PySem.W.specialIn K (.builtin "object.__class__") "__get__"=some (some (.builtin "getset_descriptor.__get__"))) (htk:PySem.W.takesIn K (.builtin "object.__class__")=some true)
   (hm:PySem.W.mroIn K C (.type "object")=some true):TyOf K H (.ref a) (.ref C)
theorem Tp{t:X0}(I:Inv X pins σ H s)(rx:RelV x u)(ty:TyOf X.K H x t)(e:UY X.K t c=some b)(h:∀tk,Q (.bool b) {s with toks:=tk}):
  X3 (X6 X.prog X.w) A (call (.builtin "isinstance") [u,c]) Q E s:=by
 cases ty with
 |non=>cases(show u=Xt from rx);exact Zk PySem.W.kitx_none I.kIn YD e (λz=>nomatch z) h
 |bl y=>cases(show u=Ya y from rx);exact Zk PySem.W.kitx_bool I.kIn YD e (λz=>nomatch z) h
 |int i=>obtain⟨t,q⟩:=(show∃t,u=VN i t from rx);cases q;exact Zk PySem.W.kitx_int I.kIn YD e (λz=>nomatch z) h
 |str y=>obtain⟨t,q⟩:=(show∃t,u=XE y t from rx);cases q;exact Zk PySem.W.kitx_str I.kIn YD e (λz=>nomatch z) h
 |flt y=>obtain⟨t,q⟩:=(show∃t,u=C0 y t from rx);cases q;exact Zk PySem.W.kitx_float I.kIn YD e (λz=>nomatch z) h
 | @lst a xs ea=>
  cases(show u=Xn a from rx);obtain⟨_,_,n,_,h1⟩:=(show ObjOk X.prog X.w H s.heap a (.lst xs)from I.hok a _ ea);exact Zk BK I.kIn ⟨_,h1,rfl⟩ e (λz=>nomatch z) h
 | @frz a ob xs ea=>
  cases(show u=Xn a from rx);obtain⟨_,_,_,n,_,h1⟩:=(show ObjOk X.prog X.w H s.heap a (.frz ob (.lst xs))from I.hok a _ ea);exact Zk BK I.kIn ⟨_,h1,rfl⟩ e (λz=>nomatch z) h
 | @tup a xs ea=>
  cases(show u=Xn a from rx);obtain⟨_,_,_,p⟩:=(show ObjOk X.prog X.w H s.heap a (.tup xs)from I.hok a _ ea);obtain⟨o,h1,h2,_⟩:=p.1;exact Zk PySem.W.kitx_tuple I.kIn ⟨o,h1,h2⟩ e (λz=>nomatch z) h
 | @dK a kvs ea=>
  cases(show u=Xn a from rx);obtain⟨_,_,vs,_,p⟩:=(show ObjOk X.prog X.w H s.heap a (.dK kvs)from I.hok a _ ea);obtain⟨o,es,ep,h1,h2,_⟩:=p;exact Zk BL I.kIn ⟨o,h1,h2.1⟩ e (λz=>nomatch z) h
 | @dT a kvs ea=>
  cases(show u=Xn a from rx);obtain⟨_,_,xs,_,o,es,ep,h1,h2,_⟩:=(show ObjOk X.prog X.w H s.heap a (.dT kvs)from I.hok a _ ea);exact Zk BL I.kIn ⟨o,h1,h2.1⟩ e (λz=>nomatch z) h
 | @ins a C dx fs ea cl ha hn htk hm=>
  cases(show u=Xn a from rx);obtain⟨mA,O,_⟩:=WH I.hok ea;obtain⟨od,J,_⟩:=O.look;exact Zk (PySem.W.kitx_own (cl.get _) cl.hd ha hn htk hm) I.kIn J e (λz=>nomatch z) h
end
structure Room (k:Nat) (A:XB):Prop where
 hd:A.handled=none
 dp:A.depth+3*k+5<recursionLimit
 un:A.units+16*k+200<cLine
theorem Room.mono{k:Nat}(r:Room k A)(h:j≤k):Room j A:=⟨r.hd,by have:=r.dp;lia,by have:=r.un;lia⟩
theorem Room.deeper{k:Nat}(r:Room (k+1) A)(env:Env):Room k (A.deeper env):=
 ⟨r.hd,by have:=r.dp;show A.depth+1+3*k+5<_;lia,by have:=r.un;show A.units+3+16*k+200<_;lia⟩
theorem Tq{A:XB}{C:Addr}{us:List X0}{kw:List (Str×X0)}:(A.under (.builtin "type.__call__" ⟨.ref C::us,kw⟩)).depth=A.depth+1:=by
 first|rfl|simp[DQ,Code.weight,Code.isCreation,Code.isGuard,Code.isCaller,Code.frames,Code.isFrame,guardIds]
theorem Tr{A:XB}{C:Addr}{us:List X0}{kw:List (Str×X0)}:(A.under (.builtin "type.__call__" ⟨.ref C::us,kw⟩)).units=A.units+1:=by
 first|rfl|simp[DQ,Code.cUnits,Code.frames,Code.isFrame]
theorem Room.make{k:Nat}(r:Room (k+1) A)(C:Addr)(us:List X0)(kw:List (Str×X0)):Room k (A.under (.builtin "type.__call__" ⟨.ref C::us,kw⟩)):=
 ⟨r.hd,by have:=r.dp;rw[Tq];lia,by have:=r.un;rw[Tr];lia⟩
theorem Room.depth{k:Nat}(r:Room k A):A.depth<recursionLimit:=by have:=r.dp;lia
def tNil:TA:=λ_ H Q=>Q [] H
def W0(ta:TE)(tr:TA):TA:=λσ H Q=>ta σ H λx H1=>tr σ H1 λxs H2=>Q (x::xs) H2
section
variable{X:Cx}{e:Expr}{es:List Expr}{te:TE}{t:TA}{pos:Pos}
theorem pa_nil:PA X [] tNil:=λ_ _ _ _ H Q I h=>WE ⟨[],H,I,.nil,h⟩
theorem _G(ha:PE X e te)(hr:PA X es t)(hs:Xw (e::es) X.env=(false,eval e X.env)::Xw es X.env:=by rfl):PA X (e::es) (W0 te t):=by
 intro pos pins s σ H Q I h;rw[hs];show X3 _ _ (spliced ((false,eval e X.env)::XZ pos (Xw es X.env))) _ _ s;refine WD (thn (ha pins s σ H _ I h) λu s1 ⟨x,H1,I1,r1,q1⟩=>?_);exact thn (hr pos pins s1 σ H1 _ I1 q1) λus s2 ⟨xs,H2,I2,r2,q2⟩=>⟨x::xs,H2,I2,.cons r1 r2,q2⟩
def tTup(t:TA):TE:=λσ H Q=>t σ H λxs H1=>xs.length≤sizeLine/\∀p,H1 p=none->Q (.ref p) (upd H1 p (.tup xs))
def tLst(t:TA):TE:=λσ H Q=>t σ H λxs H1=>xs.length≤sizeLine/\∀p,H1 p=none->Q (.ref p) (upd H1 p (.lst xs))
theorem Ts{x1}(h:PA X es t):PE X (.Tuple es x1 pos) (tTup t):=by
 intro pins s σ H Q I hq;refine wpAny_Tuple_spliced (thn (h pos pins s σ H _ I hq) λus s1 ⟨xs,H1,I1,r,z,q⟩=>⟨by rw[<- r.length];exact z,?_⟩)
 have hf:H1 s1.heap.objs.size=none:=I1.hok.fresh (Xg _);refine⟨.ref s1.heap.objs.size,upd H1 s1.heap.objs.size (.tup xs),I1.laid (t':=s1.toks) (λb u e=>Xp _ e) (Xg _) ?_,rfl,q _ hf⟩;exact⟨z,us,r,⟨_,XM _ rfl,rfl,_,rfl⟩,_,XM _ rfl,rfl⟩
theorem Tt(h:PA X es t):PE X (.List es pos) (tLst t):=by
 intro pins s σ H Q I hq;refine wpAny_List_spliced (thn (h pos pins s σ H _ I hq) λus s1 ⟨xs,H1,I1,r,z,q⟩=>⟨by rw[<- r.length];exact z,?_⟩)
 have hf:H1 s1.heap.objs.size=none:=I1.hok.fresh (Xg _);refine⟨.ref s1.heap.objs.size,upd H1 s1.heap.objs.size (.lst xs),I1.laid (t':=s1.toks) (λb u e=>Xp _ e) (Xg _) ?_,rfl,q _ hf⟩;exact⟨z,us,0,r,XM _ rfl⟩
end
abbrev Sp:=List V->Hp->VK->XK->Prop
abbrev CXT:=List Env->Hp->X2->XK->X0->X2->Prop
structure Env0 (P:Xv) (w:Xm) (K:X4) (mg:Str->Option X0) (base:Heap) (A:XB) (outer:List Env) (s:X2) (H:Hp):Prop where
 frames:A.frames=some outer
 mod:Mod K mg base
 bs:∀b o,base.get? b=some o->s.heap.get? b=some o/\H b=none
 bsz:base.objs.size≤s.heap.objs.size
 funs:s.heap.FunFrames base outer
 frf:∀b∈frs outer,H b=none
 hok:HOk P w H s.heap
 bare:AllBare s.gens
def CE(outer:List Env)(P:Xv)(w:Xm)(H:Hp)(s:X2)(Q:VK)(u:X0)(s':X2):Prop:=
 ∃v H',s'.os=s.os/\AllBare s'.gens/\Un (frs outer) [] H H' s.heap s'.heap/\HOk P w H' s'.heap/\RelV v u/\Q v H'
def CR(CX:CXT)(outer:List Env)(P:Xv)(w:Xm)(H:Hp)(s:X2)(Q:VK)(E:XK)(r:Result)(s':X2):Prop:=
 match r with
 |.ok (.ret u)=>CE outer P w H s Q u s'
 |.ok _=>False
 |.error e=>CX outer H s E e s'
structure FnOk (P:Xv) (w:Xm) (K:X4) (mg:Str->Option X0) (base:Heap) (CX:CXT) (k:Nat) (f:Addr) (fd:Xh) (ps:List Str) (sp:Sp):Prop where
 len:∀vs H Q E,sp vs H Q E->vs.length=ps.length
 run:∀(A:XB) (outer:List Env) (s:X2) (H:Hp) (args:Args) (us:List X0) (vs:List V) (Q:VK) (E:XK),Room k A->Env0 P w K mg base A outer s H->BindsTo s fd args (ps.zip us)->Vals vs us->sp vs H Q E->
  YU (X6 P w) A (.call (.ref f) args) (CR CX outer P w H s Q E) s
theorem FnOk.mono{K:X4}{k:Nat}(F:FnOk P w K mg base CX j f fd ps sp)(h:j≤k):
  FnOk P w K mg base CX k f fd ps sp:=⟨F.len,λA outer s H args us vs Q E hr=>F.run A outer s H args us vs Q E (hr.mono h)⟩
theorem FnOk.imp{K:X4}{k:Nat}(F:FnOk P w K mg base CX k f fd ps sp)
  (h:∀vs H Q E,sp' vs H Q E->sp vs H Q E):FnOk P w K mg base CX k f fd ps sp':=
 ⟨λvs H Q E q=>F.len vs H Q E (h _ _ _ _ q),λA outer s H args us vs Q E hr he hb hv hs=>F.run A outer s H args us vs Q E hr he hb hv (h _ _ _ _ hs)⟩
theorem Env0.make{K:X4}(e:Env0 P w K mg base A outer s H)(C:Addr)(us:List X0)(kw:List (Str×X0)):
  Env0 P w K mg base (A.under (.builtin "type.__call__" ⟨.ref C::us,kw⟩)) outer s H:=⟨by first|exact e.frames|(simpa [DQ,Code.envs,Code.isFrame,pushEnvs]using e.frames),e.mod,e.bs,e.bsz,e.funs,e.frf,e.hok,e.bare⟩
section
variable{X:Cx}{pins:List (Addr×Obj)}{σ:St}{H:Hp}{s s':X2}
theorem Inv.env0(I:Inv X pins σ H s):Env0 X.prog X.w X.K X.mg X.base X.A X.stack s H:=
 ⟨I.ok.frames,I.ok.mod,I.bs,Y4 I.ok.bsz I.sz,I.stack,I.stkFree,I.hok,I.bare⟩
theorem Inv.after(I:Inv X pins σ H s)(h:CE X.stack X.prog X.w H s Q u s'):EP X pins σ Q u s':=by
 obtain⟨v,H',os,bare,un,hok,r,q⟩:=h;obtain⟨hh,g,d,t,os'⟩:=s';obtain rfl:os'=s.os:=os;exact⟨v,H',I.call (h':=hh) (g':=g) (d':=d) (t':=t) (ch:=[]) un hok bare (λb z=>absurd z (by simp)),r,q⟩
end
noncomputable def Tu(sp:Sp)(dvs:List V)(E:XK)(t:TA):TE:=λσ H Q=>t σ H λvs H1=>sp (vs++dvs) H1 Q E
noncomputable def Iv(C:Addr)(m:Str)(sp:Sp)(dvs:List V)(E:XK)(ta:TE)(t:TA):TE:=λσ H Q=>ta σ H λx H1=>∃a dx fs,x=.ref a/\H1 a=some (.ins C dx fs)/\fs.lookup m=none/\
 t σ H1 λvs H2=>sp (x::(vs++dvs)) H2 Q E
def Tv(C:Addr)(sp:Sp)(dvs:List V)(E:XK)(t:TA):TE:=λσ H Q=>t σ H λvs H1=>∀x dx,H1 x=none->H1 dx=none->dx≠x->
 sp (.ref x::(vs++dvs)) (upd (upd H1 dx (.own x)) x (.ins C dx [])) (λv H2=>v=.non/\Q (.ref x) H2) E
def Binds(K:X4)(fd:Xh)(ps:List Str)(ds:List X0):Prop:=
 ∀(s:X2) (us:List X0),K.In s.heap->(us++ds).length=ps.length->BindsTo s fd ⟨us,[]⟩ (ps.zip (us++ds))
theorem Binds.all{K:X4}(h:∀us:List X0,us.length=ps.length->bindArgs fd ⟨us,[]⟩=pure (ps.zip us)):Binds K fd ps []:=λs us _ hl=>by
 rw[VC]at hl ⊢;exact .of_eq (h us hl)
def Vc(CX:CXT)(X:Cx)(E:XK):Prop:=∀(pins:List (Addr×Obj)) (σ:St) (H:Hp) (s:X2) (e:X0) (s':X2),Inv X pins σ H s->CX X.stack H s E e s'->X.xe e s'
section
variable{X:Cx}{CX:CXT}{k:Nat}{f C:Addr}{fd:Xh}{ps:List Str}{sp:Sp}{dvs:List V}{ds:List X0}{E:XK}{x m:Str}{p pos apos:Pos}{e o:Expr}{es:List Expr}{ta:TE}{t:TA}
theorem E7(F:FnOk X.prog X.w X.K X.mg X.base CX k f fd ps sp)(hr:Room k X.A)(hb:Binds X.K fd ps ds)(hd:Vals dvs ds)(hx:Vc CX X E)
  (I:Inv X pins σ H s) (r:Vals vs us) (h:sp (vs++dvs) H Q E):X3 (X6 X.prog X.w) X.A (call (.ref f) us) (EP X pins σ Q) X.xe s:=by
 have r2:Vals (vs++dvs) (us++ds):=r.append hd;have hl:(us++ds).length=ps.length:=by rw[<- r2.length];exact F.len _ _ _ _ h
 refine wpAny_call (Vq (F.run X.A X.stack s H ⟨us,[]⟩ (us++ds) (vs++dvs) Q E hr I.env0 (hb s us I.kIn hl) r2 h) λr s' hq=>?_);cases r with
 |error e=>exact hx pins σ H s e s' I hq
 |ok fl=>
  cases fl with
  |ret u=>exact I.after hq
  |next=>exact Y7 hq
  |brk=>exact Y7 hq
  |cont=>exact Y7 hq
theorem Tw(F:FnOk X.prog X.w X.K X.mg X.base CX k f fd ps sp)(hr:Room k X.A)(hg:Gl X x)(hm:X.mg x=some (.ref f))(hk:XW X.K (.ref f)=true)(hb:Binds X.K fd ps ds)(hd:Vals dvs ds)(hx:Vc CX X E)
  (ha:PA X (e::es) t) (hdb:(x==("__debug__":Str))=false:=by decide) (he:Xw (e::es) X.env=(false,eval e X.env)::Xw es X.env:=by rfl) (hpl:(XZ pos (Xw es X.env)).any (·.1)=false:=by rfl):
  PE X (.Call (.Name x p) (e::es) [] pos) (Tu sp dvs E t):=by
 intro pins s σ H Q I h;refine Ux (E4 I hg hm ?_ hdb);refine DE (h₀:=X.base) I.ok.mod.kin hk (thn (ha pos pins s σ H _ I h) λus s1 ⟨vs,H1,I1,r,q⟩=>⟨I1.kIn,?_⟩) he hpl;exact E7 F hr hb hd hx I1 r q
theorem Tx{pl:Sem Bool}(he:PE X o ta)(c:Cls X.K C)(hm:Meth X.K C m f)(F:FnOk X.prog X.w X.K X.mg X.base CX k f fd ps sp)(hr:Room k X.A)(hb:Binds X.K fd ps ds)(hd:Vals dvs ds)(hx:Vc CX X E)(ha:PA X (e::es) t)
  (hst:Xw (e::es) X.env=(false,eval e X.env)::Xw es X.env:=by rfl) (hpl:(XZ pos (Xw es X.env)).any (·.1)=false:=by rfl)
  (ht:eval (.Call (.Attribute o m apos) (e::es) [] pos) X.env=(do
   let ov<- eval o X.env
   standAt apos.atName
   let(f,first)<- Z4 [ov] (getMethod ov m pl)
   callWith pos f first (XZ pos (Xw (e::es) X.env)) (ZY pos (ZZ [] X.env))):=by rfl):
  PE X (.Call (.Attribute o m apos) (e::es) [] pos) (Iv C m sp dvs E ta t):=by
 intro pins s σ H Q I h;refine Hh (pl:=pl) (thn (he pins s σ H _ I h) λu s1 ⟨x,H1,I1,rx,a,dx,fs,ex,ea,l,q⟩=>?_) ht;subst ex;obtain rfl:u=Xn a:=rx;refine Iu I1 ea c hm l ?_;refine DE (first:=[.ref a]) (h₀:=X.base) I.ok.mod.kin hm.kp (thn (ha pos pins s1 σ H1 _ I1 q) λus s2 ⟨vs,H2,I2,r,q2⟩=>⟨I2.kIn,?_⟩) hst hpl
 exact E7 (us:=.ref a::us) (vs:=.ref a::vs) F hr hb hd hx I2 (.cons rfl r) q2
theorem Ty{pl:Sem Bool}(he:PE X o ta)(c:Cls X.K C)(hm:Meth X.K C m f)(F:FnOk X.prog X.w X.K X.mg X.base CX k f fd ps sp)(hr:Room k X.A)(hb:Binds X.K fd ps ds)(hd:Vals dvs ds)(hx:Vc CX X E)
  (ht:eval (.Call (.Attribute o m apos) [] [] pos) X.env=(do
   let ov<- eval o X.env
   standAt apos.atName
   let(f,first)<- Z4 [ov] (getMethod ov m pl)
   callWith pos f first (XZ pos (Xw [] X.env)) (ZY pos (ZZ [] X.env))):=by rfl):
  PE X (.Call (.Attribute o m apos) [] [] pos) (Iv C m sp dvs E ta tNil):=by
 intro pins s σ H Q I h;refine Hh (pl:=pl) (thn (he pins s σ H _ I h) λu s1 ⟨x,H1,I1,rx,a,dx,fs,ex,ea,l,q⟩=>?_) ht;subst ex;obtain rfl:u=Xn a:=rx;refine Iu I1 ea c hm l ?_;exact PySem.W.callWith_K0 (first:=[.ref a]) I1.kIn hm.kp (E7 (us:=[.ref a]) (vs:=[.ref a]) F hr hb hd hx I1 (.cons rfl .nil) q)
structure Mk (K:X4) (C f:Addr):Prop where
 makes:Wy K C=true
 init:XF K (.ref C) "__init__"=some (some (.ref f))
 fn:Yz K (.ref f)=true
 kp:XW K (.ref C)=true
theorem Tz(M:Mk X.K C f)(F:FnOk X.prog X.w X.K X.mg X.base CX k f fd ps sp)(hr:Room (k+1) X.A)(hb:Binds X.K fd ps ds)(hd:Vals dvs ds)
  (hx:Vc CX X E) (I:Inv X pins σ H s) (r:Vals vs us)
  (h:∀x dx,H x=none->H dx=none->dx≠x->sp (.ref x::(vs++dvs)) (upd (upd H dx (.own x)) x (.ins C dx [])) (λv H2=>v=.non/\Q (.ref x) H2) E):
  X3 (X6 X.prog X.w) X.A (call (.ref C) us) (EP X pins σ Q) X.xe s:=by
 have hq:=h (s.heap.objs.size+1) s.heap.objs.size (I.hok.fresh (UE _)) (I.hok.fresh (Xg _)) (XC (BX _));have I2:=Inv.made (C:=C) I;have r2:Vals (V.ref (s.heap.objs.size+1)::(vs++dvs)) (Xn (s.heap.objs.size+1)::(us++ds)):=.cons rfl (r.append hd);have hl:(Xn (s.heap.objs.size+1)::us++ds).length=ps.length:=by
  have e:=r2.length;rw[F.len _ _ _ _ hq]at e;exact e.symm
 refine wpAny_call (Th (f:=f) I.kIn M.makes M.init (beq_iff_eq.mp M.fn) (Vq (F.run _ X.stack _ _ ⟨Xn (s.heap.objs.size+1)::us,[]⟩ (Xn (s.heap.objs.size+1)::(us++ds)) _ _ E (hr.make C us [])
  (I2.env0.make C us []) (hb _ (Xn (s.heap.objs.size+1)::us) I2.kIn hl) r2 hq) λr s' hq'=>?_))
 cases r with
 |error e=>exact hx pins σ _ _ e s' I2 hq'
 |ok fl=>
  cases fl with
  |ret u=>
   obtain⟨v,H',I3,rv,ev,q3⟩:=I2.after hq';subst ev;exact⟨rv,⟨V.ref (s.heap.objs.size+1),H',I3,rfl,q3⟩⟩
  |next=>exact Y7 hq'
  |brk=>exact Y7 hq'
  |cont=>exact Y7 hq'
theorem TB(M:Mk X.K C f)(F:FnOk X.prog X.w X.K X.mg X.base CX k f fd ps sp)(hr:Room (k+1) X.A)(hg:Gl X x)(hm:X.mg x=some (.ref C))(hb:Binds X.K fd ps ds)(hd:Vals dvs ds)(hx:Vc CX X E)
  (ha:PA X (e::es) t) (hdb:(x==("__debug__":Str))=false:=by decide) (he:Xw (e::es) X.env=(false,eval e X.env)::Xw es X.env:=by rfl) (hpl:(XZ pos (Xw es X.env)).any (·.1)=false:=by rfl):
  PE X (.Call (.Name x p) (e::es) [] pos) (Tv C sp dvs E t):=by
 intro pins s σ H Q I h;refine Ux (E4 I hg hm ?_ hdb);refine DE (h₀:=X.base) I.ok.mod.kin M.kp (thn (ha pos pins s σ H _ I h) λus s1 ⟨vs,H1,I1,r,q⟩=>⟨I1.kIn,?_⟩) he hpl;exact Tz M F hr hb hd hx I1 r q
end
section
variable{X:Cx}{CX:CXT}{k:Nat}{f C:Addr}{fd:Xh}{ps ks:List Str}{sp:Sp}{E:XK}{x m:Str}{p pos apos kpos:Pos}{e o:Expr}{es:List Expr}{kws:List Z5}{te ta:TE}{t tk:TA}{nm:Option Str}
variable{g:List X0->List X0->List X0}{gV:List V->List V->List V}
end
structure FnScope (N P:List Str) (sc:Scope):Prop where
 kind:sc.kind=.function
 co:sc.isCoroutine=false
 gen:sc.isGenerator=false
 nd:N.Nodup
 pre:N.take P.length=P
 par:∀x∈P,sc.names.lookup x=some .local\/sc.names.lookup x=some .cell
 nofree:∀y∈sc.names,y.2≠.free
theorem mkSc {N P:List Str}{sc:Scope}(a:sc.kind=.function:=by rfl)(b:sc.isCoroutine=false:=by rfl)(c:sc.isGenerator=false:=by rfl)(d:N.Nodup:=by decide+kernel)(e:N.take P.length=P:=by rfl)(f:∀x∈P,sc.names.lookup x=some .local\/sc.names.lookup x=some .cell:=by decide+kernel)(g:∀y∈sc.names,y.2≠.free:=by decide+kernel):FnScope N P sc:=⟨a,b,c,d,e,f,g⟩
theorem Iw{kindOf:Str->Option Z6}:∀{binds:List (Str×X0)} {m:Str->Option X0},(∀v,(x,v)∉binds)->bindL kindOf binds m x=m x
 |[],_,_=>rfl
 |(n,v)::r,m,h=>by
  unfold bindL;rw[Iw λw hw=>h w (XR _ hw)];split
  ·have:x≠n:=by rintro rfl;exact h v Ye
   simp[this]
  ·rfl
theorem Ix{kindOf:Str->Option Z6}:∀{binds:List (Str×X0)} {m:Str->Option X0},(∀v,(x,v)∉binds)->bindC kindOf binds m x=m x
 |[],_,_=>rfl
 |(n,v)::r,m,h=>by
  unfold bindC;rw[Ix λw hw=>h w (XR _ hw)];split
  ·rfl
  ·have:x≠n:=by rintro rfl;exact h v Ye
   simp[this]
theorem Iy{kindOf:Str->Option Z6}:∀{P:List Str} {vs:List X0} {i:Nat} {m:Str->Option X0},P.Nodup->P[i]?=some x->vs[i]?=some v->kindOf x=some .local->
  bindL kindOf (P.zip vs) m x=some v
 |[],_,_,_,_,h,_,_=>by simp at h
 |_::_,[],_,_,_,_,h,_=>by simp at h
 |p::P,w::vs,0,m,nd,h1,h2,hk=>by
  simp at h1 h2;subst h1;subst h2;show bindL kindOf ((p,w)::P.zip vs) m p=_;unfold bindL;rw[Iw λv hv=>(YB.mp nd).1 (DB hv).1,if_pos hk];simp
 |p::P,w::vs,i+1,m,nd,h1,h2,hk=>by
  show bindL kindOf ((p,w)::P.zip vs) m x=_;unfold bindL;exact Iy (i:=i) (YB.mp nd).2 (by simpa using h1) (by simpa using h2) hk
theorem Iz{kindOf:Str->Option Z6}:∀{P:List Str} {vs:List X0} {i:Nat} {m:Str->Option X0},P.Nodup->P[i]?=some x->vs[i]?=some v->kindOf x≠some .local->
  bindC kindOf (P.zip vs) m x=some v
 |[],_,_,_,_,h,_,_=>by simp at h
 |_::_,[],_,_,_,_,h,_=>by simp at h
 |p::P,w::vs,0,m,nd,h1,h2,hk=>by
  simp at h1 h2;subst h1;subst h2;show bindC kindOf ((p,w)::P.zip vs) m p=_;unfold bindC;rw[Ix λv hv=>(YB.mp nd).1 (DB hv).1,if_neg hk];simp
 |p::P,w::vs,i+1,m,nd,h1,h2,hk=>by
  show bindC kindOf ((p,w)::P.zip vs) m x=_;unfold bindC;exact Iz (i:=i) (YB.mp nd).2 (by simpa using h1) (by simpa using h2) hk
def ZH(N:List Str)(vs:List V):St:=vs.map some++Xi (N.length - vs.length) none
noncomputable def cxOf(CX:CXT)(P:Xv)(w:Xm)(K:X4)(mg:Str->Option X0)(base:Heap)(N:List Str)(qual:Str)(scope:Scope)(f:Addr)(cd:X0)(A:XB)(outer:List Env)(s:X2)(H:Hp)(E:XK):Cx where
 prog:=P
 w:=w
 K:=K
 mg:=mg
 base:=base
 A:=A.deeper (envOfC qual scope s.heap.objs.size f cd)
 N:=N
 s₀:=s
 H₀:=H
 env:=envOfC qual scope s.heap.objs.size f cd
 outer:=outer
 stack:=envOfC qual scope s.heap.objs.size f cd::outer
 ex:=[]
 calm:=true
 fn:=λ_=>true
 pn:=[]
 xe:=λe s'=>X3 (X6 P w) (A.deeper (envOfC qual scope s.heap.objs.size f cd)) (leaving (envOfC qual scope s.heap.objs.size f cd) e) (λ_ s''=>CX outer H s E e s'') (λe' s''=>CX outer H s E e' s'') s'
theorem IA{sc:Scope}{n:Nat}{x:Str}(h:sc.names.lookup x=some .cell):∃c,(cellsFrom n sc.names []).lookup x=some c:=by
 have q:=Hg sc.names n [] (.inl h);exact Option.isSome_iff_exists.mp q
theorem TC{CX:CXT}{P:Xv}{w:Xm}{K:X4}{mg:Str->Option X0}{base:Heap}{N ps:List Str}{qual:Str}{scope:Scope}{f:Addr}{cd:X0}{A:XB}{outer:List Env}{s s1:X2}{H:Hp}{E:XK}{us:List X0}{vs:List V}
  (S:FnScope N ps scope) (hd:A.handled=none) (e0:Env0 P w K mg base A outer s H) (hl:vs.length=ps.length) (r:Vals vs us)
  (x:InCallC s s.heap.objs.size (bindL (envOfC qual scope s.heap.objs.size f cd).kindOf (ps.zip us) λ_=>none) (cellsFrom (s.heap.objs.size+1) scope.names []) (bindC (envOfC qual scope s.heap.objs.size f cd).kindOf (ps.zip us) λ_=>none) s1):
  Inv (cxOf CX P w K mg base N qual scope f cd A outer s H E) [] (ZH N vs) H s1:=by
 have hpl:ps.length≤N.length:=by have:=congrArg Wv S.pre;rw[YI]at this;lia
 obtain⟨h1,tk,rfl,hk⟩:=x.done;have noA:∀b:Addr,b∉(cxOf CX P w K mg base N qual scope f cd A outer s H E).ex:=λb z=>absurd (show b∈([]:List Addr)from z) (by simp)
 refine⟨⟨e0.mod,S.kind,rfl,rfl,Xg _,λy z c h1 h2=>?_,λy hy=>?_,λy c _ h=>?_,λ_=>hd,Around.frames_deeper e0.frames,.inr ⟨rfl,rfl⟩,λb z=>absurd z (noA b),e0.bs,e0.bsz,λb _ _=>noA b,λb z=>absurd z (noA b),e0.funs,e0.frf⟩,
  rfl,e0.bare,Un.kept hk,⟨_,x.toInCall.ns,λi y v h1 h2 h3=>?_⟩,λy c h=>⟨_,x.cell y c h⟩,e0.hok.fresh (Xg _),λy c h=>?_,λp hp=>absurd (show p∈([]:List (Addr×Obj))from hp) (by simp),e0.hok.kept hk,?_⟩
 ·exact name_of_addr x.apart (VS h1) (VS h2)
 ·have hy:scope.names.lookup y=some .cell\/scope.names.lookup y=some .free:=hy;rcases hy with hy|hy
  ·exact IA hy
  ·exact absurd rfl (S.nofree _ (VS hy))
 ·exact BY (x.above y c (VS h))
 ·have hi:i<vs.length:=by
   unfold ZH at h2;by_cases hi:i<vs.length
   ·exact hi
   ·rw[Zy (by simpa using hi)]at h2
    rw[Hd]at h2;split at h2<;>cases h2
  have ha:vs[i]?=some v:=by
   unfold ZH at h2;rw[U1 (by simpa using hi),Xq]at h2
   cases e:vs[i]? with
   |none=>rw[e]at h2;cases h2
   |some a=>rw[e]at h2;cases h2;rfl
  obtain⟨u,hu,rv⟩:=r.get ha;have hp:ps[i]?=some y:=by
   rw[<- S.pre,List.getElem?_take_of_lt (by lia)];exact h1
  have ndP:ps.Nodup:=by rw[<- S.pre];exact S.nd.sublist (List.take_sublist _ _)
  refine⟨u,rv,?_⟩;rcases S.par y (Xz hp)with k|k
  ·exact .inl ⟨k,Iy ndP hp hu k⟩
  ·obtain⟨c,e⟩:=IA (n:=s.heap.objs.size+1) k;refine .inr ⟨.inl k,c,e,?_⟩;have q:=x.cell y c e;rw[Iz ndP hp hu (by show scope.names.lookup y≠_;rw[k];decide)]at q
   exact q
 ·exact e0.hok.fresh (BY (x.above y c (VS h)))
 ·unfold ZH;show _=N.length;rw[Yw,Xa,Z9];lia
theorem TD{K:X4}{k:Nat}{name:Str}{kV:X0}
    (lk:K.lookup f=some ⟨oc,od,.func (Y9 name qual params body scope dV kV doc pm an cdv ct),osl⟩) (hcd:Yx K cdv qual=true) (S:FnScope N ps scope)
  (len:∀vs H Q E,sp vs H Q E->vs.length=ps.length)
  (hbody:∀(A:XB) (outer:List Env) (s:X2) (H:Hp) (vs:List V) (Q:VK) (E:XK),Room k (A.deeper (envOfC qual scope s.heap.objs.size f cdv))->sp vs H Q E->
   ∃t,PSs (cxOf CX P w K mg base N qual scope f cdv A outer s H E) body t/\t {nx:=λ_ H'=>Q .non H',rt:=Q} (ZH N vs) H):
  FnOk P w K mg base CX (k+1) f (Y9 name qual params body scope dV kV doc pm an cdv ct) ps sp:=by
 refine⟨len,λA outer s H args us vs Q E hr e0 hb r hsp=>?_⟩;have hl:=len _ _ _ _ hsp;have KX:K.In s.heap:=e0.mod.kin.keeps λb o e=>(e0.bs b o e).1;have lim:s.heap.NoLimit:=e0.mod.nolimit.keeps λb o e=>(e0.bs b o e).1;have hkind:∀y∈ps.zip us,scope.names.lookup y.1=some .local\/(scope.names.lookup y.1=some .cell/\((cellsFrom (s.heap.objs.size+1) scope.names []).lookup y.1).isSome=true):=fun⟨n,v⟩ hy=>by
  rcases S.par n (DB hy).1 with q|q
  ·exact .inl q
  ·exact .inr ⟨q,Hg _ _ _ (.inl q)⟩
 refine codeAny_call_function hr.depth (KX _ _ lk) rfl S.co S.gen rfl (PySem.W.codeRec_of KX hcd) (hb _ _ _ _ ?_);refine wpAny_newFunctionEnv_cells S.kind hkind λenv he s1 x=>?_;subst he;refine⟨lim.keeps x.toInCall.keep,codeAny_func ?_⟩;obtain⟨t,ht,hq⟩:=hbody A outer s H vs Q E (hr.deeper _) hsp;have I:Inv (cxOf CX P w K mg base N qual scope f cdv A outer s H E) [] (ZH N vs) H s1:=TC S hr.hd e0 hl r x;refine Zt (ht [] s1 (ZH N vs) H _ I hq) (λfl s' hs=>?_) λe s' hs=>hs;have fin:∀{σ':St} {H':Hp} {v:V} {u:X0},Inv (cxOf CX P w K mg base N qual scope f cdv A outer s H E) [] σ' H' s'->RelV v u->Q v H'->CE outer P w H s Q u s':=
  fun{σ' H' v u} J rv q=>⟨v,H',J.os,J.bare,J.base,J.hok,rv,q⟩
 cases fl with
 |ret u=>
  obtain⟨v,σ',H',J,rv,q⟩:=hs;exact fin J rv q
 |next=>
  obtain⟨σ',H',J,q⟩:=hs;exact fin (v:=V.non) (u:=Xt) J rfl q
 |brk=>
  obtain⟨_,_,_,q⟩:=hs;exact Y7 q
 |cont=>
  obtain⟨_,_,_,q⟩:=hs;exact Y7 q
section
variable{X:Cx}{x:Str}{p pos:Pos}{e:Expr}{es:List Expr}{t:TA}{id T:String}{r:List V->Hp->VK->Prop}
def tCB(r:List V->Hp->VK->Prop)(t:TA):TE:=λσ H Q=>t σ H λvs H1=>r vs H1 Q
theorem TF(hc:Yg X (.builtin id) r)(hg:Gl X x)(hm:X.mg x=none)(hv:YA x=some (.builtin id))(ha:PA X (e::es) t)(hn:x≠"__name__":=by decide)(hdb:(x==("__debug__":Str))=false:=by decide)
  (he:Xw (e::es) X.env=(false,eval e X.env)::Xw es X.env:=by rfl) (hpl:(XZ pos (Xw es X.env)).any (·.1)=false:=by rfl):PE X (.Call (.Name x p) (e::es) [] pos) (tCB r t):=by
 intro pins s σ H Q I h;refine Ux (_F I hg hm hv ?_ hn hdb);exact Hj (thn (ha pos pins s σ H _ I h) λus s1 ⟨vs,H1,I1,r1,q1⟩=>hc pins s1 σ H1 vs us Q I1 r1 q1) he hpl
theorem TH(hc:Yg X (.type T) r)(hg:Gl X x)(hm:X.mg x=none)(hv:YA x=some (.type T))(ha:PA X (e::es) t)(hn:x≠"__name__":=by decide)(hdb:(x==("__debug__":Str))=false:=by decide)
  (he:Xw (e::es) X.env=(false,eval e X.env)::Xw es X.env:=by rfl) (hpl:(XZ pos (Xw es X.env)).any (·.1)=false:=by rfl):PE X (.Call (.Name x p) (e::es) [] pos) (tCB r t):=by
 intro pins s σ H Q I h;refine Ux (_F I hg hm hv ?_ hn hdb);exact V8 (thn (ha pos pins s σ H _ I h) λus s1 ⟨vs,H1,I1,r1,q1⟩=>hc pins s1 σ H1 vs us Q I1 r1 q1) he hpl
end
end L2
namespace HT
open PySem PyProof.Rows
section
open PySem.SeqAt
open PySem.AutoSeq1 (wpAny_loadPart')
open PySem.MeetsSeq PySem.MeetsSeq2 PySem.MeetsSeq3
end
section
variable{prog:Xv}{w:Xm}{A:XB}{E:X0->X2->Prop}{s:X2}
theorem cat_tup{t:Addr}(ht:IsTup s.heap t vs.toArray)(hb:IsTup s.heap b ws.toArray)(hv:vs≠ [])
  (h1:ws=[]->Q (.ref t) s) (h2:ws≠ []->Q (.ref s.heap.objs.size) {s with heap:=s.heap.push {cls:=.type "tuple",data:=.seq (vs++ws).toArray} })
  (hsz:vs.length+ws.length≤sizeLine):X3 (X6 prog w) A (Yi .Add (.ref t) (.ref b)) Q E s:=by
 obtain⟨⟨cls,dd,data,sl⟩,ho,hc,n,hd⟩:=id ht;obtain⟨⟨cls2,dd2,data2,sl2⟩,ho2,hc2,n2,hd2⟩:=id hb;simp only at hc hd hc2 hd2;subst hc hd hc2 hd2;have e:vs.toArray++ws.toArray=(vs++ws).toArray:=by simp
 by_cases hw:ws=[]
 ·exact concat_meets ⟨_,ho,rfl⟩ ⟨_,ho2,rfl⟩ noFill_tuple_add seq_tuple_add HC Hz (Hx _ _)
   (tuple_addW1 t b vs.toArray ws.toArray n n2 dd dd2 sl sl2 (by simpa using hv) (by simp[hw])) ⟨ho,ho2,h1 hw⟩
 ·refine concat_meets ⟨_,ho,rfl⟩ ⟨_,ho2,rfl⟩ noFill_tuple_add seq_tuple_add HC Hz (Hx _ _)
   (tuple_addW2 t b vs.toArray ws.toArray n n2 dd dd2 sl sl2 (by simpa using hv) (by simpa using hw) (by rw[XQ,XQ];exact hsz)) ⟨ho,ho2,?_⟩
  rw[e];exact h2 hw
noncomputable def sIx(n d:Nat):Option Int->Nat
 |none=>d
 |some v=>if v<0 then(v+(n:Int)).toNat else min v.toNat n
theorem sIx_none(n d:Nat):sIx n d none=d:=rfl
theorem sIx_nat(n d k:Nat):sIx n d (some (k:Int))=min k n:=by
 show(if(k:Int)<0 then((k:Int)+(n:Int)).toNat else min (k:Int).toNat n)=min k n;rw[if_neg (by lia),YL]
theorem TJ(n d:Nat)(hd:d≤n)(o:Option Int):sIx n d o≤n:=by
 cases o with
 |none=>exact hd
 |some v=>
  show(if v<0 then(v+(n:Int)).toNat else min v.toNat n)≤n;by_cases hv:v<0
  ·rw[if_pos hv];lia
  ·rw[if_neg hv];exact Nat.min_le_right _ _
theorem IB(v:Int)(n d:Nat):(if v<0 then max (v+(n:Int)) 0 else min v (n:Int))=((sIx n d (some v):Nat):Int):=by
 show(if v<0 then max (v+(n:Int)) 0 else min v (n:Int))=(((if v<0 then(v+(n:Int)).toNat else min v.toNat n):Nat):Int);by_cases hv:v<0
 ·simp only[if_pos hv];lia
 ·simp only[if_neg hv];lia
theorem TK(lo hi:Option Int)(n:Nat):DS lo hi 1 (n:Int)=(((sIx n 0 lo:Nat):Int),((sIx n n hi:Nat):Int)):=by
 have h1:¬((1:Int)<0):=by lia
 unfold DS;simp only[h1,if_false];refine Prod.ext ?_ ?_
 ·cases lo with
  |none=>rfl
  |some v=>exact IB v n 0
 ·cases hi with
  |none=>rfl
  |some v=>exact IB v n n
theorem TL(i j:Nat):C8 (i:Int) (j:Int) 1=j - i:=by
 unfold C8;have h1:(1:Int)>0:=by lia
 simp only[h1,if_true,Int.ediv_one];split<;>lia
theorem IC(p:IsPart v o)(h:Q o s):X3 (X6 prog w) A (Builtin.Slice.slicePartIndex v) Q E s:=by
 cases p with
 |none=>exact slicePart_none h
 |int i t=>exact slicePart_int h
theorem ID{sl:Addr}{vl vu:X0}{lo hi:Option Int}{n:Nat}{Q:Int×Int×Nat->X2->Prop}(hs:s.heap.IsSliceOf sl vl vu .none)(pl:IsPart vl lo)(pu:IsPart vu hi)
  (h:Q (((sIx n 0 lo:Nat):Int),1,sIx n n hi - sIx n 0 lo) s):X3 (X6 prog w) A (Ht (.ref sl) (pure (n:Int))) Q E s:=by
 obtain⟨os,hos,hcs,hds⟩:=id hs;unfold Ht Builtin.Slice.sliceFields;refine X1 (X1 (wpAny_field hos hds (x:=vl) rfl (X1 (wpAny_field hos hds (x:=vu) rfl (X1 (wpAny_field hos hds (x:=.none) rfl (X8 ?_)))))));refine X1 (slicePart_none ?_);show X3 _ _ (if((1:Int)==0)=true then _ else _) _ _ s;rw[if_neg (by decide)]
 refine X1 (IC pl (X1 (IC pu (X1 (X8 ?_)))));show X3 _ _ (match DS lo hi 1 (n:Int)with|(lo,hi)=>pure (lo,(1:Int),C8 lo hi 1)) _ _ s
 rw[TK lo hi n];show X3 _ _ (pure (((sIx n 0 lo:Nat):Int),(1:Int),C8 ((sIx n 0 lo:Nat):Int) ((sIx n n hi:Nat):Int) 1)) _ _ s;rw[TL];exact X8 h
theorem TM(xs:Array X0)(i k:Nat):((Xr k).filterMap fun(m:Nat)=>xs[((i:Int)+(m:Int)*1).toNat]?).toArray=((xs.toList.drop i).take k).toArray:=by
 have e:(fun(m:Nat)=>xs[((i:Int)+(m:Int)*1).toNat]?)=λm=>xs[i+m]?:=by
  funext m
  have:((i:Int)+(m:Int)*1).toNat=i+m:=by lia
  rw[this]
 rw[e];have:=pick_run xs i k;rw[List.filterMap_map]at this;have e2:((λx=>xs[x]?)∘ λx=>i+x)=λm=>xs[i+m]?:=rfl;rw[e2]at this;rw[this]
theorem getItem_tuple_cut{t:Addr}{items:Array X0}{lo:Option Int}(ht:IsTup s.heap t items)(hs:s.heap.IsSliceOf sl vl vu .none)(pl:IsPart vl lo)(pu:IsPart vu hi)
  (hw:¬(sIx items.size 0 lo=0/\sIx items.size items.size hi=items.size))
  (h:Q (.ref s.heap.objs.size) {s with heap:=s.heap.push {cls:=.type "tuple",data:=.seq ((items.toList.drop (sIx items.size 0 lo)).take (sIx items.size items.size hi - sIx items.size 0 lo)).toArray} })
  (hsz:items.size≤sizeLine):X3 (X6 prog w) A (getItem (.ref t) (.ref sl)) Q E s:=by
 have htake:sizeOk (.seq ((items.toList.drop (sIx items.size 0 lo)).take (sIx items.size items.size hi - sIx items.size 0 lo)).toArray):=by
  show((items.toList.drop (sIx items.size 0 lo)).take (sIx items.size items.size hi - sIx items.size 0 lo)).toArray.size≤sizeLine;rw[XQ,YI,Wt,XY];lia
 have hj:sIx items.size items.size hi≤items.size:=TJ _ _ (Xg _) hi;obtain⟨os,hos,hcs,hds⟩:=id hs;have hTs:s.TypeIs (.ref sl) "slice":=⟨os,hos,hcs⟩;unfold getItem
 try with_reducible refine YH ?_
 first|refine X1 (X8 ?_)|skip
 refine X1 (wpAny_sequenceKey ht.typeIs (by decide) ?_)
 refine X1 (Bv (name:=Yf "__getitem__") ht.typeIs VQ
  (Z7 VQ ht.typeIs entry_tuple_getitem ?_ (args_tuple_getitem _ _)))
 show X3 _ _ (Hm (.ref t)>>= _) _ _ s;refine X1 (tupleItemsOf_ ht ?_);refine X1 (Zx hTs ?_);rw[if_pos (by decide)]
 refine X1 (ID hs pl pu ?_);have hno:¬((((sIx items.size 0 lo:Nat):Int)==0&&(1:Int)==1&&(sIx items.size items.size hi - sIx items.size 0 lo)==items.size)=true):=by
  intro q;rw[XX,XX]at q;have q1:((sIx items.size 0 lo:Nat):Int)=0:=eq_of_beq q.1.1;have q2:sIx items.size items.size hi - sIx items.size 0 lo=items.size:=eq_of_beq q.2;exact hw ⟨by lia,by lia⟩
 show X3 _ _ (if(((sIx items.size 0 lo:Nat):Int)==0&&(1:Int)==1&&(sIx items.size items.size hi - sIx items.size 0 lo)==items.size)=true then _ else _) _ _ s;rw[if_neg hno,TM]
 first
  |exact X1 (m:=C5 _) (U0 (X8 ⟨_,rfl,X8 h⟩) htake)
  |exact X1 (m:=C5 _) (U0 (X1 (X8 (X8 ⟨_,rfl,X8 h⟩))) htake)
  |exact X1 (X1 (m:=C5 _) (U0 (X8 (X8 ⟨_,rfl,X8 h⟩)) htake))
  |exact X1 (X1 (m:=C5 _) (U0 (X8 ⟨_,rfl,X8 h⟩) htake))
end
end HT
namespace L2
open PySem PySem.Spec PyProof.Rows
abbrev TO:=St->Hp->(Option Int->Hp->Prop)->Prop
def PO(X:Cx)(e:Option Expr)(t:TO):Prop:=
 ∀(pins:List (Addr×Obj)) (s:X2) (σ:St) (H:Hp) (Q:Option Int->Hp->Prop),Inv X pins σ H s->t σ H Q->
  X3 (X6 X.prog X.w) X.A (evalPart e X.env) (λu s'=>∃o H',Inv X pins σ H' s'/\IsPart u o/\Q o H') X.xe s
def TN:TO:=λ_ H Q=>Q none H
def TQ(t:TE):TO:=λσ H Q=>t σ H λx H1=>∃i,x=.int i/\Q (some i) H1
theorem IF:∀{us:List X0},Vals (ns.map V.int) us->IntsAre us ns:=by
 induction ns with
 |nil=>intro us r;rw[Yc]at r;cases r;exact .nil
 |cons n ns ih=>
  intro us r;rw[Xy]at r;cases r with
  |cons r1 r2=>
   obtain⟨t,e⟩:=r1;subst e;exact .cons n t (ih r2)
section
variable{X:Cx}{e:Expr}{te:TE}{lo hi:Option Expr}{tl th:TO}{pos p2:Pos}
theorem TR:PO X none TN:=by
 intro pins s σ H Q I h;rw[evalPart_none];exact X8 ⟨none,H,I,.none,h⟩
theorem TU(h:PE X e te):PO X (some e) (TQ te):=by
 intro pins s σ H Q I hw;rw[evalPart_some];refine thn (h pins s σ H _ I hw) λu s1 ⟨x,H1,I1,r1,q1⟩=>?_;obtain⟨i,rfl,q⟩:=q1;obtain⟨t,rfl⟩:=r1;exact⟨some i,H1,I1,.int i t,q⟩
def SlR(X:Cx)(r:V->Option Int->Option Int->Hp->VK->Prop):Prop:=
 ∀(pins:List (Addr×Obj)) (s:X2) (σ:St) (H:Hp) (x:V) (v vl vu:X0) (lo hi:Option Int) (sl:Addr) (Q:VK),Inv X pins σ H s->RelV x v->s.heap.IsSliceOf sl vl vu .none->IsPart vl lo->IsPart vu hi->r x lo hi H Q->
  ∃T id,Vr (.type T) "__getitem__"=pure (some (.builtin id))/\s.TypeIs v T/\X3 (X6 X.prog X.w) X.A (getItem v (.ref sl)) (EP X pins σ Q) X.xe s
noncomputable def tSl(r:V->Option Int->Option Int->Hp->VK->Prop)(te:TE)(tl th:TO):TE:=λσ H Q=>te σ H λx H1=>tl σ H1 λl H2=>th σ H2 λu H3=>r x l u H3 Q
theorem TV{r:V->Option Int->Option Int->Hp->VK->Prop}(hr:SlR X r)(he:PE X e te)(hl:PO X lo tl)(hu:PO X hi th):PE X (.Subscript e (.Slice lo hi none p2) pos) (tSl r te tl th):=by
 intro pins s σ H Q I h;refine Subscript_ (thn (he pins s σ H _ I h) λv s1 ⟨x,H1,I1,r1,q1⟩=>?_);refine wpAny_Slice (thn (hl pins s1 σ H1 _ I1 q1) λvl s2 ⟨l,H2,I2,pl,q2⟩=>thn (hu pins s2 σ H2 _ I2 q2) λvu s3 ⟨u,H3,I3,pu,q3⟩=>?_);rw[evalPart_none];refine X8 ?_;have I4:Inv X pins σ H3 {s3 with heap:=s3.heap.push {cls:=.type "slice",data:=.fields #[vl,vu,.none]} }:=I3.kept (t':=s3.toks) fun b ob q=>Xp _ q;obtain⟨T,id,hT,ht,hg⟩:=hr pins {s3 with heap:=s3.heap.push {cls:=.type "slice",data:=.fields #[vl,vu,.none]} } σ H3 x v vl vu l u s3.heap.objs.size Q I4 r1 (Heap.IsSliceOf.new ..) pl pu q3;show X3 (X6 X.prog X.w) X.A (subscriptTail e (.Slice lo hi none p2) v (.ref s3.heap.objs.size)) (EP X pins σ Q) X.xe {s3 with heap:=s3.heap.push {cls:=.type "slice",data:=.fields #[vl,vu,.none]} };exact tail_any (ops:=[.ref s3.heap.objs.size,v]) ht hT hg (by with_unfolding_all rfl)
noncomputable def cutV(xs:List V)(lo hi:Option Int):List V:=(xs.drop (HT.sIx xs.length 0 lo)).take (HT.sIx xs.length xs.length hi - HT.sIx xs.length 0 lo)
theorem IG(xs:List V)(lo hi:Option Int):(cutV xs lo hi).length≤xs.length:=by
 unfold cutV;rw[YI,Wt];lia
def rSlT(K:X4):V->Option Int->Option Int->Hp->VK->Prop:=λx lo hi H Q=>∃a xs,x=.ref a/\SqT K H a xs/\
 ¬(HT.sIx xs.length 0 lo=0/\HT.sIx xs.length xs.length hi=xs.length)/\∀p,H p=none->Q (.ref p) (upd H p (.tup (cutV xs lo hi)))
theorem TW:SlR X (rSlT X.K):=by
 intro pins s σ H x v vl vu lo hi sl Q I rx hs pl pu h;obtain⟨a,xs,rfl,hx,hw,q⟩:=h;cases rx;obtain⟨its,r,ht,hz⟩:=I.tuple hx;have hlen:its.toArray.size=xs.length:=by rw[XQ];exact r.length.symm
 refine⟨"tuple",_,VQ.lookup,ht.typeIs,?_⟩;refine HT.getItem_tuple_cut ht hs pl pu (by rw[hlen];exact hw) ?_ (by rw[hlen];exact hz)
 rw[hlen];refine⟨.ref s.heap.objs.size,_,I.laid (t':=s.toks) (o:=.tup (cutV xs lo hi)) (λb ob q=>Xp _ q) (Xg _) ?_,rfl,q _ (I.hok.fresh (Xg _))⟩;exact⟨Y4 (IG xs lo hi) hz,_,(r.drop (HT.sIx xs.length 0 lo)).take (HT.sIx xs.length xs.length hi - HT.sIx xs.length 0 lo),IsTup.new _ _,_,XM _ rfl,rfl⟩
def TX(K:X4):R2:=λx y H Q=>∃a b xs ys,x=.ref a/\y=.ref b/\SqT K H a xs/\SqT K H b ys/\xs≠ []/\xs.length+ys.length≤sizeLine/\
 (ys=[]->Q (.ref a) H)/\(ys≠ []->∀p,H p=none->Q (.ref p) (upd H p (.tup (xs++ys))))
theorem Vals.nil_iff(r:Vals xs us):us=[]↔xs=[]:=by
 cases r with
 |nil=>simp
 |cons _ _=>simp
theorem TY:OpR X (Yi .Add) (TX X.K):=by
 intro pins s σ H x y v u Q I rx ry h;obtain⟨a,b,xs,ys,rfl,rfl,ha,hb,hx,hz,q1,q2⟩:=h;cases rx;cases ry;obtain⟨its,r1,p1,_⟩:=I.tuple ha;obtain⟨its2,r2,p2,_⟩:=I.tuple hb;refine HT.cat_tup p1 p2 (λz=>hx (r1.nil_iff.mp z)) (λz=>⟨.ref a,H,I,rfl,q1 (r2.nil_iff.mp z)⟩) (λz=>?_) (by rw[<- r1.length,<- r2.length];exact hz)
 refine⟨.ref s.heap.objs.size,_,I.laid (t':=s.toks) (o:=.tup (xs++ys)) (λb ob q=>Xp _ q) (Xg _) ?_,rfl,q2 (λw=>z (r2.nil_iff.mpr w)) _ (I.hok.fresh (Xg _))⟩;exact⟨by rw[Yw];exact hz,_,r1.append r2,IsTup.new _ _,_,XM _ rfl,rfl⟩
end
noncomputable def ixN(n:Nat)(i:Int):Option Nat:=if 0≤i then(if i<n then some i.toNat else none)else if -(n:Int)≤i then some (i+n).toNat else none
def atI{α:Type}(xs:List α)(i:Int):Option α:=(ixN xs.length i).bind λj=>xs[j]?
theorem IH(h:ixN n i=some j):seqIndex? i n=some j/\j<n/\ -(n:Int)≤i/\i<n:=by
 unfold ixN at h;by_cases h0:0≤i
 ·rw[if_pos h0]at h;by_cases h1:i<n
  ·rw[if_pos h1]at h;have e:i.toNat=j:=Yb h;exact⟨by rw[seqIndex_of h0 h1,e],by lia,by lia,h1⟩
  ·rw[if_neg h1]at h;cases h
 ·rw[if_neg h0]at h;by_cases h1:-(n:Int)≤i
  ·rw[if_pos h1]at h;have e:(i+n).toNat=j:=Yb h;exact⟨by rw[seqIndex_neg (by lia) h1,e],by lia,h1,by lia⟩
  ·rw[if_neg h1]at h;cases h
theorem E8{α:Type}{xs:List α}{i:Int}{v:α}(h:atI xs i=some v):∃j,seqIndex? i xs.length=some j/\xs[j]?=some v/\j<xs.length/\ -(xs.length:Int)≤i/\i<xs.length:=by
 unfold atI at h;cases e:ixN xs.length i with
 |none=>rw[e]at h;cases h
 |some j=>
  rw[e]at h;obtain⟨h1,h2,h3,h4⟩:=IH e;exact⟨j,h1,h,h2,h3,h4⟩
theorem YE{α:Type}{xs:List α}{j:Nat}{v:α}(h:xs[j]?=some v):atI xs (j:Int)=some v:=by
 have hj:j<xs.length:=(XO.mp h).1;have e:ixN xs.length (j:Int)=some j:=by
  unfold ixN;rw[if_pos (by lia),if_pos (by lia)];simp
 unfold atI;rw[e];exact h
def II(b:Expr):Prop:=∀o i,subscripted b false o i=operate [o,i] (getItem o i)
def IxR(X:Cx)(r:R2):Prop:=
 ∀(value slice:Expr) (pins:List (Addr×Obj)) (s:X2) (σ:St) (H:Hp) (x y:V) (v u:X0) (Q:VK),Inv X pins σ H s->RelV x v->RelV y u->r x y H Q->
  subscripted slice false v u=operate [v,u] (getItem v u)->X3 (X6 X.prog X.w) X.A (subscriptTail value slice v u) (EP X pins σ Q) X.xe s
def MtR(X:Cx)(id:String)(r:V->List V->Hp->VK->Prop):Prop:=
 ∀(pins:List (Addr×Obj)) (s:X2) (σ:St) (H:Hp) (x:V) (xs:List V) (v:X0) (us:List X0) (Q:VK),Inv X pins σ H s->RelV x v->Vals xs us->r x xs H Q->
  X3 (X6 X.prog X.w) X.A (call (.builtin id) (v::us)) (EP X pins σ Q) X.xe s
section
variable{X:Cx}{a b:Expr}{ta tb:TE}{pos:Pos}
theorem TZ{r:R2}(hr:IxR X r)(ha:PE X a ta)(hb:PE X b tb)(hs:II b):PE X (.Subscript a b pos) (tOp r ta tb):=by
 intro pins s σ H Q I h;exact Subscript_ (binT ha hb I h λv u s2 x y H2 I2 rx ry q=>hr a b pins s2 σ H2 x y v u Q I2 rx ry q (hs _ _))
def rIxL(K:X4):R2:=λx y H Q=>∃p xs i v,x=.ref p/\y=.int i/\SqL K H p xs/\atI xs i=some v/\Q v H
def rIxT(K:X4):R2:=λx y H Q=>∃p xs i v,x=.ref p/\y=.int i/\SqT K H p xs/\atI xs i=some v/\Q v H
def rIxS:R2:=λx y H Q=>∃z i c,x=.str z/\y=.int i/\z.length≤sizeLine/\atI z.cps.toList i=some c/\Q (.str ⟨#[c]⟩) H
theorem IJ:IxR X (rIxL X.K):=by
 intro value slice pins s σ H x y v u Q I rx ry h hs;obtain⟨p,xs,i,z,rfl,rfl,hq,he,q⟩:=h;cases rx;obtain⟨t,rfl⟩:=ry;obtain⟨its,r,pl,hz⟩:=I.list hq;obtain⟨j,h1,h2,h3,h4,h5⟩:=E8 he;obtain⟨w,ew,rw'⟩:=r.get h2;have hl:=r.length;have hn:=VY;have fin:EP X pins σ Q w s:=⟨z,H,I,rw',q⟩;by_cases h0:0≤i
 ·have hj:i.toNat=j:=by
   rw[seqIndex_of h0 h5]at h1;exact Yb h1
  exact item_listR pl.isList h0 (by lia) (by rw[hj];simpa using ew) fin hs
 ·have hj:(i+(its.toArray.size:Int)).toNat=j:=by
   rw[seqIndex_neg (by lia) h4]at h1
   rw[XQ,<- hl];exact Yb h1
  exact subscriptTail_builtinR (x:=w) pl.isList.typeIs slot_list_getitem.lookup
   (wpAny_getItem_list_neg (Q:=λr s'=>r=w/\EP X pins σ Q r s') pl.isList (by lia) (by rw[XQ]<;>lia) (by lia) (by rw[hj];simpa using ew) ⟨rfl,fin⟩) hs
theorem _q1:IxR X (rIxT X.K):=by
 intro value slice pins s σ H x y v u Q I rx ry h hs;obtain⟨p,xs,i,z,rfl,rfl,hq,he,q⟩:=h;cases rx;obtain⟨t,rfl⟩:=ry;obtain⟨its,r,pl,hz⟩:=I.tuple hq;obtain⟨j,h1,h2,h3,h4,h5⟩:=E8 he;obtain⟨w,ew,rw'⟩:=r.get h2;have hl:=r.length;have hn:=VY;have fin:EP X pins σ Q w s:=⟨z,H,I,rw',q⟩;exact subscriptTail_builtinR (x:=w) pl.typeIs slot_tuple_getitem.lookup
  (getItem_tuple (j:=j) (Q:=λr s'=>r=w/\EP X pins σ Q r s') pl (by lia) (by lia) (by rw[XQ,<- hl];exact h1) (by simpa using ew) ⟨rfl,fin⟩) hs
theorem _q2:IxR X rIxS:=by
 intro value slice pins s σ H x y v u Q I rx ry h hs;obtain⟨z,i,c,rfl,rfl,hz,he,q⟩:=h;obtain⟨t,rfl⟩:=rx;obtain⟨t',rfl⟩:=ry;obtain⟨j,h1,h2,h3,h4,h5⟩:=E8 he;have hl:z.cps.toList.length=z.length:=by simp[C3]
 rw[hl]at h1 h4 h5;have hn:=VY;exact tail_any (typeIs_str s z t) slot_str_getitem.lookup (getItem_str (c:=c) (by
  have e1:decide (i< -(2^63:Int))=false:=decide_eq_false (by lia)
  have e2:decide (i ≥ 2^63)=false:=decide_eq_false (by lia)
  rw[e1,e2,Bool.or_false]) (by rw[h1];simpa using h2) ⟨.str ⟨#[c]⟩,H,I.tok _,⟨_,rfl⟩,q⟩) hs
theorem _hi(its:List X0)(n j:Nat)(u:X0):U9 (·.setIfInBounds j u) {cls:=.type "list",data:=.seq its.toArray n}={cls:=.type "list",data:=.seq (its.set j u).toArray n}:=by
 simp[U9]
theorem Inv.lst(I:Inv X pins σ H s)(h:H p=some (.lst xs)):
  ∃(its:List X0) (n:Nat),Vals xs its/\s.heap.get? p=some {cls:=.type "list",data:=.seq its.toArray n}/\xs.length≤sizeLine:=by
 obtain⟨z,its,n,r,e⟩:=I.hok p _ h;exact⟨its,n,r,e,z⟩
theorem Inv.lstUpd{pins:List (Addr×Obj)}{σ:St}{H:Hp}{s:X2}{p:Addr}{xs ys:List V}{its its':List X0}{n n':Nat}{f:Obj->Obj}(I:Inv X pins σ H s)(h:H p=some (.lst xs))
  (ho:s.heap.get? p=some {cls:=.type "list",data:=.seq its.toArray n}) (hf:f {cls:=.type "list",data:=.seq its.toArray n}={cls:=.type "list",data:=.seq its'.toArray n'}) (r:Vals ys its') (hz:ys.length≤sizeLine) (t:Nat):
  Inv X pins σ (upd H p (.lst ys)) {s with heap:=s.heap.update p f,toks:=t}:=by
 have e:(s.heap.update p f).get? p=some {cls:=.type "list",data:=.seq its'.toArray n'}:=by
  rw[UZ f ho (by rw[hf]<;>rfl),hf]
 refine I.write (x:=p) (e:=p) (by rw[h];trivial) (.inl rfl) (λb u hb q=>(VH _ _ (XN hb)).trans q) ⟨_,e⟩ ?_
 exact⟨hz,its',n',r,e⟩
def ZqO:V->V->V->Hp->(Hp->Prop)->Prop:=λo i v H Q=>∃p xs k j,o=.ref p/\i=.int k/\H p=some (.lst xs)/\ixN xs.length k=some j/\Q (upd H p (.lst (xs.set j v)))
theorem _ke:PSet X ZqO:=by
 intro pins s σ H o i v ov iv u Q I ro ri rv h;obtain⟨p,xs,k,j,rfl,rfl,hp,hj,q⟩:=h;cases ro;obtain⟨t,rfl⟩:=ri;obtain⟨its,n,r,ho,hz⟩:=I.lst hp;obtain⟨h1,h2,h3,h4⟩:=IH hj;have hl:=r.length;have hn:=VY;have I':Inv X pins σ (upd H p (.lst (xs.set j v))) {s with heap:=s.heap.update p (U9 (·.setIfInBounds j u))}:=
  I.lstUpd hp ho (_hi its n j u) (r.set rv j) (by rw[UC];exact hz) s.toks
 by_cases h0:0≤k
 ·have hk:k.toNat=j:=by
   rw[seqIndex_of h0 h4]at h1;exact Yb h1
  exact PySem.W.ki_setAt ho h0 (by lia) (by rw[XQ,<- hl];exact h4) (by rw[hk];exact⟨_,I',q⟩)
 ·have hk:(k+(its.toArray.size:Int)).toNat=j:=by
   rw[seqIndex_neg (by lia) h3]at h1
   rw[XQ,<- hl];exact Yb h1
  exact PySem.W.ki_setBack ho (by lia) (by rw[XQ,<- hl];exact h3) (by lia) (by rw[hk];exact⟨_,I',q⟩)
theorem E9(lo hi:Option Int)(n:Nat):(Z0 lo hi none n).1=((HT.sIx n 0 lo:Nat):Int)/\(Z0 lo hi none n).2.1=((HT.sIx n n hi:Nat):Int)/\(Z0 lo hi none n).2.2=1:=by
 refine⟨?_,?_,rfl⟩
 ·cases lo with
  |none=>simp[Z0,HT.sIx]
  |some i=>
   simp only[Z0,HT.sIx,Option.getD_none,show(1:Int)>0 by decide,if_true]
   by_cases h:i<0
   ·simp only[h,if_true]<;>lia
   ·simp only[h,if_false]<;>lia
 ·cases hi with
  |none=>simp[Z0,HT.sIx]
  |some i=>
   simp only[Z0,HT.sIx,Option.getD_none,show(1:Int)>0 by decide,if_true]
   by_cases h:i<0
   ·simp only[h,if_true]<;>lia
   ·simp only[h,if_false]<;>lia
theorem _d8(its:List X0)(lo hi:Option Int):slicePick its.toArray lo hi none=((its.drop (HT.sIx its.length 0 lo)).take (HT.sIx its.length its.length hi - HT.sIx its.length 0 lo)).toArray:=by
 obtain⟨h1,h2,h3⟩:=E9 lo hi its.toArray.size;unfold slicePick;rw[h1,h2,h3];simp only[sliceRange_one,pick_run,XQ]<;>rfl
def rSlL(K:X4):V->Option Int->Option Int->Hp->VK->Prop:=λx lo hi H Q=>∃a xs,x=.ref a/\SqL K H a xs/\∀p,H p=none->Q (.ref p) (upd H p (.lst (cutV xs lo hi)))
theorem IK:SlR X (rSlL X.K):=by
 intro pins s σ H x v vl vu lo hi sl Q I rx hs pl pu h;obtain⟨a,xs,rfl,hx,q⟩:=h;cases rx;obtain⟨its,r,ht,hz⟩:=I.list hx;have hlen:=r.length;refine⟨"list",_,slot_list_getitem.lookup,ht.isList.typeIs,?_⟩;refine wpAny_getItem_list_slice ht.isList hs pl pu .none (by simp) ?_ (by rw[XQ]<;>lia)
 rw[_d8,<- hlen];refine⟨.ref s.heap.objs.size,_,I.laid (t':=s.toks) (o:=.lst (cutV xs lo hi)) (λb ob q=>Xp _ q) (Xg _) ?_,rfl,q _ (I.hok.fresh (Xg _))⟩;exact⟨Y4 (IG xs lo hi) hz,_,0,(r.drop (HT.sIx xs.length 0 lo)).take (HT.sIx xs.length xs.length hi - HT.sIx xs.length 0 lo),XM _ rfl⟩
noncomputable def ZI:V->Bool
 |.non=>true
 |.bl _=>true
 |.int _=>true
 |.str _=>true
 |_=>false
noncomputable def eqV:V->V->Bool
 |.non,.non=>true
 |.bl a,.bl b=>a==b
 |.bl a,.int b=>(if a then 1 else 0)==b
 |.int a,.bl b=>a==(if b then 1 else 0)
 |.int a,.int b=>a==b
 |.str a,.str b=>a==b
 |_,_=>false
theorem IL(ry:RelV y u)(rx:RelV x v)(fy:ZI y=true)(fx:ZI x=true):SeqAt.EqAt A s u v (eqV y x):=by
 cases y with
 |non=>
  cases ry;cases x with
  |non=>cases rx;exact SeqAt.EqAt.same _
  |bl b=>cases rx;exact SeqAt.EqAt.none_bool b
  |int b=>obtain⟨t,rfl⟩:=rx;exact SeqAt.EqAt.none_int b t
  |str b=>obtain⟨t,rfl⟩:=rx;exact SeqAt.EqAt.none_str b t
  |_=>exact absurd (show false=true from fx) Xx
 |bl a=>
  cases ry;cases x with
  |non=>cases rx;exact SeqAt.EqAt.bool_none a
  |bl b=>cases rx;exact SeqAt.EqAt.bool_bool a b
  |int b=>obtain⟨t,rfl⟩:=rx;exact SeqAt.EqAt.bool_int a b t
  |str b=>obtain⟨t,rfl⟩:=rx;exact SeqAt.EqAt.bool_str a b t
  |_=>exact absurd (show false=true from fx) Xx
 |int a=>
  obtain⟨t',rfl⟩:=ry;cases x with
  |non=>cases rx;exact SeqAt.EqAt.int_none a t'
  |bl b=>cases rx;exact SeqAt.EqAt.int_bool a t' b
  |int b=>obtain⟨t,rfl⟩:=rx;exact SeqAt.EqAt.int_int a t' b t
  |str b=>obtain⟨t,rfl⟩:=rx;exact HS a t' b t
  |_=>exact absurd (show false=true from fx) Xx
 |str a=>
  obtain⟨t',rfl⟩:=ry;cases x with
  |non=>cases rx;exact SeqAt.EqAt.str_none a t'
  |bl b=>cases rx;exact SeqAt.EqAt.str_bool a t' b
  |int b=>obtain⟨t,rfl⟩:=rx;exact HU a t' b t
  |str b=>obtain⟨t,rfl⟩:=rx;exact SeqAt.EqAt.str_str a t' b t
  |_=>exact absurd (show false=true from fx) Xx
 |_=>exact absurd (show false=true from fy) Xx
def eqU(x:V)(u:X0):Bool:=match u with
 |.none=>eqV .non x
 |.bool b=>eqV (.bl b) x
 |.int i _=>eqV (.int i) x
 |.str z _=>eqV (.str z) x
 |_=>false
theorem IM(r:RelV y u)(f:ZI y=true):eqU x u=eqV y x:=by
 cases y with
 |non=>cases r;rfl
 |bl b=>cases r;rfl
 |int i=>obtain⟨t,rfl⟩:=r;rfl
 |str z=>obtain⟨t,rfl⟩:=r;rfl
 |_=>exact absurd (show false=true from f) Xx
theorem WI:∀{xs:List V} {us:List X0},Vals xs us->xs.all ZI=true->us.any (eqU x)=xs.any λy=>eqV y x
 |_,_,.nil,_=>rfl
 |y::xs,u::us,.cons r t,f=>by
  rw[UW,XX]at f;rw[ZB,ZB,IM r f.1,WI t f.2]
theorem WJ(rx:RelV x v)(fx:ZI x=true):∀{xs:List V} {us:List X0},Vals xs us->xs.all ZI=true->∀u∈us,SeqAt.EqAt A s u v (eqU x u)
 |_,_,.nil,_=>λu hu=>by cases hu
 |y::xs,u::us,.cons r t,f=>λu' hu=>by
  rw[UW,XX]at f;rcases Xl.mp hu with rfl|hu
  ·rw[IM r f.1];exact IL r rx f.1 fx
  ·exact WJ rx fx t f.2 u' hu
def inV(x:V)(xs:List V):Bool:=xs.any λy=>eqV y x
def rIn(K:X4)(neg:Bool):R2:=λx y H Q=>∃p xs,y=.ref p/\(SqL K H p xs\/SqT K H p xs)/\ZI x=true/\xs.all ZI=true/\Q (.bl (if neg then !inV x xs else inV x xs)) H
theorem Ea:OpR X (Y0 .In) (rIn X.K false):=by
 intro pins s σ H x y v u Q I rx ry h;obtain⟨p,xs,rfl,hq,fx,fs,q⟩:=h;cases ry;rcases hq with hq|hq
 ·obtain⟨its,r,pl,hz⟩:=I.list hq;refine SeqAt.in_listAt (eqU x) pl.isList (λw hw=>WJ rx fx r fs w (by simpa using hw)) ⟨.bl _,H,I,rfl,?_⟩
  rw[show its.toArray.any (eqU x)=its.any (eqU x) by simp,WI r fs]
  exact q
 ·obtain⟨its,r,pl,hz⟩:=I.tuple hq;refine SeqAt.in_tupleAt (eqU x) pl (λw hw=>WJ rx fx r fs w (by simpa using hw)) ⟨.bl _,H,I,rfl,?_⟩
  rw[show its.toArray.any (eqU x)=its.any (eqU x) by simp,WI r fs]
  exact q
theorem Eb:OpR X (Y0 .NotIn) (rIn X.K true):=by
 intro pins s σ H x y v u Q I rx ry h;obtain⟨p,xs,rfl,hq,fx,fs,q⟩:=h;cases ry;rcases hq with hq|hq
 ·obtain⟨its,r,pl,hz⟩:=I.list hq;refine SeqAt.notIn_listAt (eqU x) pl.isList (λw hw=>WJ rx fx r fs w (by simpa using hw)) ⟨.bl _,H,I,rfl,?_⟩
  rw[show its.toArray.any (eqU x)=its.any (eqU x) by simp,WI r fs]
  exact q
 ·obtain⟨its,r,pl,hz⟩:=I.tuple hq;refine SeqAt.notIn_tupleAt (eqU x) pl (λw hw=>WJ rx fx r fs w (by simpa using hw)) ⟨.bl _,H,I,rfl,?_⟩
  rw[show its.toArray.any (eqU x)=its.any (eqU x) by simp,WI r fs]
  exact q
theorem Ec:Yg X (.builtin "len") (fun xs H Q=>∃p ys,xs=[.ref p]/\(SqL X.K H p ys\/SqT X.K H p ys)/\Q (.int ys.length) H):=by
 intro pins s σ H xs us Q I r h;obtain⟨p,ys,rfl,hq,q⟩:=h;obtain⟨u,rfl,rx⟩:=YX r;cases rx;have hn:=VY;rcases hq with hq|hq
 ·obtain⟨its,r',pl,hz⟩:=I.list hq;have hlen:=r'.length;exact Calls.call_len_list pl.isList (by simp only[XQ]<;>lia) ⟨.int ys.length,H,I.tok _,⟨s.toks+1,by rw[XQ,hlen]⟩,q⟩
 ·obtain⟨its,r',pl,hz⟩:=I.tuple hq;have hlen:=r'.length;exact len_tuple pl (by simp only[XQ]<;>lia) ⟨.int ys.length,H,I.tok _,⟨s.toks+1,by rw[XQ,hlen]⟩,q⟩
theorem _f3:Yg X (.builtin "len") (fun xs H Q=>∃z,xs=[.str z]/\z.length≤sizeLine/\Q (.int z.length) H):=by
 intro pins s σ H xs us Q I r h;obtain⟨z,rfl,hz,q⟩:=h;obtain⟨u,rfl,t,rfl⟩:=YX r;have hn:=VY;exact len_str (by lia) ⟨.int z.length,H,I.tok _,⟨_,rfl⟩,q⟩
theorem Ed:Yg X (.type "list") (fun xs H Q=>∃p ys,xs=[.ref p]/\(SqL X.K H p ys\/SqT X.K H p ys)/\∀l,H l=none->Q (.ref l) (upd H l (.lst ys))):=by
 intro pins s σ H xs us Q I r h;obtain⟨p,ys,rfl,hq,q⟩:=h;obtain⟨u,rfl,rx⟩:=YX r;cases rx;have fin:∀(its:List X0),Vals ys its->ys.length≤sizeLine->∀(h':Heap) (c':Nat),(∀b o',s.heap.get? b=some o'->h'.get? b=some o')->
   h'.get? s.heap.objs.size=some {cls:=.type "list",dict:=none,data:=.seq its.toArray c',slots:=#[]}->EP X pins σ Q (.ref s.heap.objs.size) {s with heap:=h'}:=fun its r' hz h' c' kp e=>
  ⟨.ref s.heap.objs.size,_,I.laid (t':=s.toks) kp (Xg _) (show ObjOk X.prog X.w _ h' _ (.lst ys)from⟨hz,its,c',r',e⟩),rfl,q _ (I.hok.fresh (Xg _))⟩
 rcases hq with hq|hq
 ·obtain⟨its,r',pl,hz⟩:=I.list hq;have hlen:=r'.length;obtain⟨o,ho,hc,n,hd⟩:=pl.isList;exact call_list_seq p (.inl rfl) ho hc hd (λh' c' kp e=>fin its r' hz h' c' kp e) (by simp only[XQ]<;>lia)
 ·obtain⟨its,r',pl,hz⟩:=I.tuple hq;have hlen:=r'.length;obtain⟨o,ho,hc,n,hd⟩:=pl;exact call_list_seq p (.inr rfl) ho hc hd (λh' c' kp e=>fin its r' hz h' c' kp e) (by simp only[XQ]<;>lia)
theorem Ee:Yg X (.type "tuple") (fun xs H Q=>∃p ys,xs=[.ref p]/\((SqL X.K H p ys/\∀l,H l=none->Q (.ref l) (upd H l (.tup ys)))\/(SqT X.K H p ys/\Q (.ref p) H))):=by
 intro pins s σ H xs us Q I r h;obtain⟨p,ys,rfl,h⟩:=h;obtain⟨u,rfl,rx⟩:=YX r;cases rx;rcases h with⟨hq,q⟩|⟨hq,q⟩
 ·obtain⟨its,r',pl,hz⟩:=I.list hq;have hlen:=r'.length;refine call_tuple_list pl.isList (λh' kp=>?_) (by simp only[XQ]<;>lia)
  have I1:Inv X pins σ H {s with heap:=h'}:=I.kept (t':=s.toks) kp;have I2:Inv X pins σ (upd H h'.objs.size (.tup ys)) {s with heap:=h'.push {cls:=.type "tuple",data:=.seq its.toArray} }:=
   I1.laid (t':=s.toks) (λb o e=>Xp _ e) (Xg _) (show ObjOk X.prog X.w _ _ _ (.tup ys)from⟨hz,its,r',IsTup.new _ _,_,XM _ rfl,rfl⟩)
  exact⟨.ref h'.objs.size,_,I2,rfl,q _ (I1.hok.fresh (Xg _))⟩
 ·obtain⟨its,r',pl,hz⟩:=I.tuple hq;exact call_tuple_same pl ⟨.ref p,H,I,rfl,q⟩
def tyV(K:X4)(T:String)(x:V)(H:Hp):Prop:=match x with
 |.str _=>T="str"
 |.int _=>T="int"
 |.ref p=>(T="list"/\∃xs,SqL K H p xs)\/(T="tuple"/\∃o,K.lookup p=some o/\o.cls=.type "tuple"/\o.dict=none)\/
   (T="dict"/\((∃kvs,H p=some (.dK kvs))\/∃kvs,H p=some (.dT kvs)))\/(T="set"/\∃S n,H p=some (.set S n))
 |_=>False
theorem IN(I:Inv X pins σ H s)(r:RelV x v)(ty:tyV X.K T x H):
  s.TypeIs v T/\∀a,v=.ref a->∃ob,s.heap.get? a=some ob/\ob.dict=none:=by
 cases x with
 |str z=>
  obtain⟨t,rfl⟩:=r;cases(show T="str" from ty);exact⟨typeIs_str s z t,λ_ e=>nomatch e⟩
 |int i=>
  obtain⟨t,rfl⟩:=r;cases(show T="int" from ty);exact⟨typeIs_int s i t,λ_ e=>nomatch e⟩
 |ref p=>
  cases r;rcases ty with⟨rfl,xs,hq⟩|⟨rfl,o,hk,hc,hd⟩|⟨rfl,hk⟩|⟨rfl,S,n,hk⟩
  ·obtain⟨its,_,pl,_⟩:=I.list hq;refine⟨pl.isList.typeIs,λa e=>?_⟩;cases e;obtain⟨o,n,e,c,hd,_⟩:=pl;exact⟨o,e,hd⟩
  ·refine⟨⟨o,I.kIn p o hk,hc⟩,λa e=>?_⟩;cases e;exact⟨o,I.kIn _ o hk,hd⟩
  ·have z:∃o,s.heap.get? p=some o/\o.ExactDict:=by
    rcases hk with⟨kvs,hk⟩|⟨kvs,hk⟩
    ·obtain⟨_,_,_,_,o,_,_,e,ex,_⟩:=I.hok p _ hk;exact⟨o,e,ex⟩
    ·obtain⟨_,_,_,_,o,_,_,e,ex,_⟩:=I.hok p _ hk;exact⟨o,e,ex⟩
   obtain⟨o,e,ex⟩:=z;refine⟨⟨o,e,ex.1⟩,λa e2=>?_⟩;cases e2;exact⟨o,e,ex.2.1⟩
  ·obtain⟨o,_,_,_,e,ex,_⟩:=I.hok p _ hk;refine⟨⟨o,e,ex.1⟩,λa e2=>?_⟩;cases e2;exact⟨o,e,ex.2.1⟩
 |_=>exact Y7 ty
def tBM0(K:X4)(T:String)(r:V->List V->Hp->VK->Prop)(to:TE):TE:=λσ H Q=>to σ H λx H1=>tyV K T x H1/\r x [] H1 Q
def tBM(K:X4)(T:String)(r:V->List V->Hp->VK->Prop)(to:TE)(t:TA):TE:=λσ H Q=>to σ H λx H1=>tyV K T x H1/\t σ H1 λxs H2=>r x xs H2 Q
variable{o e:Expr}{es:List Expr}{to:TE}{t:TA}{name:Str}{apos cpos:Pos}{T id:String}{r:V->List V->Hp->VK->Prop}
theorem _pv(pa:PlainAttrs T)(slot:Slot T name id)(hty:typeOf (.builtin id)=pure (.type "method_descriptor"))(hm:MtR X id r)(ho:PE X o to)
  (hbase:Uw o name X.env (eval o X.env)=eval o X.env:=by rfl) (hline:(apos.endLine==cpos.line)=true:=by rfl):PE X (.Call (.Attribute o name apos) [] [] cpos) (tBM0 X.K T r to):=by
 intro pins s σ H Q I h;refine wpAny_Call_method0_late hbase hline (thn (ho pins s σ H _ I h) λv s1 ⟨x,H1,I1,r1,ty,q1⟩=>?_);obtain⟨h1,h2⟩:=IN I1 r1 ty;exact⟨T,id,pa,slot,hty,h1,h2,HP rfl (PySem.evalArgs_none (hm pins s1 σ H1 x [] v [] Q I1 r1 .nil q1))⟩
theorem _rE(pa:PlainAttrs T)(slot:Slot T name id)(hty:typeOf (.builtin id)=pure (.type "method_descriptor"))(hm:MtR X id r)(ho:PE X o to)(ha:PA X (e::es) t)
  (hbase:Uw o name X.env (eval o X.env)=eval o X.env:=by rfl)
  (hfew:((XZ cpos (Xw (e::es) X.env)).all (λx=>!x.1)&&(ZY cpos (ZZ [] X.env)).all (λx=>x.1.isSome)
   &&decide ((e::es).length+([]:List Z5).length+(if([]:List Z5).isEmpty then 0 else 1)<30))=true:=by rfl)
  (hline:(apos.endLine==cpos.line)=true:=by rfl) (hs:Xw (e::es) X.env=(false,eval e X.env)::Xw es X.env:=by rfl) (hplain:(XZ cpos (Xw es X.env)).any (·.1)=false:=by rfl):
  PE X (.Call (.Attribute o name apos) (e::es) [] cpos) (tBM X.K T r to t):=by
 intro pins s σ H Q I h;refine wpAny_Call_method_late hbase hfew hline rfl (thn (ho pins s σ H _ I h) λv s1 ⟨x,H1,I1,r1,ty,q1⟩=>?_);obtain⟨h1,h2⟩:=IN I1 r1 ty;refine⟨T,id,pa,slot,hty,h1,h2,?_⟩;have hA:=ha cpos pins s1 σ H1 _ I1 q1;rw[hs]at hA ⊢;refine HP (by show(false||(XZ cpos (Xw es X.env)).any (·.1))=false;rw[hplain]<;>rfl) (Calls.evalArgs_plain ?_)
 exact thn hA λus s2 ⟨vs,H2,I2,r2,q2⟩=>hm pins s2 σ H2 x vs v us Q I2 r1 r2 q2
/- xs.append(e),list.index on a module's tuple .. are MtR facts of 06m -/
end
def MtM(X:Cx)(id:String)(r:V->List V->Hp->VK->Prop):Prop:=
 ∀(pins:List (Addr×Obj)) (s:X2) (σ:St) (H:Hp) (x:V) (xs:List V) (v:X0) (us:List X0) (Q:VK),Inv X pins σ H s->RelV x v->Vals xs us->r x xs H Q->
  X3 (X6 X.prog X.w) X.A (call (.builtin id) (v::us)) (EP X pins σ Q) X.xe s
theorem Vals.one:∀{x:V} {us:List X0},Vals [x] us->∃u,us=[u]/\RelV x u
 |_,_,.cons r .nil=>⟨_,rfl,r⟩
theorem Vals.rep(h:Vals xs us):∀k:Nat,Vals (Xi k xs).flatten (Xi k us).flatten
 |0=>.nil
 |k+1=>by
  rw[Za,Za,ZA,ZA];exact Vals.append h (Vals.rep h k)
theorem Ef(its:List X0):∀(k:Nat) (acc:List X0),
  VF (λx1 x2=>x1++x2) acc.toArray (Xi k its.toArray)=(acc++(Xi k its).flatten).toArray
 |0,acc=>by simp
 |k+1,acc=>by
  have e:acc.toArray++its.toArray=(acc++its).toArray:=by simp
  have e2:(acc++its)++(Xi k its).flatten=acc++(Xi (k+1) its).flatten:=by
   rw[Za,ZA,Vy]
  rw[<- e2,<- Ef its k (acc++its),<- e,Za,VD]
section
variable{X:Cx}{pins:List (Addr×Obj)}{σ:St}{H:Hp}{s:X2}{l b:Addr}{xs ys zs:List V}
theorem Inv.lset{its its':List X0}{n:Nat}{f:Array X0->Array X0}{t':Nat}(I:Inv X pins σ H s)(hH:H l=some (.lst xs))
  (e:s.heap.get? l=some {cls:=.type "list",data:=.seq its.toArray n}) (hf:f its.toArray=its'.toArray) (hv:Vals ys its') (hz:ys.length≤sizeLine):
  Inv X pins σ (upd H l (.lst ys)) {s with heap:=s.heap.update l (U9 f),toks:=t'}:=by
 have q:=PySem.IsL.update e f;rw[hf]at q;refine I.write (x:=l) (e:=l) (by rw[hH];exact trivial) (.inl rfl) (λb' u hb hu=>(VH s.heap (U9 f) (XN hb)).trans hu) ⟨_,q⟩ ?_
 exact⟨hz,its',_,hv,q⟩
theorem Inv.lnew(I:Inv X pins σ H s)(hv:Vals ys its)(hz:ys.length≤sizeLine):
  Inv X pins σ (upd H s.heap.objs.size (.lst ys)) {s with heap:=s.heap.push {cls:=.type "list",data:=.seq its.toArray},toks:=t'}:=
 I.laid (λ_ _ q=>Xp _ q) (Xg _) ⟨hz,its,0,hv,XM _ rfl⟩
theorem Inv.fresh(I:Inv X pins σ H s):H s.heap.objs.size=none:=I.hok.fresh (Xg _)
theorem Inv.lstM(I:Inv X pins σ H s)(hH:H l=some (.lst xs)):xs.length≤sizeLine/\∃(its:List X0) (n:Nat),Vals xs its/\xs.length=its.length/\s.heap.get? l=some {cls:=.type "list",data:=.seq its.toArray n}:=by
 obtain⟨z,its,n,r,e⟩:=I.hok l _ hH;exact⟨z,its,n,r,r.length,e⟩
theorem IP(h:n≤sizeLine):Ce n=false:=by
 unfold Ce;exact decide_eq_false (by lia)
end
section
variable{X:Cx}
def ZmD:V->List V->Hp->VK->Prop:=λx vs H Q=>∃l xs y,x=.ref l/\vs=[y]/\H l=some (.lst xs)/\xs.length<sizeLine/\Q .non (upd H l (.lst (xs++[y])))
theorem IQ:MtM X "list.append" ZmD:=by
 intro pins s σ H x vs v us Q I rx rv h;obtain⟨l,xs,y,rfl,rfl,hH,hz,q⟩:=h;cases rx;obtain⟨u,rfl,ru⟩:=rv.one;obtain⟨z,its,n,r,hl,e⟩:=I.lstM hH;refine UU F.slot_list_append ⟨_,e,rfl⟩ F.entry_list_append (F.args_list_append_2 _ _) (PySem.list_append l its.toArray n u (by rw[XQ];lia)) ⟨e,?_⟩
 refine⟨.non,_,I.lset (its':=its++[u]) hH e (by simp) (r.append (.cons ru .nil)) ?_,rfl,q⟩
 rw[Yw,List.length_singleton];lia
def ZmC:V->List V->Hp->VK->Prop:=λx vs H Q=>∃l b xs zs,x=.ref l/\vs=[.ref b]/\H l=some (.lst xs)/\H b=some (.lst zs)/\xs.length+zs.length≤sizeLine/\Q .non (upd H l (.lst (xs++zs)))
theorem _iD:MtM X "list.extend" ZmC:=by
 intro pins s σ H x vs v us Q I rx rv h;obtain⟨l,b,xs,zs,rfl,rfl,hH,hB,hz,q⟩:=h;cases rx;obtain⟨u,rfl,ru⟩:=rv.one;cases ru;obtain⟨z,its,n,r,hl,e⟩:=I.lstM hH;obtain⟨z2,its2,n2,r2,hl2,e2⟩:=I.lstM hB;have hsz:its.toArray.size+its2.toArray.size≤sizeLine:=by rw[XQ,XQ];lia
 have hlong:¬(!its.toArray.isEmpty&&Ce (its.toArray.size+its2.toArray.size))=true:=by
  rw[IP hsz,BR];exact Xx
 refine UU F.slot_list_extend ⟨_,e,rfl⟩ F.entry_list_extend (F.args_list_extend_2 _ _)
  (AutoSeq1.list_extend_list_list_0 l its.toArray n b its2.toArray n2 hlong (by rw[XQ];lia) (by lia)) ⟨e,e2,?_⟩
 refine⟨.non,_,I.lset (its':=its++its2) hH e (by simp) (r.append r2) ?_,rfl,q⟩
 rw[Yw];lia
def rRep:R2:=λx y H Q=>∃l k xs,x=.ref l/\y=.int k/\H l=some (.lst xs)/\ -(2^63)≤k/\k<2^63/\xs.length*k.toNat≤sizeLine/\
 ∀p,H p=none->Q (.ref p) (upd H p (.lst (Xi k.toNat xs).flatten))
theorem IR{α:Type}(xs:List α)(k:Nat):(Xi k xs).flatten.length=k*xs.length:=by
 induction k with
 |zero=>simp
 |succ k ih=>rw[Za,ZA,Yw,ih,Nat.succ_mul,Nat.add_comm]
theorem _pA:OpR X (Yi .Mult) rRep:=by
 intro pins s σ H x y v u Q I rx ry h;obtain⟨l,k,xs,rfl,rfl,hH,h1,h2,hz,q⟩:=h;cases rx;obtain⟨t,rfl⟩:=ry;obtain⟨z,its,n,r,hl,e⟩:=I.lstM hH;have hlen:its.toArray.size*k.toNat≤sizeLine:=by rw[XQ,<- hl];exact hz
 have hcap:¬its.toArray.size*k.toNat>(2^63 - 1)/8:=by
  have:(sizeLine:Nat)≤(2^63 - 1)/8:=by decide
  lia
 have hfit:¬(!Builtin.List.listFitsIndex k)=true:=by
  rw[fitsIndex_both h1 h2];exact Xx
 have hlong:¬Ce (its.toArray.size*k.toNat)=true:=by
  rw[IP hlen];exact Xx
 have hnew:VF (λx1 x2=>x1++x2) #[] (Xi (if its.toArray.isEmpty=true then 0 else k.toNat) its.toArray)=(Xi k.toNat its).flatten.toArray:=by
  have f0:∀m:Nat,VF (λx1 x2=>x1++x2) #[] (Xi m its.toArray)=(Xi m its).flatten.toArray:=λm=>by
   have:=Ef its m [];rw[Y8]at this;exact this
  rw[f0];cases its with
  |nil=>simp
  |cons a r'=>rw[if_neg (by simp)]
 refine wpAny_binaryOp_repeat_ref (T:="list") (U:="int") (by decide) ⟨_,e,rfl⟩ (fun s'=>typeIs_int s' k t) noFill_list_mul F.fills_int_mul F.slot_int_rmul repeat_list F.slot_int_index.lookup
  (UU F.slot_int_rmul (typeIs_int s k t) F.entry_int_rmul (F.args_int_rmul_2 _ _) (int___rmul___int_list k t l its.toArray n)
   ⟨e,rfl,⟨_,e,rfl⟩,UU F.slot_list_mul ⟨_,e,rfl⟩ F.entry_list_mul (F.args_list_mul_2 _ _) (AutoListH.list___mul___list_int_3 l its.toArray n k t hfit hcap hlong) ⟨e,?_⟩⟩)
 rw[hnew];exact⟨.ref _,_,I.lnew (t':=s.toks) (r.rep k.toNat) (by rw[IR,BZ];exact hz),rfl,q _ I.fresh⟩
end
section
variable{prog:Xv}{w:Xm}{A:XB}{E:X0->X2->Prop}{s:X2}
set_option maxRecDepth 100000 in
end
section
variable{X:Cx}
end
section
variable{κ:Type} [DecidableEq κ]
noncomputable def valV(kvs:List (κ×V))(k:κ):Option V:=(kvs.find? λkv=>decide (kv.1=k)).map (·.2)
noncomputable def putK(kvs:List (κ×V))(k:κ)(v:V):List (κ×V):=
 if(kvs.any λkv=>decide (kv.1=k))=true then kvs.map (λkv=>if kv.1=k then(kv.1,v)else kv)else kvs++[(k,v)]
theorem Co{k:κ}(e:p.1=k):valV (p::r) k=some p.2:=by simp[valV,VE,e]
theorem Cp{k:κ}(e:¬p.1=k):valV (p::r) k=valV r k:=by simp[valV,VE,e]
theorem IT(k:κ):∀kvs:List (κ×V),(kvs.any λkv=>decide (kv.1=k))=(valV kvs k).isSome
 |[]=>rfl
 |p::r=>by
  rw[ZB];by_cases e:p.1=k
  ·simp only[Co e,decide_eq_true e,BU,DZ]
  ·rw[Cp e,decide_eq_false e,DI];exact IT k r
theorem IU(kvs:List (κ×V))(k:κ)(v:V):(putK kvs k v).length≤kvs.length+1:=by
 unfold putK;split
 ·rw[Xa];lia
 ·rw[Yw,Yr,List.length_nil];lia
theorem RelO.isSome_eq(r:RelO o u):o.isSome=u.isSome:=by
 cases o with
 |none=>cases u with
  |none=>rfl
  |some _=>exact(show False from r).elim
 |some _=>cases u with
  |none=>exact(show False from r).elim
  |some _=>rfl
theorem KV.val(r:KV kvs vs)(k:κ):RelO (valV kvs k) (Z1 vs k):=by
 unfold KV at r
 induction r with
 |nil=>exact YD
 | @cons p q ps qs h t ih=>
  obtain⟨h1,h2⟩:=h;by_cases e:p.1=k
  ·have e':q.1=k:=h1.symm.trans e;have b:Z1 (q::qs) k=some q.2:=by simp[Z1,VE,e']
   rw[Co e,b];exact h2
  ·have e':¬q.1=k:=λz=>e (h1.trans z);have b:Z1 (q::qs) k=Z1 qs k:=by simp[Z1,VE,e']
   rw[Cp e,b];exact ih
theorem KV.any(r:KV kvs vs)(k:κ):(kvs.any λkv=>decide (kv.1=k))=vs.any λkv=>decide (kv.1=k):=by
 unfold KV at r
 induction r with
 |nil=>rfl
 |cons h t ih=>rw[ZB,ZB,ih,h.1]
theorem KV.repl(r:KV kvs vs)(k:κ)(ry:RelV y u):
  KV (kvs.map λkv=>if kv.1=k then(kv.1,y)else kv) (vs.map λkv=>if kv.1=k then(kv.1,u)else kv):=by
 unfold KV at r ⊢
 induction r with
 |nil=>exact .nil
 | @cons p q ps qs h t ih=>
  rw[Xy,Xy];refine .cons ?_ ih;obtain⟨h1,h2⟩:=h;by_cases e:p.1=k
  ·rw[if_pos e,if_pos (h1.symm.trans e)];exact⟨h1,ry⟩
  ·rw[if_neg e,if_neg (λz=>e (h1.trans z))];exact⟨h1,h2⟩
theorem KV.put(r:KV kvs vs)(k:κ)(ry:RelV y u):KV (putK kvs k y) (stored vs k u):=by
 unfold putK stored;rw[r.any k];by_cases e:(vs.any λkv=>decide (kv.1=k))=true
 ·rw[if_pos e,if_pos e];exact r.repl k ry
 ·rw[if_neg e,if_neg e];exact Paired.snoc r ⟨rfl,ry⟩
theorem KV.length(r:KV kvs vs):kvs.length=vs.length:=Paired.length r
end
theorem Vd{k:Key}(r:RelV (kV k) u):(Yt P w).is k u=true:=by
 cases k with
 |inl i=>obtain⟨t,e⟩:=(show∃t,u=VN i t from r);subst e;exact S4 P w i t
 |inr x=>obtain⟨t,e⟩:=(show∃t,u=XE x t from r);subst e;exact S5 P w x t
theorem IV:∀{ks:List Key} {us:List X0},Vals (ks.map kV) us->ItemsAre (Yt P w) ks us
 |[],_,r=>by rw[Yc]at r;cases r;exact .nil
 |k::ks,_,r=>by
  rw[Xy]at r;cases r with
  |cons h t=>exact .cons (Vd h) (IV t)
abbrev KT(H:Hp):List (List Key×V)->List (List Key×Addr×X0)->Prop:=Paired λp q=>p.1=q.1/\H q.2.1=some (.tup (p.1.map kV))/\RelV p.2 q.2.2
theorem KT.val(r:KT H kvs xs)(k:List Key):RelO (valV kvs k) ((atKey xs k).map (·.2)):=by
 induction r with
 |nil=>exact YD
 | @cons p q ps qs h t ih=>
  obtain⟨h1,_,h2⟩:=h;by_cases e:p.1=k
  ·have e':q.1=k:=h1.symm.trans e;have b:atKey (q::qs) k=some q.2:=by simp[atKey,VE,e']
   rw[Co e,b];exact h2
  ·have e':¬q.1=k:=λz=>e (h1.trans z);have b:atKey (q::qs) k=atKey qs k:=by simp[atKey,VE,e']
   rw[Cp e,b];exact ih
theorem KT.repl(r:KT H kvs xs)(k:List Key)(ry:RelV y u):
  KT H (kvs.map λkv=>if kv.1=k then(kv.1,y)else kv) (xs.map (putAt k u)):=by
 induction r with
 |nil=>exact .nil
 | @cons p q ps qs h t ih=>
  rw[Xy,Xy];refine .cons ?_ ih;obtain⟨h1,h2,h3⟩:=h;unfold putAt;by_cases e:p.1=k
  ·rw[if_pos e,if_pos (h1.symm.trans e)];exact⟨h1,h2,ry⟩
  ·rw[if_neg e,if_neg (λz=>e (h1.trans z))];exact⟨h1,h2,h3⟩
theorem KT.put(r:KT H kvs xs)(k:List Key)(hb:H b=some (.tup (k.map kV)))(ry:RelV y u):
  KT H (putK kvs k y) (storedH xs k b u):=by
 have e:(kvs.any λkv=>decide (kv.1=k))=(atKey xs k).isSome:=by
  rw[IT,(r.val k).isSome_eq,E2]
 unfold putK storedH;rw[e];by_cases q:(atKey xs k).isSome=true
 ·rw[if_pos q,if_pos q];exact r.repl k ry
 ·rw[if_neg q,if_neg q];exact Paired.snoc r ⟨rfl,hb,ry⟩
theorem KT.keeps{H H':Hp}{kvs:List (List Key×V)}{xs:List (List Key×Addr×X0)}(r:KT H kvs xs)(ht:∀b ys,H b=some (.tup ys)->H' b=some (.tup ys)):KT H' kvs xs:=
 Paired.mapP r λ_ _ z=>⟨z.1,ht _ _ z.2.1,z.2.2⟩
section
variable{P:Xv}{w:Xm}{H:Hp}{h:Heap}{a:Addr}
theorem IW(ok:HOk P w H h)(e:Rd H a u):ObjOk P w H h a u:=e.ok ok
theorem Ve(ok:HOk P w H h)(e:Rd H a (.dK kvs)):kvs.length≤sizeLine/\(a==YT)=false/\∃vs,KV kvs vs/\h.DictOf (Yt P w) a vs:=
 show ObjOk P w H h a (.dK kvs)from IW ok e
theorem Eg(ok:HOk P w H h)(e:H a=some (.dK kvs)):kvs.length≤sizeLine/\(a==YT)=false/\∃vs,KV kvs vs/\h.DictOf (Yt P w) a vs:=Ve ok (.inl e)
theorem WK(ok:HOk P w H h)(e:H a=some (.tup (ks.map kV))):(tupleKind (Yt P w)).is h ks a:=by
 obtain⟨_,its,r,⟨o,h1,h2,n,h3⟩,_⟩:=(show ObjOk P w H h a (.tup (ks.map kV))from ok a _ e);exact⟨o,its.toArray,n,h1,h2,h3,by simpa using IV r⟩
theorem WL(ok:HOk P w H h)(e:Rd H a (.dT kvs)):kvs.length≤sizeLine/\(a==YT)=false/\
  ∃xs,KT H kvs xs/\h.DictOfH (tupleKind (Yt P w)) a xs:=by
 obtain⟨z,y,xs,r,o,es,ep,h1,h2,h3,h4,h5⟩:=(show ObjOk P w H h a (.dT kvs)from IW ok e);refine⟨z,y,xs,r,o,es,ep,h1,h2,h3,h4,λx hx=>?_,h5⟩;have all:∀{l:List (List Key×V)} {m:List (List Key×Addr×X0)},KT H l m->∀x∈m,(tupleKind (Yt P w)).is h x.1 x.2.1:=by
  intro l m q
  induction q with
  |nil=>intro x hx;exact nomatch hx
  | @cons p q ps qs hq t ih=>
   intro x hx;rcases Xl.mp hx with e|hx
   ·subst e;exact WK ok (by rw[<- hq.1];exact hq.2.1)
   ·exact ih x hx
 exact all r x hx
theorem _s8(ok:HOk P w H h)(e:H a=some (.dT kvs)):kvs.length≤sizeLine/\(a==YT)=false/\
  ∃xs,KT H kvs xs/\h.DictOfH (tupleKind (Yt P w)) a xs:=WL ok (.inl e)
end
def DGet(H:Hp)(a:Addr)(y:V)(r:Option V):Prop:=
 (∃kvs k,Rd H a (.dK kvs)/\y=kV k/\r=valV kvs k)\/∃kvs k b,Rd H a (.dT kvs)/\y=.ref b/\H b=some (.tup (k.map kV))/\r=valV kvs k
def DPut(H:Hp)(a:Addr)(y v:V)(H':Hp):Prop:=
 (∃kvs k,H a=some (.dK kvs)/\y=kV k/\kvs.length<sizeLine/\H'=upd H a (.dK (putK kvs k v)))\/
 ∃kvs k b,H a=some (.dT kvs)/\y=.ref b/\H b=some (.tup (k.map kV))/\kvs.length<sizeLine/\H'=upd H a (.dT (putK kvs k v))
theorem DGet.k{k:Key}(e:H a=some (.dK kvs)):DGet H a (kV k) (valV kvs k):=.inl ⟨kvs,k,.inl e,rfl,rfl⟩
theorem DPut.k{k:Key}(e:H a=some (.dK kvs))(hl:kvs.length<sizeLine):DPut H a (kV k) v (upd H a (.dK (putK kvs k v))):=.inl ⟨kvs,k,e,rfl,hl,rfl⟩
section
variable{X:Cx}{pins:List (Addr×Obj)}{σ:St}{H:Hp}{s:X2}{a:Addr}{y v:V}{u r:X0}{o:Option V}{A:XB}{E:X0->X2->Prop}
theorem Inv.big(I:Inv X pins σ H s):YT<s.heap.objs.size:=by
 have h:Xo<s.heap.objs.size:=(I.mod.glob.keeps I.bk).lt;exact V4 (by decide) h
theorem _js(hu:A.units+1<cLine)(I:Inv X pins σ H s)(g:DGet H a y (some v))(ry:RelV y u)(h:∀w' s',Inv X pins σ H s'->RelV v w'->Q w' s'):
  X3 (X6 X.prog X.w) A (getItem (.ref a) u) Q E s:=by
 rcases g with⟨kvs,k,e,ey,l⟩|⟨kvs,k,b,e,ey,eb,l⟩
 ·subst ey;obtain⟨z,hd,vs,rel,dd⟩:=Ve I.hok e;obtain⟨w',hw,rw'⟩:=RelO.some_of (v:=v) (o:=Z1 vs k) (by rw[l];exact rel.val k)
  exact wpAny_getItem_of (Vd ry) dd.mapOf hw (h w' _ (I.tok _) rw')
 ·subst ey;cases(show u=Xn b from ry);obtain⟨z,hd,xs,rel,dd⟩:=WL I.hok e;obtain⟨w',hw,rw'⟩:=RelO.some_of (v:=v) (o:=(atKey xs k).map (·.2)) (by rw[l];exact rel.val k)
  obtain⟨p,hp,hp2⟩:=DY.mp hw;refine wpAny_getItem_heap (Bw hu) (WK I.hok eb) dd hp ?_;rw[hp2];exact h w' _ (I.tok _) rw'
theorem d_in(hu:A.units+1<cLine)(I:Inv X pins σ H s)(g:DGet H a y o)(ry:RelV y u)(h:∀s',Inv X pins σ H s'->Q (.bool o.isSome) s'):
  X3 (X6 X.prog X.w) A (Y0 .In u (.ref a)) Q E s:=by
 rcases g with⟨kvs,k,e,ey,l⟩|⟨kvs,k,b,e,ey,eb,l⟩
 ·subst ey;obtain⟨z,hd,vs,rel,dd⟩:=Ve I.hok e;refine wpAny_in_of (Vd ry) hd dd.mapOf ?_;rw[<- (rel.val k).isSome_eq,<- l];exact h _ (I.tok _)
 ·subst ey;cases(show u=Xn b from ry);obtain⟨z,hd,xs,rel,dd⟩:=WL I.hok e;refine wpAny_in_heap (Bw hu) (WK I.hok eb) hd dd ?_;have q:=(rel.val k).isSome_eq;rw[E2]at q;rw[<- q,<- l];exact h _ (I.tok _)
theorem _o3(hu:A.units+1<cLine)(I:Inv X pins σ H s)(g:DGet H a y o)(ry:RelV y u)(h:∀s',Inv X pins σ H s'->Q (.bool (!o.isSome)) s'):
  X3 (X6 X.prog X.w) A (Y0 .NotIn u (.ref a)) Q E s:=by
 rcases g with⟨kvs,k,e,ey,l⟩|⟨kvs,k,b,e,ey,eb,l⟩
 ·subst ey;obtain⟨z,hd,vs,rel,dd⟩:=Ve I.hok e;refine wpAny_notIn_of (Vd ry) hd dd.mapOf ?_;rw[<- (rel.val k).isSome_eq,<- l];exact h _ (I.tok _)
 ·subst ey;cases(show u=Xn b from ry);obtain⟨z,hd,xs,rel,dd⟩:=WL I.hok e;refine wpAny_notIn_heap (Bw hu) (WK I.hok eb) hd dd ?_;have q:=(rel.val k).isSome_eq;rw[E2]at q;rw[<- q,<- l];exact h _ (I.tok _)
theorem IX(I:Inv X pins σ H s)(mu:Mut (H a))(hs:U5 a s.heap h')(he:∃q,h'.get? a=some q)(new:ObjOk X.prog X.w (upd H a ob) h' a ob):
  Inv X pins σ (upd H a ob) {s with heap:=h',toks:=t'}:=
 I.write (x:=a) (e:=a) mu (.inl rfl) (λb q hb z=>(hs.2 b hb).trans z) he new
theorem Cq(z:kvs.length≤sizeLine)(hd:(a==YT)=false)(rel:KV kvs vs)(dd:h'.DictOf (Yt P w) a vs):
  ObjOk P w H' h' a (.dK kvs):=⟨z,hd,vs,rel,dd⟩
theorem _jr{H':Hp}{Q:Unit->X2->Prop}(hu:A.units+1<cLine)(I:Inv X pins σ H s)(g:DPut H a y v H')(ry:RelV y u)(rv:RelV v r)(h:∀s',Inv X pins σ H' s'->Q () s'):
  X3 (X6 X.prog X.w) A (setItem (.ref a) u r) Q E s:=by
 rcases g with⟨kvs,k,e,ey,l,eH⟩|⟨kvs,k,b,e,ey,eb,l,eH⟩
 ·subst ey eH;obtain⟨z,hd,vs,rel,dd⟩:=Eg I.hok e;have hz:vs.length≤sizeLine:=by rw[<- rel.length];exact z
  have hl:(putK kvs k v).length≤sizeLine:=by have:=IU kvs k v;lia
  refine wpAny_setItem_pairs (hsz:=hz) (Vd ry) dd λh' dd' hs=>h _ ?_;have he:∃q,h'.get? a=some q:=let⟨q,_,_,hq,_⟩:=dd';⟨q,hq⟩
  exact IX I (by rw[e];exact YD) hs he (Cq hl hd (rel.put k rv) dd')
 ·subst ey eH;cases(show u=Xn b from ry);obtain⟨z,hd,xs,rel,dd⟩:=_s8 I.hok e;have hz:xs.length≤sizeLine:=by rw[<- Paired.length rel];exact z
  have hl:(putK kvs k v).length≤sizeLine:=by have:=IU kvs k v;lia
  refine wpAny_setItem_heap (hsz:=hz) (Bw hu) (WK I.hok eb) dd λh' dd' hs=>h _ ?_;obtain⟨q,es,ep,hq,h2,h3,h4,_,h5⟩:=dd';refine IX I (by rw[e];exact YD) hs ⟨q,hq⟩ ⟨hl,hd,_,(rel.put k eb rv).keeps λc ys ec=>?_,q,es,ep,hq,h2,h3,h4,h5⟩
  rw[XG (HY ec e (λz=>nomatch z))];exact ec
end
section
variable{X:Cx}{pins:List (Addr×Obj)}{σ:St}{H:Hp}{s:X2}{a:Addr}{kvs:List (Key×V)}{k:Key}{u:X0}{A:XB}{E:X0->X2->Prop}
theorem _s9(I:Inv X pins σ H s)(e:Rd H a (.dK kvs))(h:∀t s',Inv X pins σ H s'->Q (.int kvs.length t) s'):X3 (X6 X.prog X.w) A (call (.builtin "len") [.ref a]) Q E s:=by
 obtain⟨z,hd,vs,rel,dd⟩:=Ve I.hok e;refine call_len_dict hd dd (by rw[<- rel.length];rw[sizeLine_eq]at z;lia) ?_
 rw[<- rel.length];exact h _ _ (I.tok _)
end
theorem _g3(I:Inv X pins σ H s)(g:DGet H a y o):s.TypeIs (.ref a) "dict":=by
 rcases g with⟨kvs,k,e,_,_⟩|⟨kvs,k,b,e,_,_,_⟩
 ·obtain⟨_,_,vs,_,dd⟩:=Ve I.hok e;exact dd.typeIs
 ·obtain⟨_,_,xs,_,dd⟩:=WL I.hok e;exact dd.typeIs
section
variable{X:Cx}{o i e value:Expr}{pos pos' tpos:Pos}{td ty tv:TE}
end
section
variable{X:Cx}{pos:Pos}
end
def IY:List (TE×TE)->St->Hp->(List (V×V)->Hp->Prop)->Prop
 |[],_,H,Q=>Q [] H
 |(tk,tv)::r,σ,H,Q=>tk σ H λx H1=>tv σ H1 λy H2=>IY r σ H2 λps H3=>Q ((x,y)::ps) H3
abbrev VV:List (V×V)->List (X0×X0)->Prop:=Paired λp q=>RelV p.1 q.1/\RelV p.2 q.2
def PPs(X:Cx)(pos:Pos)(keys:List (Option Expr))(values:List Expr)(trs:List (TE×TE)):Prop:=
 ∀(pins:List (Addr×Obj)) (s:X2) (σ:St) (H:Hp) (Q:List (V×V)->Hp->Prop),Inv X pins σ H s->IY trs σ H Q->
  X3 (X6 X.prog X.w) X.A (evalPairs (pairTrees keys values X.env pos)) (λvs s'=>∃ps H',Inv X pins σ H' s'/\VV ps vs/\Q ps H') X.xe s
theorem _mP:PPs X pos [] [] []:=λpins s σ H Q I h=>pairTrees_nil_walk ⟨[],H,I,.nil,h⟩
theorem _kq{X:Cx}{pos:Pos}{k v:Expr}{ks:List (Option Expr)}{vs:List Expr}{tk tv:TE}{trs:List (TE×TE)}(hk:PE X k tk)(hv:PE X v tv)(hr:PPs X pos ks vs trs):
  PPs X pos (some k::ks) (v::vs) ((tk,tv)::trs):=λpins s σ H Q I h=>
 pairTrees_cons_walk (thn (hk pins s σ H _ I h) λu s1 ⟨x,H1,I1,rx,q1⟩=>thn (hv pins s1 σ H1 _ I1 q1) λw2 s2 ⟨y,H2,I2,ry,q2⟩=>
  thn (hr pins s2 σ H2 _ I2 q2) λws s3 ⟨ps,H3,I3,rel,q3⟩=>⟨(x,y)::ps,H3,I3,.cons ⟨rx,ry⟩ rel,q3⟩)
structure M1 (X:Cx) (o:Expr) (m:Str) (apos:Pos) (e:Expr) (cpos:Pos):Prop where
 base:Uw o m X.env (eval o X.env)=eval o X.env
 few:((XZ cpos (Xw [e] X.env)).all (λx=>!x.1)&&(ZY cpos (ZZ [] X.env)).all (λx=>x.1.isSome)
  &&decide (([e]:List Expr).length+([]:List Z5).length+(if([]:List Z5).isEmpty then 0 else 1)<30))=true
 line:(apos.endLine==cpos.line)=true
 trees:XZ cpos (Xw [e] X.env)=[(false,eval e X.env)]
structure M2 (X:Cx) (o:Expr) (m:Str) (apos:Pos) (e f:Expr) (cpos:Pos):Prop where
 base:Uw o m X.env (eval o X.env)=eval o X.env
 few:((XZ cpos (Xw [e,f] X.env)).all (λx=>!x.1)&&(ZY cpos (ZZ [] X.env)).all (λx=>x.1.isSome)
  &&decide (([e,f]:List Expr).length+([]:List Z5).length+(if([]:List Z5).isEmpty then 0 else 1)<30))=true
 line:(apos.endLine==cpos.line)=true
 trees:XZ cpos (Xw [e,f] X.env)=[(false,eval e X.env),(false,eval f X.env)]
section
variable{X:Cx}{pins:List (Addr×Obj)}{σ:St}{H:Hp}{s:X2}{a:Addr}{y d:V}{u r:X0}{o:Option V}{A:XB}{E:X0->X2->Prop}
end
section
variable{X:Cx}{o e f:Expr}{apos cpos:Pos}{td ty tx:TE}
end
section
variable{X:Cx}{pins:List (Addr×Obj)}{σ:St}{H:Hp}{s:X2}{a:Addr}{kvs:List (Key×V)}{A:XB}{E:X0->X2->Prop}
theorem _l7(I:Inv X pins σ H s)(e:Rd H a (.dK kvs))(h:∀p s',H p=none->Inv X pins σ (upd H p (.dK kvs)) s'->Q (.ref p) s'):X3 (X6 X.prog X.w) A (call (.type "dict") [.ref a]) Q E s:=by
 obtain⟨z,hd,vs,rel,dd⟩:=Ve I.hok e;refine kt_call_dict hd dd (by rw[<- rel.length];exact z) λh' dd' hs=>?_
 refine h _ _ (I.hok.fresh (Xg _)) (I.laid (a:=s.heap.objs.size) (o:=.dK kvs) (t':=s.toks) (λb q hq=>?_) (Xg _) (Cq z (beq_eq_false_iff_ne.mpr (XN (XC I.big))) rel dd'));exact(hs.2 b (XC (Xu hq))).trans (Xp _ hq)
end
section
variable{X:Cx}{pins:List (Addr×Obj)}{σ:St}{H:Hp}{s:X2}{a:Addr}{y:V}{u:X0}{A:XB}{E:X0->X2->Prop}
end
end L2
namespace Att
open PySem PySem.W PySem.Calls PyProof.Rows
theorem _bj:∀(ns:List Int) (vs:List X0),WellAll P h vs (ns.map WData.int)->IntsAre vs ns:=by
 intro ns
 induction ns with
 |nil=>
  intro vs w;rw[Yc]at w;cases w;exact .nil
 |cons n ns ih=>
  intro vs w;rw[Xy]at w;cases w with
  |cons a b=>
   cases a;exact .cons _ _ (ih _ b)
theorem _ic{l:OpenLaw}{n:Nat}(hn:l.most=some n){P:Params}{h:Heap}{args:List WData}{vals:List X0}
  (hpre:l.row.toRowW.claim.pre args=true) (hwl:WellAll P h vals args):
  ∃a vs ns,vals=[Xn a]/\args=[WData.list (ns.map WData.int)]/\h.get? a=some {cls:=.type "list",data:=.seq vs.toArray}/\IntsAre vs ns/\ns.length≤n:=by
 have hsh:WShape.hasAll [] args [.list .int]=true:=(pre_splitW hpre).1;have hc:l.pre.holds [] {args:=args}=true:=(pre_splitW hpre).2;obtain⟨d,r,rfl,h1,h2⟩:=hasAllW_cons hsh;obtain rfl:=hasAllW_nil h2;obtain⟨xs,rfl,h3⟩:=hasW_list h1;obtain⟨ns,rfl⟩:=items_int h3;have hlen:ns.length≤n:=by
  unfold OpenLaw.pre at hc;have h4:(WTm.not (.lt (.lit (.int (n:Int))) (.len (.arg 0)))).holds [] {args:=[.list (ns.map .int)]}=true:=by
   have h4:=(holds_andW hc).1;rw[hn]at h4;exact h4
  have h5:=condW_of h4 (w_not (w_lt w_lit (w_len_list (w_arg rfl))));rw[Xa]at h5;refine Nat.le_of_not_lt λq=>?_;have q':(n:Int)<((ns.length:Nat):Int):=by lia
  first
   |(rw[decide_eq_true q']at h5;exact absurd h5 (by decide))
   |(simp at h5;lia)
 cases hwl with
 |cons w1 w2=>
  cases w2;cases w1 with
  |list ho hall=>exact⟨_,_,ns,rfl,rfl,ho,_bj ns _ hall,hlen⟩
theorem _iq(l:OpenLaw)(args:List WData):l.row.toRowW.claim.post args (.bool true) args=true:=
 postW_of (r:=l.row.toRowW) (X:=(true==true))
  (show WShape.has [] (.bool true) .bool=true by first|rfl|decide|simp[WShape.has,WShape.arms,WShape.armsAll])
  (show(WTm.eq .res (.lit (.bool true))).value [] {args:=args,res:=some (.bool true),after:=args}=some (.bool (true==true))from w_eq_bool (w_res rfl) w_lit) rfl
theorem attach_call{l:OpenLaw}{n:Nat}{q:Xv}{loose:List Str}{XP:(Str->Option X0)->Heap->Prop}{YP:Xm->Heap->Prop}{d:DefRec}
  (hn:l.most=some n) (hdf:d.params.defaults=[])
  (call:∀(w:Xm) (s₀ s₁:X2) (mg mb:Str->Option X0) (fa:Addr) (o:Obj) (pm cd doc:X0) (a:Addr) (vs:List X0) (ns:List Int),
   Ground q loose [] XP w s₀ mg mb s₁.heap->YP w s₁.heap->
   s₁.heap.get? fa=some o->o.data=.func (docDef d.name d.params d.body d.scope pm cd doc)->s₁.heap.CodeRec cd d.name->mg d.name=some (.ref fa)->
   s₁.heap.get? a=some {cls:=.type "list",data:=.seq vs.toArray}->IntsAre vs ns->ns.length≤n->s₁.gens=#[]->
   YU (X6 l.prog w) callerA (.call (.ref fa) ⟨[.ref a],[]⟩) (λr s'=>r=.ok (.ret (.bool true))/\OldK s₁.heap s'.heap/\s'.os=s₁.os/\AllBare s'.gens) s₁):
  WalkO q loose XP YP l.row.toRowW d [] (λf vs=>PySem.call f vs):=by
 intro w s₀ s₁ mg mb G Y fa o pm cd doc dV kV ho hd hcd hD hmg hg args vals as hpre hlay hrd hwl hlo;obtain rfl:dV=.none:=Dflts.none hD hdf;obtain rfl:kV=.none:=Dflts.noKw hD;obtain⟨a,vs,ns,rfl,rfl,hobj,hints,hlen⟩:=_ic hn hpre hwl;refine enter_call (Vq (call w s₀ s₁ mg mb fa o pm cd doc a vs ns G Y ho (fd_plain hd) hcd hmg hobj hints hlen hg) λr s' hq=>?_);obtain⟨rfl,h2,h3,h4⟩:=hq;exact⟨.inl ⟨.bool true,.bool true,[],rfl,λ_=>rfl,.bool true,_iq l _,λ_=>⟨List.Pairwise.nil,λ_ hm=>(nomatch hm)⟩⟩,h2,h3,h4⟩
section
variable{prog:Xv}{w:Xm}{A:XB}{E:X0->X2->Prop}{s:X2}{K:Frag}
noncomputable def ledger(h:Heap)(L d:Addr):List (Addr×Obj):=(Xr h.objs.size).filterMap λa=>if a=L\/a=d then none else(h.get? a).map λo=>(a,o)
end
end Att
namespace L2
open PySem PySem.Spec PyProof.Rows
theorem IZ:∀{vs:List X0} {ns:List Int},IntsAre vs ns->Vals (ns.map V.int) vs
 |_,_,.nil=>.nil
 |_,_,.cons n t h=>.cons ⟨t,rfl⟩ (IZ h)
def Only(H:Hp):Prop:=∀b,H b=none\/∃o xs,H b=some (.frz o (.lst xs))
theorem _kN{K:X4}{k:Nat}
  (KX:K.In s₁.heap) (hns:s₁.heap.Ns Xo mg) (hb:s₁.heap.Ns builtinsNs mb) (hbb:∀x:Str,x≠"__name__"->mb x=YA x) (hlim:s₁.heap.NoLimit) (hg:s₁.gens=#[])
  (ha:s₁.heap.get? a=some {cls:=.type "list",data:=.seq vs.toArray}) (hi:IntsAre vs ns) (hl:ns.length≤sizeLine) (hr:Room k callerA)
  (F:∀base:Heap,K.In base->base.Ns Xo mg->FnOk P w K mg base CX k fa fd [x] sp) (hbind:∀(s:X2) (u:X0),BindsTo s fd ⟨[u],[]⟩ [(x,u)])
  (hsp:∀H:Hp,Only H->SqL K H a (ns.map V.int)->sp [.ref a] H (λv _=>v=.bl true) λ_ _ _=>False)
  (hCX:∀H e s',CX [] H s₁ (λ_ _ _=>False) e s'->False):
  YU (X6 P w) callerA (.call (.ref fa) ⟨[.ref a],[]⟩) (λr s'=>r=.ok (.ret (.bool true))/\OldK s₁.heap s'.heap/\s'.os=s₁.os/\AllBare s'.gens) s₁:=by
 have rv:=IZ hi;have lenV:=hi.length;have core:∀H:Hp,Only H->SqL K H a (ns.map V.int)->HOk P w H s₁.heap->(∀b,H b≠none->b=a)->(H a≠none->K.lookup a=none)->
   YU (X6 P w) callerA (.call (.ref fa) ⟨[.ref a],[]⟩) (λr s'=>r=.ok (.ret (.bool true))/\OldK s₁.heap s'.heap/\s'.os=s₁.os/\AllBare s'.gens) s₁:=by
  intro H hO hS hok hA hK;have base_of:∀{b:Addr} {o:Obj},s₁.heap.get? b=some o->H b=none->(hidT s₁.heap H).get? b=some o:=λe n=>S7 e n;have noA:∀{b:Addr} {o:Obj} {es:Array DictEntry} {ep:Nat},s₁.heap.get? b=some o->o.data=.dict es ep->H b=none:=fun{b o es ep} e d=>by
   cases q:H b with
   |none=>rfl
   |some u=>
    have e':b=a:=hA b (by rw[q];simp)
    subst e';rw[ha]at e;cases e;have d':YW vs.toArray _=Data.dict es ep:=d;cases d'
  have nsK:∀{b:Addr} {m:Str->Option X0},s₁.heap.Ns b m->(hidT s₁.heap H).Ns b m:=fun{b m} ⟨o,es,ep,e,d,r⟩=>⟨o,es,ep,base_of e (noA e d),d,r⟩;have hKb:K.In (hidT s₁.heap H):=λb o e=>base_of (KX b o e) (by
   cases q:H b with
   |none=>rfl
   |some u=>
    have e':b=a:=hA b (by rw[q];simp)
    subst e';rw[hK (by rw[q];simp)]at e;cases e)
  have hM:Mod K mg (hidT s₁.heap H):=⟨hKb,nsK hns,⟨mb,nsK hb,hbb⟩,let⟨mc,h1,h2⟩:=hlim;⟨mc,nsK h1,h2⟩⟩
  have e0:Env0 P w K mg (hidT s₁.heap H) callerA [] s₁ H:=⟨rfl,hM,λb o e=>S8 e,VL (S6 _ _),trivial,λb hb=>absurd (show b∈([]:List Addr)from hb) (by simp),hok,.of_eq hg⟩
  refine Vq ((F _ hKb (nsK hns)).run callerA [] s₁ H ⟨[.ref a],[]⟩ [.ref a] [.ref a] _ _ hr e0 (hbind s₁ (.ref a)) (.cons rfl .nil) (hsp H hO hS)) λr s' h=>?_;cases r with
  |error e=>exact(hCX H e s' h).elim
  |ok fl=>
   cases fl with
   |next=>exact Y7 h
   |brk=>exact Y7 h
   |cont=>exact Y7 h
   |ret u=>
    obtain⟨v,H',os,bare,un,hok',r',q⟩:=h;have q':v=.bl true:=q;subst q';obtain rfl:u=Ya true:=r';refine⟨rfl,OldK.of_keep λb o e=>?_,os,bare⟩;cases q:H b with
    |none=>exact un.keep b o e q (by intro z;exact absurd (show b∈([]:List Addr)from z) (by simp)) (by simp)
    |some u=>
     rcases hO b with z|⟨ob,xs,z⟩
     ·rw[q]at z;cases z
     ·have z2:=un.frzs b ob _ z;obtain⟨e1,_⟩:=hok b _ z;obtain⟨e2,_⟩:=hok' b _ z2;rw[e]at e1;cases e1;exact e2
 cases hk:K.lookup a with
 |some o=>
  have e:=KX a o hk;rw[ha]at e;cases e;refine core (λ_=>none) (λ_=>.inl rfl) (.inr ⟨_,vs.toArray,_,hk,rfl,rfl,rfl,by rw[XQ,lenV];exact hl,by simpa using rv⟩) (λb u z=>by have z':(none:Option HO)=some u:=z;cases z') (λb z=>absurd rfl z) λz=>absurd rfl z
 |none=>
  refine core (fun b=>if b=a then some (.frz {cls:=.type "list",data:=.seq vs.toArray} (.lst (ns.map V.int)))else none) (fun b=>?_) (.inl (.inr ⟨{cls:=.type "list",data:=.seq vs.toArray},if_pos rfl⟩)) (fun b u z=>?_) (fun b z=>?_) fun _=>hk
  ·by_cases hb:b=a
   ·exact .inr ⟨_,_,if_pos hb⟩
   ·exact .inl (if_neg hb)
  ·by_cases hb:b=a
   ·have z':=(if_pos hb).symm.trans z;cases z';subst hb;exact⟨ha,by rw[Xa];exact hl,vs,_,rv,ha⟩
   ·have z':=(if_neg hb).symm.trans z;cases z'
  ·by_cases hb:b=a
   ·exact hb
   ·exact absurd (if_neg hb) z
abbrev KOf{K:X4}{h:Heap}(_:K.In h):X4:=K
theorem walk_of{l:DH}{n k:Nat}{q:Xv}{loose:List Str}{XP:(Str->Option X0)->Heap->Prop}{YP:Xm->Heap->Prop}{d:DefRec}{K:Params->X4}{CX:Xm->CXT}{sp:Xm->Sp}{x:Str}
  (hn:l.most=some n) (hn2:n≤sizeLine) (hdf:d.params.defaults=[]) (hr:Room k callerA)
  (hY:∀(w:Xm) (h:Heap),YP w h->(K w.params).In h)
  (F:∀(w:Xm) (mg:Str->Option X0) (fa:Addr) (h:Heap),(K w.params).In h->h.Ns Xo mg->mg d.name=some (.ref fa)->
   ∃fd:Xh,(∀(s:X2) (u:X0),BindsTo s fd ⟨[u],[]⟩ [(x,u)])/\
    ∀base:Heap,(K w.params).In base->base.Ns Xo mg->FnOk l.prog w (K w.params) mg base (CX w) k fa fd [x] (sp w))
  (hsp:∀(w:Xm) (H:Hp) (a:Addr) (ns:List Int),ns.length≤n->Only H->SqL (K w.params) H a (ns.map V.int)->sp w [.ref a] H (λv _=>v=.bl true) λ_ _ _=>False)
  (hCX:∀(w:Xm) (H:Hp) (s:X2) (e:X0) (s':X2),CX w [] H s (λ_ _ _=>False) e s'->False):
  PySem.W.WalkO q loose XP YP l.row.toRowW d [] (λf vs=>PySem.call f vs):=by
 refine Att.attach_call hn hdf λw s₀ s₁ mg mb fa o pm cd doc a vs ns G Y ho hd hcd hmg hobj hints hlen hg=>?_;have KX:=hY w _ Y;obtain⟨fd,hb,hF⟩:=F w mg fa _ KX G.T.g hmg;exact _kN KX G.T.g G.T.b G.T.builtins G.T.nolimit hg hobj hints (Y4 hlen hn2) hr hF hb (λH hO hS=>hsp w H a ns hlen hO hS) λH e s'=>hCX w H s₁ e s'
end L2
/- THE LAST THEOREM (shape;LID,My.*are yours):
  My.Adr:a structure of the addresses that your layer names (classes,functions);My.Txt K t:a structure(Prop) of the equations over K;
  My.txt_mk:{K} {implicit addresses ..} (e1:nsIn K Xo "law"=some (some (.ref f))) (e2:K.lookup f=some ⟨oc,od,.func (fnOf "law" "law" params body scope dV kV doc pm an cdv ct),sl⟩) (e3:codeIn K cdv "law"=true) ..:∃t,My.Txt K t
set_option maxRecDepth 100000 in
set_option maxHeartbeats 0 in
theorem PySem.Challenge.cw_LID_holds : PySem.Challenge.rw_LID.Holds := by
 w_on;o_law;k_head;(case hw=>w_witness2)
 k_fill
 refine L2.walk_of (l:=PySem.Challenge.rw_LID) (n:=63) (k:=40) (x:="script") (CX:=fun w=>..) (sp:=fun _=>My.sp_law) rfl (by decide) rfl ⟨rfl,by decide,by decide⟩ (fun w h Y=>PySem.W.kIn_of Y) ?F ?S ?C
 case F=>
  intro w mg fa h KX G hmg;have T:∃t,My.Txt (L2.KOf KX) t:=by
   dsimp only[L2.KOf] -- K must stand as «<heap const> w.params» for k_is
   refine' My.txt_mk ?e1 ?e2 ?e3 ..
   (case e1=>PySem.W.k_is) -- in the order:a name->its address->its object->its parts
   (case e2=>PySem.W.k_is)
   ..
  obtain⟨t,T⟩:=T;have e0:=hmg.symm.trans (Yy KX G T.law);cases e0 -- fa is the law's own address
  exact⟨_,λs u=>.of_eq rfl,λbase kb nb=>My.law_fn T kb nb⟩ -- if «.of_eq rfl» comes too early:refine' ⟨_,?b,λbase kb nb=>My.law_fn T kb nb⟩;exact λs u=>.of_eq rfl
 case S=>exact λw H a ns hl hO hS=>..
 case C=>exact ..
(the tactic k_is has no namespace:write k_is) -/
namespace L2
open PySem PySem.Spec PyProof.Rows
noncomputable def YY(s:Stmt)(j:Nat):Stmt:=match s with
 |.ClassDef _ _ _ body _ _ _ _ _ _ _=>body.getD j (.Pass ⟨0,0,0,0⟩)
 |_=>.Pass ⟨0,0,0,0⟩
noncomputable def Yh(s:Stmt):Arguments:=match s with
 |.FunctionDef _ a _ _ _ _ _ _ _ _=>a
 |_=>{posonlyargs:=[],args:=[],vararg:=none,kwonlyargs:=[],kw_defaults:=[],kwarg:=none,defaults:=[]}
noncomputable def Xe(s:Stmt):List Stmt:=match s with
 |.FunctionDef _ _ b _ _ _ _ _ _ _=>b
 |_=>[]
noncomputable def X5(s:Stmt):Scope:=match s with
 |.FunctionDef _ _ _ _ _ _ sc _ _ _=>sc
 |_=>{kind:=.function,names:=[],isGenerator:=false,isCoroutine:=false}
abbrev CX0:CXT:=λ_ _ _ _ _ _=>False
abbrev E0:XK:=λ_ _ _=>False
theorem Cr{X:Cx}:Vc CX0 X E0:=λ_ _ _ _ _ _ _ h=>h.elim
structure Fun (K:X4) (x qual:Str) (st:Stmt) (f:Addr) (fd:Xh):Prop where
 ex:∃(oc:X0) (od:Option Addr) (kV doc pm:X0) (an:Option Addr) (cdv ct:X0) (osl:Array (Option X0)),
  fd=Y9 x qual (Yh st) (Xe st) (X5 st) .none kV doc pm an cdv ct/\K.lookup f=some ⟨oc,od,.func fd,osl⟩/\Yx K cdv qual=true
 kp:XW K (.ref f)=true
section
variable{P:Xv}{w:Xm}{K:X4}{mg:Str->Option X0}{base:Heap}
theorem Fun.ok{st:Stmt}{k:Nat}(F:Fun K x qual st f fd)(S:FnScope N ps (X5 st))(len:∀vs H Q E,sp vs H Q E->vs.length=ps.length)
  (hbody:∀(cdv:X0) (A:XB) (outer:List Env) (s:X2) (H:Hp) (vs:List V) (Q:VK) (E:XK),Room k (A.deeper (envOfC qual (X5 st) s.heap.objs.size f cdv))->sp vs H Q E->
   ∃t,PSs (cxOf CX0 P w K mg base N qual (X5 st) f cdv A outer s H E).nox (Xe st) t/\t {nx:=λ_ H'=>Q .non H',rt:=Q} (ZH N vs) H):FnOk P w K mg base CX0 (k+1) f fd ps sp:=by
 obtain⟨oc,od,kV,doc,pm,an,cdv,ct,osl,rfl,lk,hcd⟩:=F.ex;refine TD lk hcd S len λA outer s H vs Q E hr hsp=>?_;obtain⟨t,h,q⟩:=hbody cdv A outer s H vs Q E hr hsp;exact⟨t,h.nox,q⟩
theorem Fun.binds{st:Stmt}(F:Fun K x qual st f fd)
  (h:∀(kV doc pm:X0) (an:Option Addr) (cdv ct:X0) (us:List X0),us.length=ps.length->bindArgs (Y9 x qual (Yh st) (Xe st) (X5 st) .none kV doc pm an cdv ct) ⟨us,[]⟩=pure (ps.zip us)):Binds K fd ps []:=by
 obtain⟨oc,od,kV,doc,pm,an,cdv,ct,osl,rfl,lk,hcd⟩:=F.ex;exact .all (h kV doc pm an cdv ct)
theorem fun_mk{st:Stmt}{kV:X0}(l:K.lookup f=some ⟨oc,od,.func (Y9 x qual (Yh st) (Xe st) (X5 st) .none kV doc pm an cdv ct),osl⟩)
  (c:Yx K cdv qual=true) (k:XW K (.ref f)=true):Fun K x qual st f (Y9 x qual (Yh st) (Xe st) (X5 st) .none kV doc pm an cdv ct):=⟨⟨oc,od,kV,doc,pm,an,cdv,ct,osl,rfl,l,c⟩,k⟩
end
section
variable{X:Cx}
theorem pv(i:Nat)(hN:X.N[i]?=some x:=by rfl) (hv:Vis X.env.scope x:=by first|exact Or.inl rfl|exact Or.inr (Or.inl rfl)|exact Or.inr (Or.inr rfl)) (hd:(x==("__debug__":Str))=false:=by decide)
  (hcd:(x==("__classdict__":Str))=false:=by decide):PE X (.Name x pos) (tVar i):=Ib hN hv hd hcd
end
section
variable{X:Cx}
theorem _jF:Yg X (.builtin "len") (fun xs H Q=>∃a kvs,xs=[V.ref a]/\H a=some (.dK kvs)/\Q (.int kvs.length) H):=by
 intro pins s σ H xs us Q I r h;obtain⟨a,kvs,rfl,ha,q⟩:=h;obtain⟨u,rfl,ru⟩:=YX r;cases ru;exact _s9 I (.inl ha) λt s' I'=>⟨.int kvs.length,H,I',⟨t,rfl⟩,q⟩
end
section
variable{κ:Type} [DecidableEq κ]
theorem J0:∀{l:List κ} {k:κ},l.Nodup->¬k∈l->(l++[k]).Nodup
 |[],k,_,_=>by simp
 |a::r,k,h,hk=>by
  obtain⟨h1,h2⟩:=YB.mp h;show(a::(r++[k])).Nodup;refine YB.mpr ⟨λm=>?_,J0 h2 λm=>hk (Xl.mpr (Or.inr m))⟩;rcases YJ.mp m with q|q
  ·exact h1 q
  ·exact hk (Xl.mpr (Or.inl (Y3.mp q).symm))
end
section
variable{X:Cx}
def WM(i j:Int):Prop:=0<j/\j<2^256
theorem _hl(h:WM i j):j.natAbs.log2<9000:=by
 have h1:(0:Int)<j:=h.1;have h2:j<2^256:=h.2;have h0:j.natAbs≠0:=by lia
 have:j.natAbs<2^256:=by lia
 have:=(Nat.log2_lt h0).mpr this;lia
theorem _kE:OpR X (Yi .FloorDiv) (rI WM λi j=>.int (i/j)):=opI λi j _ _ _ _ _ hc q=>by
 have h1:(0:Int)<j:=hc.1;exact floordiv_int (by lia) (by rw[Int.fdiv_eq_ediv_of_nonneg i (by lia)];exact q) (.inl (PyProof.noPylong_of_log2 (_hl hc)))
theorem _g8:Yg X (.builtin "isinstance") (fun xs H Q=>∃x c t b,xs=[x,.ty c]/\TyOf X.K H x t/\UY X.K t (.type c)=some b/\Q (.bl b) H):=by
 intro pins s σ H xs us Q I r h;obtain⟨x,c,t,b,rfl,ty,e,q⟩:=h;obtain⟨u,w',rfl,ru,rw'⟩:=VZ r;cases rw';exact Tp I ru ty e λtk=>⟨.bl b,H,I.tok tk,rfl,q⟩
end
section
variable{X:Cx}{pins:List (Addr×Obj)}{σ:St}{H:Hp}{s:X2}
end
section
variable{X:Cx}
end
end L2
namespace L2
end L2
namespace L2
open PySem PySem.Spec PyProof.Rows
noncomputable def clOf(cells:List (Str×Addr)):List (Str×Z6)->List (Str×Addr)->List (Str×Addr)
 |[],acc=>acc
 |(n,k)::r,acc=>if k=.free then(match cells.lookup n with|some a=>clOf cells r ((n,a)::acc)|none=>clOf cells r acc)else clOf cells r acc
theorem WN(cells:List (Str×Addr)):∀(names:List (Str×Z6)) (acc:List (Str×Addr)) (x:Str) (c:Addr),(clOf cells names acc).lookup x=some c->acc.lookup x=some c\/cells.lookup x=some c
 |[],acc,x,c,h=>.inl h
 |(n,k)::r,acc,x,c,h=>by
  unfold clOf at h;by_cases hk:k=.free
  ·rw[if_pos hk]at h;cases hc:cells.lookup n with
   |none=>rw[hc]at h;exact WN cells r acc x c h
   |some a=>
    rw[hc]at h;rcases WN cells r _ x c h with q|q
    ·by_cases hx:x=n
     ·subst hx;simp at q;subst q;exact .inr hc
     ·have hb:(x==n)=false:=beq_eq_false_iff_ne.mpr hx;simp only[Zj,hb]at q;exact .inl q
    ·exact .inr q
  ·rw[if_neg hk]at h;exact WN cells r acc x c h
theorem Cs(cells:List (Str×Addr)):∀(names:List (Str×Z6)) (acc:List (Str×Addr)) (x:Str) (c:Addr),cells.lookup x=some c->acc.lookup x=some c->(clOf cells names acc).lookup x=some c
 |[],acc,x,c,_,h=>h
 |(n,k)::r,acc,x,c,h,ha=>by
  unfold clOf;by_cases hk:k=.free
  ·rw[if_pos hk];cases hc:cells.lookup n with
   |none=>exact Cs cells r acc x c h ha
   |some a=>
    refine Cs cells r _ x c h ?_;by_cases hx:x=n
    ·subst hx;rw[h]at hc;cases hc;simp
    ·have hb:(x==n)=false:=beq_eq_false_iff_ne.mpr hx;simp only[Zj,hb];exact ha
  ·rw[if_neg hk];exact Cs cells r acc x c h ha
theorem WO(cells:List (Str×Addr)):∀(names:List (Str×Z6)) (acc:List (Str×Addr)) (x:Str) (c:Addr),(x,Yl)∈names->cells.lookup x=some c->(clOf cells names acc).lookup x=some c
 |[],acc,x,c,h,_=>by cases h
 |(n,k)::r,acc,x,c,h,ha=>by
  unfold clOf;rcases Xl.mp h with e|h
  ·cases e;rw[if_pos rfl,ha];exact Cs cells r _ _ c ha (by simp)
  ·by_cases hk:k=.free
   ·rw[if_pos hk];cases hc:cells.lookup n with
    |none=>exact WO cells r acc x c h ha
    |some a=>exact WO cells r _ x c h ha
   ·rw[if_neg hk];exact WO cells r acc x c h ha
theorem Eh(f:Str×Z6->List (Str×Addr)->Sem (ForInStep (List (Str×Addr))))
  (hf:∀n k r,f (n,k) r=if(k==Yl)=true then(cellOf env n >>= λa=>pure (Ci ((n,a)::r)))else pure (Ci r)):
  ∀(names:List (Str×Z6)) (acc:List (Str×Addr)),(∀y∈names,y.2=.free->∃c,env.cells.lookup y.1=some c)->(forIn names acc f:Sem (List (Str×Addr)))=pure (clOf env.cells names acc)
 |[],acc,_=>by rw[List.forIn_nil];rfl
 |(n,k)::r,acc,h=>by
  rw[List.forIn_cons,hf];have hr:∀y∈r,y.2=.free->∃c,env.cells.lookup y.1=some c:=λy hy=>h y (XR _ hy);by_cases hk:k=.free
  ·subst hk;obtain⟨c,hc⟩:=h (n,.free) Ye rfl;have hc':env.cells.lookup n=some c:=hc;have e:cellOf env n=pure c:=by unfold cellOf;rw[hc']
   rw[if_pos (by decide),e,pure_bind,pure_bind]
   show forIn r ((n,c)::acc) f=_;rw[Eh f hf r _ hr];simp only[clOf,if_pos,hc']
  ·have hb:(k==Yl)=false:=by simpa using hk
   rw[hb,if_neg Xx,pure_bind];show forIn r acc f=_;rw[Eh f hf r _ hr];simp only[clOf,if_neg hk]
theorem J1(h:∀y∈scope.names,y.2=.free->∃c,env.cells.lookup y.1=some c):closureFor scope env=pure (clOf env.cells scope.names []):=by
 unfold closureFor;simp only[bind_pure];exact Eh _ (λn k r=>by
  by_cases hk:(k==Yl)=true
  ·simp only[hk,if_true]
  ·simp only[hk,if_false]) scope.names [] h
noncomputable def W3(osc scope:Scope)(N own:List Str)(fr:List Nat):Bool:=
 decide (scope.kind=.function)&&scope.names.all (λy=>decide (y.2≠.cell))&&scope.names.all (λy=>decide (y.2=.local->scope.names.lookup y.1=some .local))&&
 scope.names.all (λy=>decide (y.2=.free->osc.names.lookup y.1=some .cell\/osc.names.lookup y.1=some .free))&&
 fr.all (λi=>match N[i]? with|some x=>decide ((x,Yl)∈scope.names/\scope.names.lookup x=some .free/\(osc.names.lookup x=some .cell\/osc.names.lookup x=some .free))|none=>false)
structure CompOk (osc scope:Scope) (N:List Str) (fr:List Nat):Prop where
 kind:scope.kind=.function
 nocell:∀y∈scope.names,y.2≠.cell
 names:∀y∈scope.names,y.2=.local->scope.names.lookup y.1=some .local
 has:∀y∈scope.names,y.2=.free->osc.names.lookup y.1=some .cell\/osc.names.lookup y.1=some .free
 frees:∀i∈fr,∃x,N[i]?=some x/\(x,Yl)∈scope.names/\scope.names.lookup x=some .free/\(osc.names.lookup x=some .cell\/osc.names.lookup x=some .free)
theorem W4{osc scope:Scope}{N own:List Str}{fr:List Nat}(h:W3 osc scope N own fr=true):CompOk osc scope N fr:=by
 unfold W3 at h;simp only[XX,BG,decide_eq_true_eq]at h;obtain⟨⟨⟨⟨h1,h2⟩,h3⟩,h4⟩,h5⟩:=h;refine⟨h1,h2,h3,h4,λi hi=>?_⟩;have q:=h5 i hi;cases e:N[i]? with
 |none=>rw[e]at q;simp at q
 |some x=>rw[e]at q;simp only[decide_eq_true_eq]at q;exact⟨x,rfl,q⟩
noncomputable def sC(own:List Str)(fr:List Nat)(σ:St):St:=own.map (λ_=>none)++fr.map (λi=>σ.getD i none)
noncomputable def nC(own:List Str)(fr:List Nat)(N:List Str):List Str:=own++fr.map (λi=>N.getD i U7)
def cxC(X:Cx)(scope:Scope)(own:List Str)(fr:List Nat)(C:Addr)(fp:List Addr)(s₃:X2)(H₃:Hp):Cx:=
 {X with N:=nC own fr X.N,s₀:=s₃,H₀:=H₃,env:=compEnvC scope (clOf X.env.cells scope.names []) C X.env,outer:=X.stack,ex:=fp,fn:=λ_=>false,xe:=λ_ _=>False}
def Keep(σ σ':St):Prop:=σ.length=σ'.length/\∀(i:Nat) (v:V),σ[i]?=some (some v)->σ'[i]?=some (some v)
def tAll:TT:=λ_ H Q=>Q true H
def PTs(X:Cx)(ifs:List Expr)(t:TT):Prop:=(ifs=[]/\t=tAll)\/∃c,ifs=[c]/\PT X c t
section
variable{prog:Xv}{w:Xm}{A:XB}{R:Result->X2->Prop}{s:X2}
theorem _eQ(I:Nat->X2->Prop)
  (turn:∀n s,I n s->X3 (X6 prog w) A (pyNext it) (λr s₁=>match r with
   |none=>R (.ok .next) s₁
   |some v=>X3 (X6 prog w) A (Bt target it v) (λ_ s₁'=>X3 (X6 prog w) A (assign target env v) (λ_ s₂=>
     X3 (X6 prog w) A (forIn ifs true λc r=>if r=true then do let ok<- isTrue c env (eval c env);pure (Ci ok)else pure (Ci r)) (λok s₃=>
      if ok=true then X3 (X6 prog w) A (eval elt env) (λx s₄=>
       X3 (X6 prog w) A (call (.builtin "list.append") [acc,x]) (fun _ s₅=>∃m,m<n/\I m s₅) (fun _ _=>False) s₄) (fun _ _=>False) s₃
      else∃m,m<n/\I m s₃) (λ_ _=>False) s₂) (λ_ _=>False) s₁') (λ_ _=>False) s₁) (λ_ _=>False) s)
  (n:Nat) (h:I n s):
  YU (X6 prog w) A (.compLoop (.ListComp elt [⟨target,iter,ifs,0⟩] scope pos) 0 it acc env) R s:=by
 refine codeAny_loop rfl I (λn s hI=>?_) n h;show X3 _ A ((compTurn (.ListComp elt [⟨target,iter,ifs,0⟩] scope pos) 0 it acc env).onRaise (λx=>do noteFrame x env;theTreesLotGoes x)) _ _ s
 refine wpAny_noted ?_;rw[compTurn_list];refine X1 (wpAny_standAt (X1 (Zt (turn n s hI) (λr s₁ h₁=>?_) λ_ _ h'=>h'.elim)));cases r with
 |none=>exact X8 h₁
 |some v=>
  refine X1 (Zt h₁ (λ_ s₁' h₁'=>?_) λ_ _ h'=>h'.elim);refine X1 (Zt h₁' (λ_ s₂ h₂=>X1 (Zt h₂ (λok s₃ h₃=>?_) λ_ _ h'=>h'.elim)) λ_ _ h'=>h'.elim);cases ok with
  |false=>exact X8 ⟨rfl,h₃⟩
  |true=>
   exact X1 (X1 (Zt h₃ (λx s₄ h₄=>X1 (Zt h₄ (λ_ s₅ h₅=>X8 (X8 ⟨rfl,h₅⟩)) λ_ _ h'=>h'.elim)) λ_ _ h'=>h'.elim))
end
theorem _qt(h:Q true H):tAll σ H Q:=h
section
variable{X:Cx}{pins:List (Addr×Obj)}{σ:St}{H1:Hp}{s2:X2}{tg elt iter:Expr}{ifs:List Expr}{scope:Scope}{pos:Pos}{own:List Str}{fr:List Nat}{g:TG}{tt:TT}{te:TE}
theorem J3{scope:Scope}{env:Env}{x:Str}:∀{names:List (Str×Z6)},names.lookup x=some .free->
  (names.map fun(n,k)=>if(k==Yl&&env.scope.kind==.function&&env.kindOf n==some .cell)then(n,VP)else(n,k)).lookup x=some .cell\/
  (names.map fun(n,k)=>if(k==Yl&&env.scope.kind==.function&&env.kindOf n==some .cell)then(n,VP)else(n,k)).lookup x=some .free
 |[],h=>by simp at h
 |(n,k)::r,h=>by
  have ih:=@J3 scope env x r;show U3 x ((if(k==Yl&&env.scope.kind==.function&&env.kindOf n==some .cell)=true then(n,VP)else(n,k))::_)=_\/U3 x ((if(k==Yl&&env.scope.kind==.function&&env.kindOf n==some .cell)=true then(n,VP)else(n,k))::_)=_;cases hx:x==n with
  |true=>
   simp only[Zj,hx]at h;cases h;by_cases hc:(Yl==Yl&&env.scope.kind==.function&&env.kindOf n==some .cell)=true
   ·rw[if_pos hc];simp only[Zj,hx];exact .inl trivial
   ·rw[if_neg hc];simp only[Zj,hx];exact .inr trivial
  |false=>
   simp only[Zj,hx]at h;by_cases hc:(k==Yl&&env.scope.kind==.function&&env.kindOf n==some .cell)=true
   ·rw[if_pos hc];simp only[Zj,hx];exact ih h
   ·rw[if_neg hc];simp only[Zj,hx];exact ih h
theorem J4{scope:Scope}{env:Env}(hn:∀y∈scope.names,y.2≠.cell){x:Str}:∀{names:List (Str×Z6)},(∀y∈names,y.2≠.cell)->
  ((names.map fun(n,k)=>if(k==Yl&&env.scope.kind==.function&&env.kindOf n==some .cell)then(n,VP)else(n,k)).lookup x=some .cell\/
  (names.map fun(n,k)=>if(k==Yl&&env.scope.kind==.function&&env.kindOf n==some .cell)then(n,VP)else(n,k)).lookup x=some .free)->(x,Yl)∈names
 |[],_,h=>by simp at h
 |(n,k)::r,hnc,h=>by
  have ih:=@J4 scope env hn x r (λy hy=>hnc y (XR _ hy));have hk:k≠.cell:=hnc (n,k) Ye;simp only[Xy]at h;cases hx:x==n with
  |true=>
   have e:x=n:=eq_of_beq hx;subst e;by_cases hc:(k==Yl&&env.scope.kind==.function&&env.kindOf x==some .cell)=true
   ·have:k=.free:=by
     simp only[XX,beq_iff_eq]at hc;exact hc.1.1
    subst this;exact Ye
   ·rw[if_neg hc]at h;simp at h;rcases h with h|h
    ·exact absurd h hk
    ·subst h;exact Ye
  |false=>
   by_cases hc:(k==Yl&&env.scope.kind==.function&&env.kindOf n==some .cell)=true
   ·rw[if_pos hc]at h;simp only[Zj,hx]at h;exact XR _ (ih h)
   ·rw[if_neg hc]at h;simp only[Zj,hx]at h;exact XR _ (ih h)
theorem _hB(ok:CompOk X.env.scope scope X.N fr)(I3:Inv X pins σ H3 s3)(hC:C=s3.heap.objs.size)(hf:∀b∈fp,FpOk X pins H3 b)(hfo:∀b∈fp,∃o,s3.heap.get? b=some o)
  (ns:h4.Ns C m) (kp:∀b o,s3.heap.get? b=some o->h4.get? b=some o):
  Inv (cxC X scope own fr C fp s3 H3) pins (sC own fr σ) H3 {s3 with heap:=h4,toks:=tk}:=by
 have cellsub:∀x c,(clOf X.env.cells scope.names []).lookup x=some c->X.env.cells.lookup x=some c:=λx c h=>(WN _ _ _ _ _ h).elim (λz=>by simp at z) id
 have cellt:∀x c,X.env.cells.lookup x=some c->c<s3.heap.objs.size:=λx c e=>let⟨v,q⟩:=I3.cell x c e;q.lt
 have fplt:∀b∈fp,b<s3.heap.objs.size:=λb hb=>let⟨o,e⟩:=hfo b hb;Xu e
 have kindOf_of:∀x,(X.env.scope.names.lookup x=some .cell\/X.env.scope.names.lookup x=some .free)->∃c,X.env.cells.lookup x=some c:=λx h=>I3.ok.has x h;refine⟨⟨I3.ok.mod,ok.kind,I3.ok.glob,I3.ok.blt,VL hC.symm,λx y c h1 h2=>I3.ok.inj x y c (cellsub x c h1) (cellsub y c h2),λx hx=>?_,λx c z=>?_,I3.ok.hd,I3.ok.frames,.inl rfl,λb hb=>⟨?_,λx c e=>?_⟩,λb o e=>I3.bs b o e,Y4 I3.ok.bsz I3.sz,λb o e hb=>?_,λb hb hz=>?_,I3.stack,λb hb=>I3.stkFree b hb⟩,
  rfl,I3.bare,Un.kept kp,⟨m,ns,λi x v e1 e2 e3=>?_⟩,λx c e=>?_,?_,λx c e=>I3.freeC x c (cellsub x c e),λp hp=>?_,I3.hok.kept kp,?_⟩
 · -- has
  have hm:(x,Yl)∈scope.names:=J4 (scope:=scope) (env:=X.env) ok.nocell ok.nocell hx;obtain⟨c,hc⟩:=kindOf_of x (ok.has _ hm rfl);exact⟨c,WO _ _ _ _ _ hm hc⟩
 ·exact absurd z Xx
 ·exact XC (by rw[hC];exact fplt b hb)
 ·exact(hf b hb).2.2.2.2.1 x c (cellsub x c e)
 ·rcases(hf b hb).2.2.2.1 with z|z
  ·exact I3.ok.noex b o e z
  ·exact absurd (YC (Xu e) (Y4 I3.ok.bsz z)) (V2 _)
 ·rcases Xl.mp (I3.stkSub b hz)with z|z
  ·exact(hf b hb).2.1 z
  ·exact(hf b hb).2.2.1 z
 · -- a free name's value
  have e2':(own.map (λ_=>(none:Option V))++fr.map (λi=>σ.getD i none))[i]?=some (some v):=e2;have e1':(own++fr.map (λi=>X.N.getD i U7))[i]?=some x:=e1;by_cases hi:i<own.length
  ·rw[U1 (by simpa using hi),Xq]at e2'
   cases q:own[i]? with
   |none=>rw[q]at e2';cases e2'
   |some z=>rw[q]at e2';cases e2'
  ·rw[Zy (by simpa using hi)]at e2'
   rw[Zy (by simpa using hi)]at e1'
   simp only[Xa]at e2';rw[Xq]at e1' e2';cases q:fr[i - own.length]? with
   |none=>rw[q]at e2';cases e2'
   |some j=>
    rw[q]at e1' e2';obtain⟨y,hy,hm,hl,ho⟩:=ok.frees j (Xz q);have ex:x=y:=by
     have:X.N.getD j U7=y:=by rw[Yo,hy];rfl
     simp only[Ch,this,C1]at e1';exact e1'.symm
    subst ex;have ev:σ[j]?=some (some v):=by
     simp only[Ch,C1]at e2';rw[Yo]at e2';cases z:σ[j]? with
     |none=>rw[z]at e2';cases e2'
     |some o=>rw[z]at e2';cases e2';rfl
    obtain⟨m0,hn0,hl0⟩:=I3.loc;obtain⟨u,ru,lk⟩:=hl0 j x v hy ev (.inr ho);refine⟨u,ru,.inr ⟨J3 (scope:=scope) hl,?_⟩⟩;rcases lk with⟨k1,_⟩|⟨_,c,hc,z⟩
    ·have k1':X.env.scope.names.lookup x=some .local:=k1;rw[k1']at ho;rcases ho with z|z<;>cases z
    ·exact⟨c,WO _ _ _ _ _ hm hc,z.keeps kp⟩
 ·obtain⟨v,z⟩:=I3.cell x c (cellsub x c e);exact⟨v,z.keeps kp⟩
 ·show H3 C=none;exact I3.hok.fresh (VL hC.symm)
 ·obtain⟨e,n,ne,nf,d⟩:=I3.pin p hp;refine⟨kp _ _ e,n,XC (by rw[hC];exact Xu e),λz=>?_,d⟩
  rcases Xl.mp (I3.stkSub p.1 z)with z|z
  ·exact ne z
  ·exact nf z
 ·show(own.map (λ_=>(none:Option V))++fr.map (λi=>σ.getD i none)).length=(own++fr.map (λi=>X.N.getD i U7)).length;simp
end
section
variable{X:Cx}
theorem _jA(hc:X.calm=true):Yg X (.builtin "min") (fun xs H Q=>∃(p:Addr) (ns:List Int),xs=[.ref p]/\SqL X.K H p (ns.map V.int)/\0<ns.length/\∀M,M∈ns->(∀a∈ns,M≤a)->Q (.int M) H):=by
 intro pins s σ H xs us Q I r h;obtain⟨p,ns,rfl,hq,hne,q⟩:=h;obtain⟨u,rfl,ru⟩:=YX r;cases ru;obtain⟨its,rv,pl,hz⟩:=I.list hq;have hi:IntsAre its ns:=IF rv;obtain⟨xs,e⟩:=hi.allInts.items;have hns:ns=xs.toList.map (·.1):=by rw[<- hi.numsOf,<- nums_intItems,<- e]
 have hsz:0<xs.size:=by
  have h3:=hne;rw[hns,Xa,XY]at h3;exact h3
 have hl:=pl.isList;rw[e]at hl;refine min_intList (I.ok.hd hc) hl hsz λv h' tk hv hk=>?_;obtain⟨t,rfl⟩:=intItems_at hv;obtain⟨h1,h2⟩:=argBest_lt (numAt xs) (xs.size - 1);refine⟨.int _,H,I.kept hk,⟨t,rfl⟩,q _ ?_ λa ha=>?_⟩
 ·rw[hns,numAt_eq];exact getD_mem (by rw[Xa,XY];lia)
 ·rw[hns]at ha;obtain⟨j,hj,rfl⟩:=mem_getD ha;rw[Xa,XY]at hj;rw[<- numAt_eq];exact h2 j (by lia)
theorem _jC(hc:X.calm=true):Yg X (.builtin "max") (fun xs H Q=>∃(p:Addr) (ns:List Int),xs=[.ref p]/\SqL X.K H p (ns.map V.int)/\0<ns.length/\∀M,M∈ns->(∀a∈ns,a≤M)->Q (.int M) H):=by
 intro pins s σ H xs us Q I r h;obtain⟨p,ns,rfl,hq,hne,q⟩:=h;obtain⟨u,rfl,ru⟩:=YX r;cases ru;obtain⟨its,rv,pl,hz⟩:=I.list hq;have hi:IntsAre its ns:=IF rv;obtain⟨xs,e⟩:=hi.allInts.items;have hns:ns=xs.toList.map (·.1):=by rw[<- hi.numsOf,<- nums_intItems,<- e]
 have hsz:0<xs.size:=by
  have h3:=hne;rw[hns,Xa,XY]at h3;exact h3
 have hl:=pl.isList;rw[e]at hl;refine max_intList (I.ok.hd hc) hl hsz λv h' tk hv hk=>?_;obtain⟨t,rfl⟩:=intItems_at hv;obtain⟨h1,h2⟩:=argBest_gt (numAt xs) (xs.size - 1);refine⟨.int _,H,I.kept hk,⟨t,rfl⟩,q _ ?_ λa ha=>?_⟩
 ·rw[hns,numAt_eq];exact getD_mem (by rw[Xa,XY];lia)
 ·rw[hns]at ha;obtain⟨j,hj,rfl⟩:=mem_getD ha;rw[Xa,XY]at hj;rw[<- numAt_eq];exact h2 j (by lia)
end
theorem Ct(ns:List Int):(Xr ns.length).map (λi=>ns.getD i 0)=ns:=by
 apply BH
 ·simp
 ·intro i h1 h2;simp[h2]
section
variable{X:Cx}
end
section
variable{X:Cx}
end
section
variable{X:Cx}
theorem _fA(hz:z.length≤16)(h0:-1000≤i)(h1:i≤1000):MulOk z i:=by
 refine⟨?_,λh2 _=>?_,λh2 _=>?_⟩
 ·rw[decide_eq_false (by lia),decide_eq_false (by lia)];rfl
 ·have hi:1≤i:=by lia
  have:(16:Int)≤(2^63 - 1)/i:=by
   rw[Int.le_ediv_iff_mul_le (by lia)]
   lia
  lia
 ·have:z.length*i.toNat≤16*1000:=Nat.mul_le_mul hz (by lia)
  have h3:z.length*i.toNat<2^20:=by lia
  generalize z.length*i.toNat=n at h3;revert n;intro n hn;have hs:sizeLine=16777216:=by decide
  show decide (n>sizeLine)=false;rw[hs];exact decide_eq_false (by lia)
theorem _n6:OpR X (Yi .Mult) (λx y H Q=>∃z i,x=.str z/\y=.int i/\z.length≤16/\ -1000≤i/\i≤1000/\Q (.str (Txt.mul z i)) H):=by
 intro pins s σ H x y v u Q I rx ry h;obtain⟨z,i,rfl,rfl,hz,h0,h1,q⟩:=h;obtain⟨t,rfl⟩:=rx;obtain⟨t',rfl⟩:=ry;exact SB.mul (_fA hz h0 h1) (λt' k=>⟨.str (Txt.mul z i),H,I.tok _,⟨_,rfl⟩,q⟩)
theorem J5(x:Array Nat):∀(k:Nat) (acc:Array Nat),((Xi k x).foldl (·++·) acc).size=acc.size+k*x.size
 |0,acc=>by simp
 |k+1,acc=>by
  rw[Za,VD,J5 x k,Array.size_append,Nat.succ_mul];lia
theorem _nl(z:Str)(i:Int):(Txt.mul z i).length=i.toNat*z.length:=by
 unfold Txt.mul;by_cases h:i<1
 ·rw[if_pos h];have:i.toNat=0:=by lia
  rw[this,Nat.zero_mul]
  rfl
 rw[if_neg h];by_cases h2:(i==1||z.length==0)=true
 ·rw[if_pos h2];rcases(BQ _ _).mp h2 with e|e
  ·have:i=1:=by simpa using e
   subst this;simp
  ·have:z.length=0:=by simpa using e
   rw[this,Nat.mul_zero]
 ·rw[if_neg h2];have e:=J5 z.cps i.toNat #[];show((Xi i.toNat z.cps).foldl (·++·) #[]).size=_;rw[e];show 0+_=_;rw[Nat.zero_add]
  rfl
theorem Cu{z:Str}{i:Int}(m:Nat)(h:i≤m)(hz:z.length≤1):(Txt.mul z i).length≤m:=by
 rw[_nl];have:i.toNat*z.length≤i.toNat*1:=Nat.mul_le_mul_left _ hz;lia
theorem _kF(hu:X.A.units<cLine):OpR X (Y0 .Eq) (λx y H Q=>∃a b xs,x=.ref a/\y=.ref b/\SqL X.K H a xs/\SqL X.K H b []/\Q (.bl xs.isEmpty) H):=by
 intro pins s σ H x y v u Q I rx ry h;obtain⟨a,b,xs,rfl,rfl,ha,hb,q⟩:=h;cases rx;cases ry;obtain⟨its,rv,pl,hz⟩:=I.list ha;obtain⟨jts,rw',pl',_⟩:=I.list hb;have hj:jts=[]:=BB rw'.length.symm;subst hj;cases xs with
 |nil=>
  have hi:its=[]:=BB rv.length.symm;subst hi;exact SeqAt.eq_listAt (e:=λ_=>true) pl.isList pl'.isList rfl hu (λj h1 _=>absurd h1 (Nat.not_lt_zero j)) (XH I q rfl)
 |cons x r=>
  have hl:its.length=r.length+1:=by rw[<- rv.length];rfl
  exact SeqAt.eq_list_lengthsAt pl.isList pl'.isList (by simp;intro e;rw[e]at hl;simp at hl) hu (XH I q rfl)
theorem _kD(hu:X.A.units<cLine):OpR X (Y0 .NotEq) (λx y H Q=>∃a b xs,x=.ref a/\y=.ref b/\SqL X.K H a xs/\SqL X.K H b []/\Q (.bl (!xs.isEmpty)) H):=by
 intro pins s σ H x y v u Q I rx ry h;obtain⟨a,b,xs,rfl,rfl,ha,hb,q⟩:=h;cases rx;cases ry;obtain⟨its,rv,pl,hz⟩:=I.list ha;obtain⟨jts,rw',pl',_⟩:=I.list hb;have hj:jts=[]:=BB rw'.length.symm;subst hj;cases xs with
 |nil=>
  have hi:its=[]:=BB rv.length.symm;subst hi;exact SeqAt.RcNeAt.lists (e:=λ_=>true) pl.isList pl'.isList rfl hu (λj h1 _=>absurd h1 (Nat.not_lt_zero j)) X.prog X.w _ _ (XH I q rfl)
 |cons x r=>
  have hl:its.length=r.length+1:=by rw[<- rv.length];rfl
  exact SeqAt.RcNeAt.lists_lengths pl.isList pl'.isList (by simp;intro e;rw[e]at hl;simp at hl) hu X.prog X.w _ _ (XH I q rfl)
end
open AutoSeq1 (wpAny_loadPart')
open MeetsSeq MeetsSeq2 MeetsSeq3 SeqRoads2
def AliP(P:Xv)(w:Xm)(A:XB)(s:X2)(y x:X0):Prop:=∀(E:X0->X2->Prop) (Q:Bool->X2->Prop),Q true s->X3 (X6 P w) A (eqBool y x) Q E s
def RcP(P:Xv)(w:Xm)(A:XB)(s:X2)(y x:X0):Prop:=∀(E Q:X0->X2->Prop),Q (.bool true) s->X3 (X6 P w) A (richCompare .Eq y x) Q E s
def RnP(P:Xv)(w:Xm)(A:XB)(s:X2)(y x:X0):Prop:=∀(E Q:X0->X2->Prop),Q (.bool false) s->X3 (X6 P w) A (richCompare .NotEq y x) Q E s
section
variable{P:Xv}{w:Xm}{A:XB}{s:X2}{a b:Addr}{xs ys:Array X0}
theorem AliP.of_at(h:SeqAt.EqAt A s y x true):AliP P w A s y x:=λE Q q=>h P w E Q q
theorem AliP.refs(h:RcP P w A s (.ref a) (.ref b)):AliP P w A s (.ref a) (.ref b):=by
 intro E Q q;by_cases e:a=b
 ·subst e;exact SeqAt.EqAt.same _ P w E Q q
 ·unfold eqBool;refine YH (wpAny_ite_split (λz=>absurd (by injection (eq_of_beq z)) e) λ_=>?_)
  exact X1 (h E _ (Zu q))
theorem _oQ(ha:s.heap.IsTuple a xs)(hb:s.heap.IsTuple b ys)(hz:xs.size=ys.size)(hu:A.units<cLine)(he:∀p∈xs.toList.zip ys.toList,AliP P w A.in1 s p.1 p.2):RcP P w A s (.ref a) (.ref b):=by
 intro E Q q;obtain⟨⟨c1,d1,t1,l1⟩,o1,k1,n1,e1⟩:=id ha;obtain⟨⟨c2,d2,t2,l2⟩,o2,k2,n2,e2⟩:=id hb;dsimp only at k1 e1 k2 e2;subst k1 e1 k2 e2;refine Vs (op:=.Eq) ⟨_,o1,rfl⟩ ⟨_,o2,rfl⟩ F.slot_tuple_eq (Z7 F.slot_tuple_eq ⟨_,o1,rfl⟩ F.entry_tuple_eq ?_ (F.args_tuple_eq_2 _ _)) hu;obtain⟨h0,g0,dd,tk,os⟩:=s;have f2:=Hq
 wp_walk using Yd o1,Yd o2,wpAny_forIn_list _ (λrest r s'=>r.1=none/\s'=⟨h0,g0,dd,tk,os⟩/\∀p∈rest,AliP P w A.in1 ⟨h0,g0,dd,tk,os⟩ p.1 p.2) _
 case turn=>
  rintro⟨y,x⟩ rest r s' ⟨z1,rfl,m⟩;refine X1 (m (y,x) Ye _ _ ?_)
  wp_walk
  exact⟨rfl,rfl,λp hp=>m p (XR _ hp)⟩
 case fin=>
  rintro⟨r1,r2⟩ s' ⟨z1,rfl,-⟩;dsimp only at z1;subst z1
  wp_walk
  have tc:C4 .Eq xs.size ys.size=.bool true:=by simp[C4,hz]
  rw[tc];exact⟨_,rfl,(λz=>nomatch z),q⟩
 case h=>exact⟨rfl,rfl,he⟩
theorem _l5(hz:xs.size=ys.size)
  (o1:s.heap.get? a=some {cls:=.type "list",dict:=d1,data:=.seq xs n1,slots:=l1}) (o2:s.heap.get? b=some {cls:=.type "list",dict:=d2,data:=.seq ys n2,slots:=l2})
  (he:∀j (h1:j<xs.size) (h2:j<ys.size),AliP P w A.in1 s xs[j] ys[j]) (q:R (.ok (.ret (.bool true))) s):∀k i:Nat,xs.size - i=k->
  X3 (X6 P w) A.in1 (Builtin.«list.__eq__.loop» ⟨[.ref a,.ref b,Y2 i,Y2 2],[]⟩) (λfin s'=>match fin with|.done f=>R (.ok f) s'|.again c'=>c'.quiet=true/\YU (X6 P w) A c' R s') (λe s'=>R (.error e) s') s:=by
 obtain⟨h0,g0,dd,tk,os⟩:=s;intro k
 induction k with
 |zero=>
  intro i hk
  wp_walk using Yd o1,Yd o2
  rw[show xs[((i:Nat):Int).toNat]?=none by simp;lia,show ys[((i:Nat):Int).toNat]?=none by simp;lia]
  wp_walk using Yd o1,Yd o2
  show R (.ok (.ret (.bool (xs.size==ys.size)))) _
  simpa [hz]using q
 |succ k ih=>
  intro i hk;have h1:i<xs.size:=by lia
  have h2:i<ys.size:=by lia
  wp_walk using Yd o1,Yd o2
  rw[show xs[((i:Nat):Int).toNat]?=some xs[i] by simp[h1],show ys[((i:Nat):Int).toNat]?=some ys[i] by simp[h2]]
  refine X1 (he i h1 h2 _ _ ?_)
  wp_walk
  rw[show((i:Int)+1)=((i+1:Nat):Int) by push_cast;rfl]
  refine⟨Zh plain_eq_loop _,Z8 entry_eq_loop ?_⟩;rw[Zo plain_eq_loop _];exact ih (i+1) (by lia)
theorem _oR(ha:s.heap.IsList a xs)(hb:s.heap.IsList b ys)(hz:xs.size=ys.size)(hu:A.units<cLine)(he:∀j (h1:j<xs.size) (h2:j<ys.size),AliP P w A.in1 s xs[j] ys[j]):RcP P w A s (.ref a) (.ref b):=by
 intro E Q q;obtain⟨⟨c1,d1,t1,l1⟩,o1,k1,n1,e1⟩:=id ha;obtain⟨⟨c2,d2,t2,l2⟩,o2,k2,n2,e2⟩:=id hb;dsimp only at k1 e1 k2 e2;subst k1 e1 k2 e2;have t1:s.TypeIs (.ref a) "list":=⟨_,o1,rfl⟩;refine Vs (op:=.Eq) t1 ⟨_,o2,rfl⟩ DT (wpAny_call (Wn DT.plain F.entry_list_eq (DT.check _ _ _ _ _ _ _ _ t1 (F.args_list_eq_2 _ _) ?_))) hu;obtain⟨h0,g0,dd,tk,os⟩:=s;have f3:=Hr;have nz:¬(xs.size != ys.size)=true:=by simp[hz]
 wp_walk using Yd o1,Yd o2
 refine⟨Zh plain_eq_loop _,Z8 entry_eq_loop ?_⟩;rw[Zo plain_eq_loop _];exact _l5 (R:=wants (λv s'=>v≠.notImplemented/\Q v s') E) hz o1 o2 he (show Ya true≠.notImplemented/\Q (.bool true) _ from⟨(λz=>nomatch z),q⟩) _ 0 rfl
theorem _nh(ha:s.heap.IsTuple a xs)(hb:s.heap.IsTuple b ys)(hz:xs.size=ys.size)(hu:A.units<cLine)(he:∀p∈xs.toList.zip ys.toList,AliP P w A.in1 s p.1 p.2):RnP P w A s (.ref a) (.ref b):=by
 intro E Q q;obtain⟨⟨c1,d1,t1,l1⟩,o1,k1,n1,e1⟩:=id ha;obtain⟨⟨c2,d2,t2,l2⟩,o2,k2,n2,e2⟩:=id hb;dsimp only at k1 e1 k2 e2;subst k1 e1 k2 e2;refine Vs (op:=.NotEq) ⟨_,o1,rfl⟩ ⟨_,o2,rfl⟩ F.slot_tuple_ne (Z7 F.slot_tuple_ne ⟨_,o1,rfl⟩ F.entry_tuple_ne ?_ (F.args_tuple_ne_2 _ _)) hu;obtain⟨h0,g0,dd,tk,os⟩:=s;have f2:=Hq
 wp_walk using Yd o1,Yd o2,wpAny_forIn_list _ (λrest r s'=>r.1=none/\s'=⟨h0,g0,dd,tk,os⟩/\∀p∈rest,AliP P w A.in1 ⟨h0,g0,dd,tk,os⟩ p.1 p.2) _
 case turn=>
  rintro⟨y,x⟩ rest r s' ⟨z1,rfl,m⟩;refine X1 (m (y,x) Ye _ _ ?_)
  wp_walk
  exact⟨rfl,rfl,λp hp=>m p (XR _ hp)⟩
 case fin=>
  rintro⟨r1,r2⟩ s' ⟨z1,rfl,-⟩;dsimp only at z1;subst z1
  wp_walk
  have tc:C4 .NotEq xs.size ys.size=.bool false:=by simp[C4,hz]
  rw[tc];exact⟨_,rfl,(λz=>nomatch z),q⟩
 case h=>exact⟨rfl,rfl,he⟩
theorem _kJ(hz:xs.size=ys.size)
  (o1:s.heap.get? a=some {cls:=.type "list",dict:=d1,data:=.seq xs n1,slots:=l1}) (o2:s.heap.get? b=some {cls:=.type "list",dict:=d2,data:=.seq ys n2,slots:=l2})
  (he:∀j (h1:j<xs.size) (h2:j<ys.size),AliP P w A.in1 s xs[j] ys[j]) (q:R (.ok (.ret (.bool false))) s):∀k i:Nat,xs.size - i=k->
  X3 (X6 P w) A.in1 (Builtin.«list.__eq__.loop» ⟨[.ref a,.ref b,Y2 i,Y2 3],[]⟩) (λfin s'=>match fin with|.done f=>R (.ok f) s'|.again c'=>c'.quiet=true/\YU (X6 P w) A c' R s') (λe s'=>R (.error e) s') s:=by
 obtain⟨h0,g0,dd,tk,os⟩:=s;intro k
 induction k with
 |zero=>
  intro i hk
  wp_walk using Yd o1,Yd o2
  rw[show xs[((i:Nat):Int).toNat]?=none by simp;lia,show ys[((i:Nat):Int).toNat]?=none by simp;lia]
  wp_walk using Yd o1,Yd o2
  show R (.ok (.ret (.bool (xs.size != ys.size)))) _
  simpa [hz]using q
 |succ k ih=>
  intro i hk;have h1:i<xs.size:=by lia
  have h2:i<ys.size:=by lia
  wp_walk using Yd o1,Yd o2
  rw[show xs[((i:Nat):Int).toNat]?=some xs[i] by simp[h1],show ys[((i:Nat):Int).toNat]?=some ys[i] by simp[h2]]
  refine X1 (he i h1 h2 _ _ ?_)
  wp_walk
  rw[show((i:Int)+1)=((i+1:Nat):Int) by push_cast;rfl]
  refine⟨Zh plain_eq_loop _,Z8 entry_eq_loop ?_⟩;rw[Zo plain_eq_loop _];exact ih (i+1) (by lia)
theorem _ni(ha:s.heap.IsList a xs)(hb:s.heap.IsList b ys)(hz:xs.size=ys.size)(hu:A.units<cLine)(he:∀j (h1:j<xs.size) (h2:j<ys.size),AliP P w A.in1 s xs[j] ys[j]):RnP P w A s (.ref a) (.ref b):=by
 intro E Q q;obtain⟨⟨c1,d1,t1,l1⟩,o1,k1,n1,e1⟩:=id ha;obtain⟨⟨c2,d2,t2,l2⟩,o2,k2,n2,e2⟩:=id hb;dsimp only at k1 e1 k2 e2;subst k1 e1 k2 e2;have t1:s.TypeIs (.ref a) "list":=⟨_,o1,rfl⟩;refine Vs (op:=.NotEq) t1 ⟨_,o2,rfl⟩ DU (wpAny_call (Wn DU.plain F.entry_list_ne (DU.check _ _ _ _ _ _ _ _ t1 (F.args_list_ne_2 _ _) ?_))) hu;obtain⟨h0,g0,dd,tk,os⟩:=s;have f3:=Hr;have nz:¬(xs.size != ys.size)=true:=by simp[hz]
 wp_walk using Yd o1,Yd o2
 refine⟨Zh plain_eq_loop _,Z8 entry_eq_loop ?_⟩;rw[Zo plain_eq_loop _];exact _kJ (R:=wants (λv s'=>v≠.notImplemented/\Q v s') E) hz o1 o2 he (show Ya false≠.notImplemented/\Q (.bool false) _ from⟨(λz=>nomatch z),q⟩) _ 0 rfl
theorem J7{K:Type} [DecidableEq K] {knd:KeyKind P w K}{nm:String}{ka kb:List (K×X0)}{E:X0->X2->Prop}{Q:Bool->X2->Prop}(na:(a==YT)=false)(nb:(b==YT)=false)
  (da:s.heap.DictOf knd a ka) (db:s.heap.DictOf knd b kb) (hz:ka.length=kb.length) (he:∀p∈ka,∃y,Z1 kb p.1=some y/\AliP P w A s p.2 y) (q:Q true s):
  X3 (X6 P w) A (Hv nm a b) Q E s:=by
 obtain⟨oa,ea,pa,o1,_,t1,k1,v1,_⟩:=da;obtain⟨ob,eb,pb,o2,_,t2,k2,v2,_⟩:=db;have za:ka.length=ea.size:=v1.length.symm.trans XY;have zb:kb.length=eb.size:=v2.length.symm.trans XY;have fd:∀k,findBy knd.is eb k=Z1 kb k:=by
  intro k;rw[<- v2.find k];clear zb v2 k2 t2 o2;obtain⟨l⟩:=eb;simp[findBy]
 have zz:ea.size=eb.size:=by lia
 unfold Hv Builtin.Dict.showsAll;rw[na,nb];refine X1 (X8 (X1 (X8 (X1 (Bx o1 t1 ?_)))));dsimp only;refine X1 (Bx o2 t2 ?_);rw[if_neg (by simp[zz])]
 refine X1 (wpAny_dictEpoch o1 t1 (X1 ?_));rw[Std.Legacy.Range.forIn_eq_forIn_range'];simp only[Std.Legacy.Range.size,Nat.sub_zero,Nat.add_sub_cancel,Nat.div_one];refine wpAny_forIn_list _ (λrest r s'=>s'=s/\r=(none,())/\∀i∈rest,i<ea.size) _ ?_ ?_ _ _ ⟨rfl,rfl,λi hi=>by simpa using hi⟩
 ·rintro i rest r s' ⟨rfl,rfl,m⟩;have lt:i<ea.size:=m i Ye;have lt':i<ka.length:=by lia
  refine X1 (Bx o1 t1 ?_);rw[V5 lt];obtain⟨key,val⟩:=v1.get? (i:=i) (e:=ea[i]) (k:=ka[i].1) (v:=ka[i].2) (by rw[Hi];exact V5 lt) (Xc lt')
  obtain⟨k',i',hh⟩:=k1 ea[i] (Array.getElem_mem lt);obtain rfl:k'=ka[i].1:=knd.inj _ _ _ i' key;obtain⟨y,fy,al⟩:=he ka[i] (XV lt');show X3 _ _ (Z4 [ea[i].key,ea[i].val] _ >>= _) _ _ _;rw[hh];refine X1 (YH (X1 (wpAny_dictFind_of key o2 t2 k2 ?_)));have fy':=fy;rw[<- fd,findBy_of_findIdx?]at fy';cases hj:eb.findIdx? λe=>knd.is ka[i].1 e.key with
  |none=>rw[hj]at fy';cases fy'
  |some j=>
   rw[hj]at fy';obtain⟨jl,_,_⟩:=Array.findIdx?_eq_some_iff_getElem.mp hj;refine X1 (Bx o2 t2 ?_);rw[V5 jl];have ey:eb[j].val=y:=by simpa [V5 jl]using fy'
   rw[<- ey,<- val]at al;refine YH (al _ _ ?_);show X3 _ _ (if(!true)=true then _ else _) _ _ _;rw[if_neg (show¬(!true)=true from Xx)];refine X1 (wpAny_dictEpoch o1 t1 ?_);rw[if_neg (by simp)]
   exact X8 ⟨rfl,rfl,λz hz=>m z (XR _ hz)⟩
 ·rintro r s' ⟨rfl,rfl,-⟩;exact X8 q
theorem _oS{K:Type} [DecidableEq K] {knd:KeyKind P w K}{ka kb:List (K×X0)}(na:(a==YT)=false)(nb:(b==YT)=false)
  (da:s.heap.DictOf knd a ka) (db:s.heap.DictOf knd b kb) (hu:A.units<cLine) (hz:ka.length=kb.length) (he:∀p∈ka,∃y,Z1 kb p.1=some y/\AliP P w A.in1 s p.2 y):RcP P w A s (.ref a) (.ref b):=by
 intro E Q q;refine Vs (op:=.Eq) da.typeIs db.typeIs HJ (Z7 HJ da.typeIs PySem.F.entry_dict_eq ?_ (PySem.F.args_dict_eq_2 _ _)) hu;show X3 _ _ (C9 "__eq__" ⟨[.ref a,.ref b],[]⟩>>= _) _ _ s;refine X1 ?_;unfold C9;refine X1 (By da.typeIs (X8 (X1 (Uy (T:="dict") db.typeIs HD ?_))));rw[if_neg (by decide)]
 refine X1 (X8 (X1 (X8 (X1 (J7 na nb da db hz he ?_)))));exact X8 ⟨_,rfl,(λz=>nomatch z),q⟩
theorem _nj{K:Type} [DecidableEq K] {knd:KeyKind P w K}{ka kb:List (K×X0)}(na:(a==YT)=false)(nb:(b==YT)=false)
  (da:s.heap.DictOf knd a ka) (db:s.heap.DictOf knd b kb) (hu:A.units<cLine) (hz:ka.length=kb.length) (he:∀p∈ka,∃y,Z1 kb p.1=some y/\AliP P w A.in1 s p.2 y):RnP P w A s (.ref a) (.ref b):=by
 intro E Q q;refine Vs (op:=.NotEq) da.typeIs db.typeIs HK (Z7 HK da.typeIs PySem.F.entry_dict_ne ?_ (PySem.F.args_dict_ne_2 _ _)) hu;show X3 _ _ (C9 "__ne__" ⟨[.ref a,.ref b],[]⟩>>= _) _ _ s;refine X1 ?_;unfold C9;refine X1 (By da.typeIs (X8 (X1 (Uy (T:="dict") db.typeIs HD ?_))));rw[if_neg (by decide)]
 refine X1 (X8 (X1 (X8 (X1 (J7 na nb da db hz he ?_)))));exact X8 ⟨_,rfl,(λz=>nomatch z),q⟩
end
section
variable{X:Cx}
end
end L2
namespace L2
open PySem PySem.Spec PyProof.Rows
theorem _ao:fillsNumberSlot (.type "tuple") "mul"=pure false:=
 PySem.fillsNumberSlot_seq (id:="tuple.__mul__") (r:=some (.builtin "tuple.__rmul__")) Cd.lookup (by decide+kernel) HA.lookup (by decide+kernel)
theorem _eh:seqRepeat? (.type "tuple")=pure (some (.builtin "tuple.__mul__")):=by
 unfold seqRepeat?;rw[PySem.seqSlot_of (T:="tuple") (name:="__mul__") (id:="tuple.__mul__") Cd.lookup (by decide+kernel),PySem.seqSlot_of (T:="tuple") (name:="__rmul__") (id:="tuple.__rmul__") HA.lookup (by decide+kernel)]
 rfl
theorem _eJ(a:Int)(t:Tok)(l:Addr)(items:Array X0)(n:Nat)(dd:Option Addr)(sl:Array (Option X0)):
  Meets (Builtin.«int.__rmul__» ⟨[.int a t,.ref l],[]⟩) (fun _ R s=>s.heap.get? l=some {cls:=.type "tuple",dict:=dd,data:=.seq items n,slots:=sl}/\R (.ok (.ret Value.notImplemented)) s):=
 .of_wp λprog w A R s h=>by obtain⟨hp,g,d,tk,os⟩:=s;obtain⟨hl,h⟩:=h;wp_walk;exact⟨_,rfl,h⟩
theorem _k4(l:Addr)(items:Array X0)(n:Nat)(dd:Option Addr)(sl:Array (Option X0))(u:Tok):
  Meets (Builtin.«tuple.__mul__» ⟨[.ref l,.int 1 u],[]⟩) (fun _ R s=>s.heap.get? l=some {cls:=.type "tuple",dict:=dd,data:=.seq items n,slots:=sl}/\R (.ok (.ret (Xn l))) s):=
 .of_wp λprog w A R s h=>by
  obtain⟨hp,g,d,tk,os⟩:=s;obtain⟨hl,h⟩:=h;have f1:=Hs;have c:(items.isEmpty||(1:Int)==1)=true:=by simp
  wp_walk using C6 hl;exact⟨_,rfl,h⟩
theorem _k3(l:Addr)(items:Array X0)(n:Nat)(dd:Option Addr)(sl:Array (Option X0))(k:Int)(u:Tok)(h2:2≤k)(h0:items.size≠0)(hz:items.size*k.toNat≤1000000):
  Meets (Builtin.«tuple.__mul__» ⟨[.ref l,.int k u],[]⟩) (fun _ R s=>s.heap.get? l=some {cls:=.type "tuple",dict:=dd,data:=.seq items n,slots:=sl}/\
   R (.ok (.ret (Xn s.heap.objs.size))) {s with heap:=s.heap.push {cls:=XD "tuple",data:=YW (VF (fun x1 x2=>x1++x2) #[] (Xi k.toNat items))},toks:=s.toks}):=
 .of_wp λprog w A R s h=>by
  obtain⟨hp,g,d,tk,os⟩:=s;obtain⟨hl,h⟩:=h;have f1:=Hs;have hk:k≤1000000:=by
   have:1*k.toNat≤items.size*k.toNat:=Nat.mul_le_mul_right _ (by lia)
   lia
  have zz:(items.size:Int)*k≤1000000:=by
   have e:(items.size:Int)*k=((items.size*k.toNat:Nat):Int):=by rw[Int.natCast_mul,UF (by lia)]
   rw[e];lia
  have c0:¬(decide (k< -(2^63))||decide (k ≥ 2^63))=true:=by simp;lia
  have c1:¬(items.isEmpty||k==1)=true:=by
   simp;exact⟨λz=>h0 (by rw[z];rfl),by lia⟩
  have c2:¬(decide (k≤0)||items.isEmpty)=true:=by
   simp;exact⟨by lia,λz=>h0 (by rw[z];rfl)⟩
  have c3:¬((items.size:Int)*k>(2^63 - 1)/8):=by lia
  have c4:¬(Hn ((items.size:Int)*k)=true):=by
   unfold Hn;have hs:sizeLine=16777216:=by decide
   rw[hs];simp;lia
  have hsz:(VF (λx1 x2=>x1++x2) #[] (Xi k.toNat items)).size≤sizeLine:=by
   have hs:sizeLine=16777216:=by decide
   rw[PySem.AutoListH.size_joined,hs,BZ];simp;lia
  wp_walk using C6 hl
  refine wpAny_ite_false (decide_eq_false c0) ?_
  wp_walk using C6 hl
  refine wpAny_ite_false (decide_eq_false c3) ?_
  wp_walk using C6 hl
  exact⟨_,rfl,h⟩
section
variable{X:Cx}
theorem _n5:OpR X (Yi .Mult) (λx y H Q=>∃a k xs,x=.ref a/\y=.int k/\SqT X.K H a xs/\xs≠ []/\1≤k/\xs.length*k.toNat≤1000000/\(k=1->Q (.ref a) H)/\
  (k≠1->∀p,H p=none->Q (.ref p) (upd H p (.tup (Xi k.toNat xs).flatten)))):=by
 intro pins s σ H x y v u Q I rx ry h;obtain⟨a,k,xs,rfl,rfl,ha,h0,h1,hz,q1,q2⟩:=h;obtain rfl:v=Xn a:=rx;obtain⟨tk,rfl⟩:=ry;obtain⟨its,r,p1,_⟩:=I.tuple ha;obtain⟨⟨cls,dd,data,sl⟩,ho,hc,n,hd⟩:=id p1;simp only at hc hd;subst hc hd;have hl:its.toArray.size=xs.length:=by rw[XQ,<- r.length]
 refine wpAny_binaryOp_repeat_ref (T:="tuple") (U:="int") (by decide) ⟨_,ho,rfl⟩ (fun s'=>typeIs_int s' k tk) _ao PySem.F.fills_int_mul HE _eh PySem.F.slot_int_index.lookup
  (UU HE (typeIs_int s k tk) PySem.F.entry_int_rmul (PySem.F.args_int_rmul_2 _ _) (_eJ k tk a its.toArray n dd sl) ⟨ho,rfl,⟨_,ho,rfl⟩,?_⟩)
 by_cases e1:k=1
 ·subst e1;exact UU Cd ⟨_,ho,rfl⟩ HB (Hy _ _) (_k4 a its.toArray n dd sl tk) ⟨ho,.ref a,H,I,rfl,q1 rfl⟩
 ·refine UU Cd ⟨_,ho,rfl⟩ HB (Hy _ _) (_k3 a its.toArray n dd sl k tk (by lia) (by rw[hl];exact λz=>h0 (BC.mp z)) (by rw[hl];exact hz)) ⟨ho,?_⟩
  have f0:VF (λx1 x2=>x1++x2) #[] (Xi k.toNat its.toArray)=(Xi k.toNat its).flatten.toArray:=by
   have:=Ef its k.toNat [];rw[Y8]at this;exact this
  rw[f0];refine⟨.ref s.heap.objs.size,_,I.laid (t':=s.toks) (o:=.tup (Xi k.toNat xs).flatten) (λb ob q=>Xp _ q) (Xg _) ?_,rfl,q2 e1 _ (I.hok.fresh (Xg _))⟩;refine⟨?_,_,r.rep k.toNat,IsTup.new _ _,_,XM _ rfl,rfl⟩;have hs:sizeLine=16777216:=by decide
  rw[IR,hs,BZ];lia
end
section
variable{X:Cx}{pins:List (Addr×Obj)}{σ:St}{H:Hp}{s:X2}
theorem WP(e:H a=some u)(mu:Mut (some u))(q:H b=some v)(nv:¬Mut (some v)):b≠a:=by
 intro z;subst z;rw[e]at q;cases q;exact nv mu
theorem Inv.freeze(I:Inv X pins σ H s){a:Addr}{u:HO}{o:Obj}(e:H a=some u)(mu:Mut (some u))(ho:s.heap.get? a=some o):Inv X pins σ (upd H a (.frz o u)) s:=by
 have nn:∀b,H b=none->b≠a:=λb n z=>by subst z;rw[e]at n;cases n
 refine I.step (h':=s.heap) (g':=s.gens) (t':=s.toks) (d':=s.drawn) (ch:=[]) (λ_ z=>nomatch z) (λb o _ _ _ q _=>q) (λb o _ _ _ q _=>⟨o.slots,q⟩) (λb o _ _ n=>by rw[XG (nn b n)];exact n) (λb o _ q=>⟨o,q⟩)
  (λb xs q=>by rw[XG (WP e mu q λz=>z)];exact q) (λb o u q=>by rw[XG (WP e mu q λz=>z)];exact q) (λb ps q=>⟨#[],by rw[XG (WP e mu q λz=>z),q];simp⟩) (λm h=>h) (λb v q=>?_) I.bare
 have st:∀{c:Addr} {y:HO},ObjOk X.prog X.w H s.heap c y->ObjOk X.prog X.w (upd H a (.frz o u)) s.heap c y:=λx=>
  x.stay (λc v _ q=>q) (λc q=>by rw[XG (WP e mu q λz=>z)];exact q) λc xs q=>by rw[XG (WP e mu q λz=>z)];exact q
 by_cases hb:b=a
 ·subst hb;rw[_c]at q;cases q;exact⟨ho,st (I.hok b u e)⟩
 ·rw[XG hb]at q;exact st (I.hok b v q)
def Thw(X:Cx)(H H':Hp):Prop:=H'=H\/∃a o u,H a=some (.frz o u)/\Mut (some u)/\(∀o' u',X.H₀ a≠some (.frz o' u'))/\H'=upd H a u
theorem Inv.thaw(I:Inv X pins σ H s)(t:Thw X H H'):Inv X pins σ H' s:=by
 rcases t with rfl|⟨a,o,u,e,mu,nf,rfl⟩
 ·exact I
 have ne:∀{b:Addr} {y:HO},H b=some y->y≠.frz o u->b≠a:=fun{b y} q n z=>by subst z;rw[e]at q;cases q;exact n rfl
 have nn:∀b,H b=none->b≠a:=λb n z=>by subst z;rw[e]at n;cases n
 have st:∀{c:Addr} {y:HO},ObjOk X.prog X.w H s.heap c y->ObjOk X.prog X.w (upd H a u) s.heap c y:=λx=>
  x.stay (λc v _ q=>q) (λc q=>by rw[XG (ne q (λz=>by cases z))];exact q) λc xs q=>by rw[XG (ne q (λz=>by cases z))];exact q
 refine⟨I.ok,I.os,I.bare,⟨I.base.keep,I.base.slot,λb ob q n hx=>?_,I.base.there,λb xs q=>?_,λb o' u' q=>?_,λb ps q=>?_⟩,I.loc,I.cell,?_,λx c q=>?_,λp hp=>?_,λb v q=>?_,I.len⟩
 ·have:=I.base.free b ob q n hx;rw[XG (nn b this)];exact this
 ·have:=I.base.tups b xs q;rw[XG (ne this (λz=>by cases z))];exact this
 ·rw[XG (λz=>by subst z;exact nf o' u' q)]
  exact I.base.frzs b o' u' q
 ·obtain⟨m,h⟩:=I.base.tbls b ps q;exact⟨m,by rw[XG (ne h (λz=>by cases z))];exact h⟩
 ·rw[XG (nn _ I.free)];exact I.free
 ·rw[XG (nn _ (I.freeC x c q))];exact I.freeC x c q
 ·obtain⟨h1,h2,h3⟩:=I.pin p hp;exact⟨h1,by rw[XG (nn _ h2)];exact h2,h3⟩
 ·by_cases hb:b=a
  ·subst hb;rw[_c]at q;cases q;exact st (I.hok b _ e).2
  ·rw[XG hb]at q;exact st (I.hok b v q)
theorem Inv.nofrz(I:Inv X pins σ H s)(e:H a=some u)(mu:Mut (some u)):∀o' u',X.H₀ a≠some (.frz o' u'):=λo' u' z=>by
 have:=I.base.frzs a o' u' z;rw[e]at this;cases this;exact mu
def thwD(X:Cx)(D:Ends):Ends where
 nx:=λσ H=>∃H',Thw X H H'/\D.nx σ H'
 rt:=λv H=>∃H',Thw X H H'/\D.rt v H'
 bk:=λσ H=>∃H',Thw X H H'/\D.bk σ H'
 ct:=λσ H=>∃H',Thw X H H'/\D.ct σ H'
theorem PS.thaw{st:Stmt}{t:TS}(h:PS X st t):PS X st (λD σ H=>t (thwD X D) σ H):=by
 intro pins s σ H D I q;refine thn (h pins s σ H _ I q) λf s' hf=>?_;cases f with
 |next=>obtain⟨σ',H',I',H2,t2,d⟩:=hf;exact⟨σ',H2,I'.thaw t2,d⟩
 |brk=>obtain⟨σ',H',I',H2,t2,d⟩:=hf;exact⟨σ',H2,I'.thaw t2,d⟩
 |cont=>obtain⟨σ',H',I',H2,t2,d⟩:=hf;exact⟨σ',H2,I'.thaw t2,d⟩
 |ret u=>obtain⟨v,σ',H',I',r,H2,t2,d⟩:=hf;exact⟨v,σ',H2,I'.thaw t2,r,d⟩
theorem PE.thaw{e:Expr}{t:TE}(h:PE X e t):PE X e (λσ H Q=>t σ H λv H'=>∃H2,Thw X H' H2/\Q v H2):=by
 intro pins s σ H Q I q;refine thn (h pins s σ H _ I q) λu s' ⟨v,H',I',r,H2,t2,d⟩=>⟨v,H2,I'.thaw t2,r,d⟩
def Itd(a:Addr)(o:Obj):It where
 go:=λi H=>∃kvs,H a=some (.frz o (.dK kvs))/\i<kvs.length
 yld:=λi H x H'=>H'=H/\∀kvs,H a=some (.frz o (.dK kvs))->∃k v,kvs[i]?=some (k,v)/\x=kV k
 stop:=λi H=>∃kvs,H a=some (.frz o (.dK kvs))/\kvs.length≤i
theorem J8(ok:HOk P w H h)(e:H a=some (.frz o (.dK kvs)))(hd:o.data=.dict es ep):
  ∃vs,KV kvs vs/\h.DictAt (Yt P w) a vs ep/\vs.length=es.size:=by
 obtain⟨ho,z,_,vs,rel,o',es',ep',ho',r1,r2,r3⟩:=ok a _ e;rw[ho]at ho';cases ho';rw[hd]at r2;injection r2 with e1 e2;subst e1 e2;exact⟨vs,rel,⟨o,es,ho,r1,hd,r3⟩,by rw[<- r3.2.1.length];simp⟩
theorem _pV(r:KV kvs vs):kvs.length=vs.length:=by
 induction r with
 |nil=>rfl
 |cons _ _ ih=>rw[Yr,Yr,ih]
theorem _pW(r:KV kvs vs):∀{i:Nat} {k:Key} {v:V},kvs[i]?=some (k,v)->∃u,vs[i]?=some (k,u)/\RelV v u:=by
 induction r with
 |nil=>intro i k v h;cases h
 | @cons p p' _ _ q _ ih=>
  intro i k v h;cases i with
  |zero=>
   cases h;obtain⟨k2,x2⟩:=p';have e1:k=k2:=q.1;subst e1;exact⟨x2,rfl,q.2⟩
  |succ i=>exact ih (i:=i) h
theorem _ny{k:Key}(h:(Yt P w).is k u=true):RelV (kV k) u:=by
 rcases _E h with⟨i,t,rfl,rfl⟩|⟨x,t,rfl,rfl⟩
 ·exact⟨t,rfl⟩
 ·exact⟨t,rfl⟩
theorem _6F(hit:s.heap.IsKeyIter it d i n ep)(h:Q (.ref it) s):
  X3 (X6 P w) A (pyIter (.ref it)) Q E s:=by
 refine wpAny_pyIter_slot hit.typeIs Hw (Z7 Hw hit.typeIs PySem.F.entry_dict_keyiterator_iter ?_ (PySem.F.args_dict_keyiterator_iter_1 _));show X3 _ _ (ret (.ref it)) _ _ s;exact X8 ⟨_,rfl,"dict_keyiterator",_,hit.typeIs,PySem.F.slot_dict_keyiterator_next.lookup,h⟩
theorem _hR{K:X4}(a it:Addr)(o:Obj)(es:Array DictEntry)(ep:Nat)(hd:o.data=.dict es ep):Turn P w K tg (Itd a o) [it] it (λi h=>h.IsKeyIter it a i es.size ep)where
 mem:=by simp
 obj:=λi h st b hb=>by
  have e:b=it:=by simpa using hb
  subst e;obtain⟨o,e,c,d⟩:=st;exact⟨o,e,λv z=>by rw[d]at z;cases z⟩
 keep:=λi h h' st k=>by
  obtain⟨o,e,c,d⟩:=st;exact⟨o,k it (by simp) o e,c,d⟩
 item:=by
  intro X hP hw hK hc i pins s σ H E I hf st hg;subst hP hw hK;obtain⟨kvs,hq,hx⟩:=hg;obtain⟨vs,rel,da,hl⟩:=J8 I.hok hq hd;obtain⟨⟨k,v⟩,hk⟩:∃p,kvs[i]?=some p:=⟨_,Xc hx⟩;obtain⟨u,hu,ru⟩:=_pW rel hk;obtain⟨f0,f1,f2,f3,f4,f5⟩:=hf it (by simp)
  rw[<- hl]at st;refine wpAny_pyNext_dict_item st da hu λkey h' hkey st' sb=>?_;have I1:Inv X pins σ H {s with heap:=h'}:=I.turned (t':=s.toks) (λb o hb e=>(sb.2 b hb).trans e) f0 f1 f3 f4 f5;rw[hl]at st';obtain⟨o',e,c,d⟩:=id st';exact⟨key,rfl,Vb (s:={s with heap:=h'}) e c d (by decide) ⟨kV k,H,I1,_ny hkey,⟨rfl,λkvs' e'=>by rw[hq]at e';cases e';exact⟨k,v,hk,rfl⟩⟩,st',λb hb=>(hf b hb).1⟩⟩
 done:=by
  intro X hP hw hK hc i pins s σ H E I hf st hg;subst hP hw hK;obtain⟨kvs,hq,hx⟩:=hg;obtain⟨vs,rel,da,hl⟩:=J8 I.hok hq hd;obtain⟨f0,f1,f2,f3,f4,f5⟩:=hf it (by simp)
  rw[_pV rel]at hx;rw[<- hl]at st;exact wpAny_pyNext_dict_end (I.ok.hd hc) st da (Dr.mpr hx) λh' eb=>⟨rfl,I.turned (t':=s.toks) (λb o hb e=>eb b o hb e) f0 f1 f3 f4 f5⟩
 self:=λ_ _ _ _ _ st h=>_6F st h
theorem _kt(I:Inv X pins σ H s)(e:H a=some (.dK kvs))(q:∀o,(∀o' u',X.H₀ a≠some (.frz o' u'))->R (Itd a o) (upd H a (.frz o (.dK kvs)))):
  X3 (X6 X.prog X.w) X.A (pyIter (.ref a)) (PIE X pins σ tg R) E s:=by
 obtain⟨z,hm,vs,rel,o,es,ep,ho,r1,r2,r3⟩:=I.hok a _ e;have I1:=I.freeze e trivial ho;have nf:=I.nofrz e trivial;refine wpAny_pyIter_dict hm (⟨o,es,ho,r1,r2,r3⟩:s.heap.DictAt (Yt X.prog X.w) a vs ep) ?_;refine⟨s.heap.objs.size,[s.heap.objs.size],_,_,upd H a (.frz o (.dK kvs)),rfl,I1.kept (t':=s.toks) λb o e=>Xp _ e,_hR a _ o es ep r2,?_,λb hb=>?_,q o nf⟩
 ·have hl:es.size=vs.length:=by rw[<- r3.2.1.length];simp
  rw[hl];exact⟨_,XM _ rfl,rfl,rfl⟩
 ·have e:b=s.heap.objs.size:=by simpa using hb
  subst e;exact I1.fpOk (Xg _) (I1.hok.fresh (Xg _))
end
section
variable{prog:Xv}{w:Xm}{A:XB}{E:X0->X2->Prop}{s:X2}{a₀:Array Keyed}
end
section
variable{X:Cx}
end
structure Mrk (t t':Yv):Prop where
 led:t'.led=t.led
 plain:t.plain=false->t'.plain=false
theorem Mrk.refl(t:Yv):Mrk t t:=⟨rfl,id⟩
theorem Mrk.trans(x:Mrk a b)(y:Mrk b c):Mrk a c:=⟨y.led.trans x.led,λh=>y.plain (x.plain h)⟩
theorem Mrk.standIn(t:Yv)(n:Nat):Mrk t (t.standIn n):=⟨rfl,λ_=>rfl⟩
theorem Mrk.orStandIn(t:Yv)(n:Nat):Mrk t (t.orStandIn n):=by
 unfold SetTable.orStandIn;split
 ·exact .refl t
 ·exact .standIn t n
theorem Mrk.lay(t:Yv)(es:Array (Int×X0))(k:Int)(x:X0):Mrk t (layNew t es k x).2.1:=by
 unfold layNew;split
 ·exact Mrk.trans (b:=(t.put _).1) ⟨rfl,id⟩ (.orStandIn _ _)
 ·exact .standIn t _
theorem Mrk.relaid{t:Yv}(h:t.relaid hs n=some (t',od)):Mrk t t':=by
 unfold SetTable.relaid SetTable.laid at h;cases hl:SetTable.layClean (SetTable.sizeAbove n - 1) hs with
 |none=>rw[hl]at h;simp at h
 |some ow=>
  rw[hl]at h;simp only[Option.bind_eq_bind,Option.bind_some,Option.pure_def,C1,Prod.mk.injEq]at h;obtain⟨rfl,_⟩:=h;exact⟨rfl,id⟩
set_option tactic.hygienic true in
theorem Mrk.relay(t:Yv)(es:Array (Int×X0))(n:Nat):Mrk t (relayAll t es n).2.1:=by
 unfold relayAll;split
 ·rename_i hr
  dsimp only;split
  ·exact .relaid hr
  ·exact .standIn t _
 ·exact .standIn t _
def txt:X0->Str
 |.str x _=>x
 |_=>⟨#[]⟩
def met1(zs:List Str)(x:Str):List Str:=if x∈zs then zs else zs++[x]
def met(f:Nat->Str):Nat->List Str
 |0=>[]
 |i+1=>met1 (met f i) (f i)
set_option tactic.hygienic true in
theorem _hh(h:zs.Nodup)(x:Str):(met1 zs x).Nodup:=by
 unfold met1;split
 ·exact h
 ·rename_i n
  rw[Zi];exact⟨h,by simp,λa ha b hb=>by rw[Y3]at hb;subst hb;exact λe=>n (e▸ha)⟩
theorem J9(f:Nat->Str):∀i,(met f i).Nodup
 |0=>.nil
 |i+1=>_hh (J9 f i) _
set_option tactic.hygienic true in
theorem _kK:y∈met1 zs x↔y∈zs\/y=x:=by
 unfold met1;split
 ·rename_i h
  exact⟨.inl,λz=>z.elim id λe=>e▸h⟩
 ·simp
theorem Ja:∀i,y∈met f i↔∃j,j<i/\f j=y
 |0=>by simp[met]
 |i+1=>by
  unfold met;rw[_kK,Ja i];constructor
  ·rintro(⟨j,hj,e⟩|e)
   ·exact⟨j,by lia,e⟩
   ·exact⟨i,by lia,e.symm⟩
  ·rintro⟨j,hj,e⟩;by_cases z:j=i
   ·subst z;exact .inr e.symm
   ·exact .inl ⟨j,by lia,e⟩
theorem Jb(f:Nat->Str):∀i,(met f i).length≤i
 |0=>Xg _
 |i+1=>by
  have:=Jb f i;unfold met met1;split
  ·lia
  ·rw[Yw];simp;lia
section
variable{prog:Xv}{w:Xm}{A:XB}{E:X0->X2->Prop}{s:X2}
def WSet(prog:Xv)(w:Xm)(o:Obj)(zs:List Str):Prop:=
 o.ExactSet/\∃es ep t,o.data=.set es ep t/\ElemsOf (strKind prog w) es.toList/\(es.toList.map λe=>txt e.2).Perm zs/\es.size<scanBound/\t.fits es.size=true
  /\t.led=(!w.params.followText "set-order")/\(zs≠ []->t.plain=false)
theorem WSet.fresh:WSet prog w {cls:=.type "set",dict:=none,data:=.set #[] 0 (.fresh 0 0 (!w.params.followText "set-order"))} []:=
 ⟨⟨rfl,rfl,rfl⟩,#[],0,_,rfl,λe he=>by simp at he,by simp,by decide,by rfl,rfl,λh=>absurd rfl h⟩
theorem isT{k:Str}:(strKind prog w).is k v=true↔∃t,v=.str k t:=by
 constructor
 ·exact λh=>Value.isStrOf_shape h
 ·rintro⟨t,rfl⟩;exact strKind_is prog w k t
theorem WSet.mem{es:Array (Int×X0)}{zs:List Str}(he:ElemsOf (strKind prog w) es.toList)(hp:(es.toList.map λe=>txt e.2).Perm zs)(k:Str):
  k∈zs↔∃e∈es.toList,(strKind prog w).is k e.2=true:=by
 rw[<- hp.mem_iff,XS];constructor
 ·rintro⟨e,hm,q⟩;refine⟨e,hm,isT.mpr ?_⟩;obtain⟨⟨k',hk,_⟩,_⟩:=he e hm;obtain⟨t,ht⟩:=isT.mp hk;rw[ht]at q ⊢;exact⟨t,by rw[<- q];rfl⟩
 ·rintro⟨e,hm,q⟩;obtain⟨t,ht⟩:=isT.mp q;exact⟨e,hm,by rw[ht];rfl⟩
theorem Jc{h:Heap}{a:Addr}{o:Obj}{es:Array (Int×X0)}{ep:Nat}{t:Yv}(ho:h.get? a=some o)(hd:o.data=.set es ep t)(es':Array (Int×X0))(t':Yv):
  (h.update a (Obj.putSet es' t')).get? a=some {o with data:=.set es' (ep+1) t'}:=by
 have z:=UZ (Obj.putSet es' t') ho (by rw[putSet_of es' t' hd];rfl)
 rwa [putSet_of es' t' hd]at z
theorem Jd{g:Bool->Sem Unit}(hg:∀(b:Bool) (s₁:X2) (Q':Unit->X2->Prop),Q' () s₁->X3 (X6 prog w) A (g b) Q' E s₁)
  {a:Addr} {o:Obj} {es:Array (Int×X0)} {ep:Nat} {t:Yv} (ho:s.heap.get? a=some o) (hex:o.ExactSet) (hd:o.data=.set es ep t)
  {es1:Array (Int×X0)} {t2:Yv} {zs:List Str} (hel:ElemsOf (strKind prog w) es1.toList) (hp:(es1.toList.map λe=>txt e.2).Perm zs) (hb:es1.size<scanBound)
  (hf:t2.fits es1.size=true) (hled:t2.led=(!w.params.followText "set-order")) (hpl:t2.plain=false) {was:Bool} {R:Option Bool->X2->Prop}
  (h:∀h' o',U5 a s.heap h'->h'.get? a=some o'->WSet prog w o' zs->R (some true) {s with heap:=h'}):
  X3 (X6 prog w) A (do
    storeSet a es1 t2
    if(!was&&t2.tooFull)=true then do
      g (relayAll t2 es1 (V9 es1.size)).2.2
      storeSet a (relayAll t2 es1 (V9 es1.size)).1 (relayAll t2 es1 (V9 es1.size)).2.1
      pure (some true)
     else pure (some true)) R E s:=by
 refine X1 (wpAny_storeSet_of ho hd ?_ (fits_of_scanBound hb));have ho1:=Jc ho hd es1 t2;split
 ·have hp2:=relayAll_perm t2 es1 (V9 es1.size);have hf2:=relayAll_fits t2 es1 (V9 es1.size);have hm:=Mrk.relay t2 es1 (V9 es1.size);generalize relayAll t2 es1 (V9 es1.size)=Rl at hp2 hf2 hm ⊢;obtain⟨es2,t3,gv⟩:=Rl;dsimp only at hp2 hf2 hm ⊢;have hz:es2.size=es1.size:=by rw[<- XY,hp2.length_eq,XY]
  refine X1 (hg _ _ _ ?_);refine X1 (wpAny_storeSet_of ho1 rfl ?_ (fits_of_scanBound (by lia)))
  exact X8 (h _ _ ((U8 _ a _).trans (U8 _ a _)) (Jc ho1 rfl es2 t3)
   ⟨hex,es2,_,t3,rfl,hel.perm hp2,(hp2.map _).trans hp,by lia,hf2,hm.led.trans hled,λ_=>hm.plain hpl⟩)
 ·exact X8 (h _ _ (U8 _ a _) ho1 ⟨hex,es1,_,t2,rfl,hel,hp,hb,hf,hled,λ_=>hpl⟩)
set_option tactic.hygienic true in
theorem _k6{a:Addr}{o:Obj}{zs:List Str}{x:Str}{tk:Tok}{Q:Bool->X2->Prop}(ho:s.heap.get? a=some o)(hS:WSet prog w o zs)(hroom:zs.length+1<scanBound)
  (h:∀b h' o',U5 a s.heap h'->h'.get? a=some o'->WSet prog w o' (met1 zs x)->Q b {s with heap:=h'}):
  X3 (X6 prog w) A (setAddHashed a (.str x tk) ((strKind prog w).hash x)) Q E s:=by
 obtain⟨hex,es,ep,t,hd,hel,hp,hb,hf,hled,hpl⟩:=id hS;have hkey:(strKind prog w).is x (.str x tk)=true:=strKind_is prog w x tk;have hlen:es.size=zs.length:=by rw[<- hp.length_eq,Xa,XY]
 unfold setAddHashed setAddHashedIn;refine YH (X1 (Wo ho hd hf ?_));dsimp only;rw[byScan_of (x:=.str x tk) rfl hb hel];simp only[↓reduceIte];unfold setAddByScan;refine X1 (X1 (Uz (X1 (wpAny_setScan_of hkey ho hd hf hel ?_))));have hmem:=WSet.mem hel hp x;cases hr:List.findIdx? (λe=>(strKind prog w).is x e.2) es.toList with
 |some j=>
  dsimp only;obtain⟨hj,hpj,_⟩:=List.findIdx?_eq_some_iff_getElem.mp hr;have hx:x∈zs:=hmem.mpr ⟨_,XV hj,hpj⟩;refine X8 (X8 ?_);have:=h false s.heap o (Heap.SameBut.refl a s.heap) ho (by unfold met1;rw[if_pos hx];exact hS)
  cases s;exact this
 |none=>
  dsimp only;have hx:x∉zs:=λz=>by
   obtain⟨e,he,q⟩:=hmem.mp z;have:=List.findIdx?_eq_none_iff.mp hr e he;rw[q]at this;exact Bool.noConfusion this
  have hz:met1 zs x=zs++[x]:=by unfold met1;rw[if_neg hx]
  have hl:=layNew_perm t es ((strKind prog w).hash x) (.str x tk);have hlf:=layNew_fits t es ((strKind prog w).hash x) (.str x tk);have hm:=Mrk.lay t es ((strKind prog w).hash x) (.str x tk);generalize layNew t es ((strKind prog w).hash x) (.str x tk)=L at hl hlf hm ⊢;obtain⟨es1,t1,was,gave⟩:=L;dsimp only at hl hlf hm ⊢;rw[Array.toList_push]at hl;have hel1:ElemsOf (strKind prog w) es1.toList:=(hel.push hkey rfl).perm hl;have hp1:(es1.toList.map λe=>txt e.2).Perm (met1 zs x):=by
   rw[hz];refine(hl.map _).trans ?_;rw[Y1];exact hp.append (.refl _)
  have hb1:es1.size<scanBound:=by rw[<- XY,hl.length_eq,Yw,XY];simp;lia
  have gw:∀(b:Bool) (s₁:X2) (Q':Unit->X2->Prop),Q' () s₁->X3 (X6 prog w) A (match b with|true=>rule "set.scan.the-table-gave-way"|false=>pure ()) Q' E s₁:=
   λb s₁ Q' hq=>by cases b<;>first|exact X8 hq|exact Uz hq
  refine X1 (gw _ _ _ ?_);have fin:∀h' o',U5 a s.heap h'->h'.get? a=some o'->WSet prog w o' (met1 zs x)->Q true {s with heap:=h'}:=λh' o' a1 a2 a3=>h true h' o' a1 a2 a3;split
  ·rw[hashByValue_scannable 8 (x:=.str x tk) rfl];refine X1 (X8 ?_);refine Jd gw ho hex hd hel1 hp1 hb1 (t2:={t1 with plain:=false}) (SetTable.fits_plain_off hlf) (hm.led.trans hled) rfl ?_;intro h' o' a1 a2 a3;exact X8 (fin h' o' a1 a2 a3)
  ·rename_i np
   refine X1 (X8 ?_);simp only[↓reduceIte];refine Jd gw ho hex hd hel1 hp1 hb1 hlf (hm.led.trans hled) (by simpa using np) ?_
   intro h' o' a1 a2 a3;exact X8 (fin h' o' a1 a2 a3)
theorem _hT{St:Nat->X2->Prop}
  (W:WalksS prog w A.in1 I fp wr G n P St) (S:Addr) (hSf:S∉fp) (f:Nat->Str) (hval:∀i v,P i v->∃t,v=.str (f i) t) (hb:n+1<scanBound):
  ∀(k i:Nat) (s:X2) (o:Obj),n - i=k->i≤n->St i s->s.heap.get? S=some o->WSet prog w o (met f i)->
   (∀s' o',Moved (S::wr) G s s'->s'.heap.get? S=some o'->WSet prog w o' (met f n)->R (.ok (.ret .none)) s')->
   YU (X6 prog w) A (.builtin "set.update.loop" ⟨[.ref S,.ref I],[]⟩) R s:=by
 have hSw:S∉wr:=λh=>hSf (W.sub _ h);have hsub:∀b∈wr,b∈S::wr:=λb hb=>XR _ hb;intro k
 induction k with
 |zero=>
  intro i s o hk hi hst ho hS hR;have hin:i=n:=by lia
  subst hin;refine Z8 F.entry_set_update_loop ?_;rw[Zo F.plain_set_update_loop _];show X3 _ A.in1 (pyNext (.ref I)>>= _) _ _ s;refine X1 (W.done s _ _ hst λs' hm=>?_);exact X8 (hR s' o (hm.mono hsub) (hm.heap S _ hSw ho) hS)
 |succ k ih=>
  intro i s o hk hi hst ho hS hR;have hlt:i<n:=by lia
  refine Z8 F.entry_set_update_loop ?_;rw[Zo F.plain_set_update_loop _];show X3 _ A.in1 (pyNext (.ref I)>>= _) _ _ s;refine X1 (W.item i s _ _ hlt hst λv s' hP hst' hm=>?_);obtain⟨t,rfl⟩:=hval i v hP;have ho':=hm.heap S _ hSw ho;show X3 _ A.in1 (Z4 [XE (f i) t] (setAdd S (.str (f i) t))>>= _) _ _ s';refine X1 (YH ?_);unfold setAdd;refine YH (X1 ((strKind prog w).pyHash (k:=f i) (strKind_is prog w _ _) ?_));refine _k6 (s:={s' with toks:=s'.toks+1}) ho' hS (by have:=Jb f i;lia) λb h' o' hsb ho2 hS2=>?_
  refine X8 ⟨Zh F.plain_set_update_loop _,ih (i+1) _ o' (by lia) hlt (W.frame _ s' _ _ hst' (UE _) λb hb o e=>?_) ho2 hS2 λs'' o'' hm'' ho'' hS''=>?_⟩
  ·rw[hsb.2 b (λz:b=S=>hSf (by rw[<- z];exact hb))];exact e
  ·refine hR s'' o'' (Moved.trans W.gtrans ((hm.mono hsub).then_heap (UE _) λb o hb e=>?_) hm'') ho'' hS'';rw[hsb.2 b (λz:b=S=>hb (by rw[z];exact Ye))];exact e
noncomputable def ZJ(w:Xm):Obj:={cls:=.type "set",dict:=none,data:=.set #[] 0 (.fresh 0 0 (!w.params.followText "set-order"))}
theorem _k5(a:X0)(h:Q₁ (.ref s.heap.objs.size) {s with heap:=s.heap.push (ZJ w)}):
  YU (X6 prog w) A (.call (.builtin "set.__new__") ⟨[.type "set",a],[]⟩) (wants Q₁ E) s:=by
 refine codeAny_of_tree ?_;show X3 _ A.in1 (do checkBuiltinCall "set.__new__" ⟨[.type "set",a],[]⟩;again (.builtin "set.__new__" ⟨[.type "set",a],[]⟩)) _ _ s
 refine X1 (wpAny_of_eq (F.newCall_set_1 a) (X8 ⟨Zh F.plain_set_new _,Z8 F.entry_set_new ?_⟩));rw[Zo F.plain_set_new _];unfold Builtin.«set.__new__» Builtin.Frozenset.newClass;have hsub:=sub_set_self;obtain⟨hp,g,d,tk,os⟩:=s;dsimp only
 wp_walk
 refine Wp (X8 ?_);dsimp only;simp only[newObj];refine X1 (wpAny_alloc (X8 ?_));exact X8 h
theorem _jz{items:Array X0}
  (hh:A.handled=none) (hl:s.heap.IsList l items) (hi:∀(i:Nat) (v:X0),items[i]?=some v->∃t,v=XE (f i) t) (hb:items.size+1<scanBound)
  (h:∀(h':Heap) (tk:Nat) (o:Obj),h'.get? s.heap.objs.size=some o->WSet prog w o (met f items.size)->
   (∀b o,b<s.heap.objs.size->s.heap.get? b=some o->h'.get? b=some o)->Q (.ref s.heap.objs.size) {s with heap:=h',toks:=tk}):
  X3 (X6 prog w) A (call (.type "set") [.ref l]) Q E s:=by
 obtain⟨c,tl,hmro⟩:=UH.mro;have hmade:=UH.made;have hsub:=UH.sub;refine wpAny_call (codeAny_of_tree ?_);show X3 _ _ (callAny (.type "set") _) _ _ _;refine X8 ⟨Code.quiet_builtin _ (by decide+kernel),Z8 F.entry_type_call ?_⟩
 rw[Around.under_plain (weight_type_call_type "set" [.ref l] []) rfl];have h1:=UH.notType;have h2:=UH.canCreate;have hct:=F.typeCall_set_1 (.ref l)
 repeat (any_goals (first|assumption|wp_step))
 refine Vq (_k5 (.ref l) (E:=E) (Q₁:=λobj s₁=>obj=.ref s.heap.objs.size/\s₁={s with heap:=s.heap.push (ZJ w)}) ⟨rfl,rfl⟩) λr s₁ hr=>?_;cases r with
 |error e=>exact hr
 |ok fl=>
  cases fl with
  |ret obj=>
   obtain⟨rfl,rfl⟩:=hr;have hS:(s.heap.push (ZJ w)).get? s.heap.objs.size=some (ZJ w):=XM _ rfl;have hT:WF {s with heap:=s.heap.push (ZJ w)} (.ref s.heap.objs.size) "set":=⟨_,hS,rfl⟩;have hli:=UH.init.lookup;have hbi:=UH.init.bind (.ref s.heap.objs.size)
   repeat (any_goals (first|assumption|wp_step))
   refine Vq (Wn (R:=wants (λr s₂=>r=.none/\∃h' tk o,s₂={s with heap:=h',toks:=tk}/\
     h'.get? s.heap.objs.size=some o/\WSet prog w o (met f items.size)/\
     (∀b o,b<s.heap.objs.size->s.heap.get? b=some o->h'.get? b=some o)) E) UH.init.plain F.entry_set_init (check_set_init_1 hT ?_)) λr₂ s₂ hr₂=>?_
   ·obtain⟨ol,hol,hcl,nl,hdl⟩:=hl;obtain⟨ocls,odict,odata,oslots⟩:=ol;simp only at hcl hdl;subst hcl;subst hdl;have hol':(s.heap.push (ZJ w)).get? l=some {cls:=.type "list",dict:=odict,data:=.seq items nl,slots:=oslots}:=Xp _ hol;have hsls:=F.sub_list_set;have hslf:=F.sub_list_frozenset;have hne:(XD "list"==XD "dict")=false:=by decide
    have hl1:(s.heap.push (ZJ w)).IsList l items:=⟨_,hol',rfl,nl,rfl⟩;unfold Builtin.«set.__init__» noKeywords Builtin.Frozenset.updateFrom;generalize hPI:pyIter=PI
    wp_walk
    subst hPI;refine Bz hl1 ?_;refine X1 (wpAny_runValue ?_);have hlS:l<s.heap.objs.size:=Xu hol;have hneI:l≠(s.heap.push (ZJ w)).objs.size:=by
     rw[Zm];exact XC (V0 hlS)
    have hSf:s.heap.objs.size∉ [(s.heap.push (ZJ w)).objs.size,l]:=by
     rw[Zm];simp only[Xl,XL,or_false,not_or];exact⟨XC (BX _),V3 hlS⟩
    refine _hT ((Walks.list (A:=A.in1.in1.in1) (by simp[hh]) _ l hneI items).toS) s.heap.objs.size
     hSf f hi hb (items.size - 0) 0 _ (ZJ w) (by lia) (YK _)
     ⟨⟨_,XM _ rfl,rfl,rfl⟩,(hl1.push _)⟩ (Xp _ hS) WSet.fresh ?_
    intro s' o' hm ho' hS';obtain⟨h',g',d',tk',os'⟩:=s';have eg:g'=s.gens:=hm.gens;have ed:d'=s.drawn:=hm.drawn;have eo:os'=s.os:=hm.os;subst eg;subst ed;subst eo;refine X8 (X8 ⟨rfl,h',tk',o',rfl,ho',hS',λb o hb e=>?_⟩);refine hm.heap b o ?_ (Xp _ (Xp _ e));simp only[Xl,XL,or_false,not_or];exact⟨XC hb,by rw[Zm];exact XC (V0 hb)⟩
   ·cases r₂ with
    |error e=>exact hr₂
    |ok fl₂=>
     cases fl₂ with
     |ret r=>
      obtain⟨rfl,h',tk,o',rfl,ho',hS',hk'⟩:=hr₂
      repeat (any_goals (first|assumption|wp_step))
      exact h _ _ _ ho' hS' hk'
     |_=>exact hr₂.elim
  |_=>exact hr.elim
end
theorem slot_setiter_next:Slot "set_iterator" "__next__" "set_iterator.__next__":=
 .of (owner:="set_iterator") (n:="__next__") (by rw[Vt,Vu];kernel_rfl) (by decide+kernel) (by decide+kernel) (by decide+kernel)
  (by first|exact .inl (by decide+kernel)|exact .inr (by decide+kernel)) (by rw[isSubtype_type];kernel_rfl)
theorem Je:Slot "set_iterator" "__iter__" "set_iterator.__iter__":=
 .of (owner:="set_iterator") (n:="__iter__") (by rw[Vt,Vu];kernel_rfl) (by decide+kernel) (by decide+kernel) (by decide+kernel)
  (by first|exact .inl (by decide+kernel)|exact .inr (by decide+kernel)) (by rw[isSubtype_type];kernel_rfl)
theorem Jf:entryFor table "set_iterator.__next__"=some Builtin.«set_iterator.__next__»:=entryFor_of_fast (by kernel_rfl)
theorem _8H:entryFor table "set_iterator.__iter__"=some Builtin.«dict_keyiterator.__iter__»:=
 entryFor_alias (id':="dict_keyiterator.__iter__") (by kernel_rfl) rfl (by decide+kernel) (by kernel_rfl)
theorem _ci:entryFor table "set.__iter__"=some Builtin.«frozenset.__iter__»:=
 entryFor_alias (id':="frozenset.__iter__") (by kernel_rfl) rfl (by decide+kernel) (by kernel_rfl)
theorem Jg(a:X0):argsOk "set_iterator.__next__" ⟨[a],[]⟩:=by unfold argsOk;kernel_rfl
theorem _9i(a:X0):argsOk "set_iterator.__iter__" ⟨[a],[]⟩:=by unfold argsOk;kernel_rfl
theorem ers{α:Type}:∀(l:List α) (i:Nat) (h:i<l.length),(l[i]::l.eraseIdx i).Perm l
 |[],_,h=>absurd h (by simp)
 |x::xs,0,_=>.refl _
 |x::xs,i+1,h=>(List.Perm.swap x _ _).trans ((ers xs i (by simpa using h)).cons x)
section
variable{prog:Xv}{w:Xm}{A:XB}{E:X0->X2->Prop}{s:X2}
theorem _ow(hn:n≠0)(h:∀i d,i<n->Q i {s with drawn:=d}):X3 M A (choose src n) Q E s:=λΓ p hΓ=>by
 unfold choose;rw[Sem.wp_choose];exact⟨hn,by rw[Sem.wp_pure];exact h _ _ (VM _ (Nat.pos_of_ne_zero hn))⟩
theorem _mn{α:Type}:∀(n:Nat) (xs:List α) (s:X2) (Q:List α->X2->Prop),xs.length=n->(∀ys d,ys.Perm xs->Q ys {s with drawn:=d})->X3 M A (drawOrder n xs) Q E s:=by
 intro n
 induction n with
 |zero=>
  intro xs s Q hl h;unfold drawOrder;have:xs=[]:=BC.mp hl;subst this;exact X8 (h [] s.drawn (.refl _))
 |succ n ih=>
  intro xs s Q hl h;cases xs with
  |nil=>simp at hl
  |cons x xs=>
   unfold drawOrder;refine X1 (_ow (by simp) λi d hi=>?_)
   rw[Xc hi];dsimp only;refine X1 (ih _ _ _ (by rw[Hb hi];lia) λys d' hp=>X8 ?_)
   have:(((x::xs)[i])::ys).Perm (x::xs):=((List.Perm.cons _ hp).trans (ers _ _ hi));exact h _ d' this
theorem _mT{α:Type}(next:Nat->Nat):∀(n k:Nat) (left:List α) (out:Array α),left.length=n->(pickOrder.go next n k left out).toList.Perm (out.toList++left):=by
 intro n
 induction n with
 |zero=>
  intro k left out hl;have:left=[]:=BC.mp hl;subst this;unfold pickOrder.go;simp
 |succ n ih=>
  intro k left out hl;unfold pickOrder.go;have hi:next k%left.length<left.length:=VM _ (by lia)
  rw[Xc hi];dsimp only;refine(ih _ _ _ (by rw[Hb hi];lia)).trans ?_
  rw[Array.toList_push,Vy];exact(List.Perm.refl _).append (by simpa using ers _ _ hi)
theorem _ir{α:Type}(next:Nat->Nat)(xs:Array α):(pickOrder next xs).toList.Perm xs.toList:=by
 unfold pickOrder
 simpa using _mT next xs.size 0 xs.toList #[] (by simp)
end
section
variable{prog:Xv}{w:Xm}{A:XB}{E:X0->X2->Prop}{s:X2}
def SIt(h:Heap)(it S:Addr)(first:X0)(i n ep:Nat):Prop:=
 ∃o,h.get? it=some o/\o.cls=.type "set_iterator"/\o.data=.fields #[first,.int i 0,.ref S,.int n 0,.int ep 0]
theorem SIt.typeIs(x:SIt s.heap it S first i n ep):s.TypeIs (.ref it) "set_iterator":=let⟨o,ho,hc,_⟩:=x;⟨o,ho,hc⟩
theorem Cv{h:Heap}{it:Addr}{o:Obj}{vs:Array X0}(ho:h.get? it=some o)(hd:o.data=.fields vs)(j:Nat)(v:X0):
  ∃o',(h.update it (DX (·.setIfInBounds j v))).get? it=some o'/\o'.cls=o.cls/\o'.data=.fields (vs.setIfInBounds j v):=
 ⟨_,UZ _ ho (DV (Cg hd _)),DW ..,Cg hd _⟩
noncomputable def Nx(w:Xm)(S:Addr)(es:Array (Int×X0))(ep:Nat)(t:Yv)(slot i:Nat):Option (X0×Nat):=
 if w.params.followText "set-order"=true then(pickOrder (w.params.setOrder S ep) es)[i]?.map fun e=>(e.2,slot)
 else match es[Cf t.place slot]?,t.place[Cf t.place slot]? with
  |some (_,x),some j=>some (x,j+1)
  |_,_=>none
theorem _kd{t:Yv}
  (hoS:s.heap.get? S=some o) (hdS:o.data=.set es ep t) (hf:t.fits es.size=true) (hw:w.params.followText "set-order"=true\/(es.size≤1/\t.led=true))
  (h:Q (Nx w S es ep t slot i) s):X3 (X6 prog w) A (setNext S slot i ep) Q E s:=by
 unfold setNext;refine X1 (Wo hoS hdS hf ?_);refine X1 (m:=setsByText) (X1 (Wp (X8 ?_)));show X3 _ _ (if w.params.followText "set-order"=true then _ else _) _ _ _;unfold Nx at h;by_cases hb:w.params.followText "set-order"=true
 ·rw[if_pos hb];rw[if_pos hb]at h;simp only[bne_self_eq_false,Yk,if_false];refine X1 ?_;unfold setWalk;refine X1 (Wo hoS hdS hf ?_);refine X1 (m:=setsByText) (X1 (Wp (X8 ?_)));show X3 _ _ (if w.params.followText "set-order"=true then _ else _) _ _ _;rw[if_pos hb];refine X1 (Wp (X8 (X8 ?_)));exact h
 ·rw[if_neg hb];rw[if_neg hb]at h;obtain⟨h1,h2⟩:=hw.resolve_left hb;have hdr:(!t.plain&&decide (es.size>1))=false:=by
   rw[decide_eq_false (by lia),BR]
  show X3 _ _ (if(!t.plain&&decide (es.size>1))=true then _ else _) _ _ _;rw[hdr,if_neg Xx];refine X1 ?_;show X3 _ _ (if(!t.led&& !es.isEmpty)=true then _ else _) _ _ _;rw[h2];simp only[VI,Wz,Yk,if_false];exact X8 (X8 h)
theorem Jh(hh:A.handled=none)(hk:BO it s.heap h₁)
  (hQ:∀h',BO it s.heap h'->Q none {s with heap:=h'}):
  X3 (X6 prog w) A.in1 (do let x<- newExc (.type "StopIteration") [];(raiseNew x:Sem Fin)) (fun fin s'=>∃v,fin=Fin.done (Flow.ret v)/\X3 (X6 prog w) A (pure (some v)) Q E s')
   (fun e s'=>X3 (X6 prog w) A (do let b<- isInstance e (.type "StopIteration");if b=true then pure none else throw e) Q E s') {s with heap:=h₁}:=by
 refine X1 ?_;simp only[newExc,newTuple];refine X1 (U0 ?_ (by size_fits))
 refine X1 (m:=firstArgMember _ _) (wpAny_of_eq (a:=Xt) (by first|rfl|(simp only[firstArgMember];rfl)) ?_)
 refine U0 ?_ (by size_fits)
 simp only[raiseNew];refine X1 (wpAny_handled ?_);rw[show A.in1.handled=none from hh];refine X1 (X8 (wpAny_throw ?_));refine X1 (Uy (T:="StopIteration") (b:=true) ⟨_,XM _ rfl,rfl⟩ isSubtype_stop ?_);exact X8 (hQ _ ((hk.push _).push _))
theorem Ji{it S:Addr}{i n ep slot:Nat}{o:Obj}{es:Array (Int×X0)}{t:Yv}{Q:Option X0->X2->Prop}(hh:A.handled=none)
  (hit:SIt s.heap it S (.int slot 0) i n ep) (hoS:s.heap.get? S=some o) (hdS:o.data=.set es ep t) (hf:t.fits es.size=true) (hn:es.size=n)
  (hw:w.params.followText "set-order"=true\/(es.size≤1/\t.led=true))
  (h1:∀x nx,Nx w S es ep t slot i=some (x,nx)->∀h',SIt h' it S (.int nx 0) (i+1) n ep->U5 it s.heap h'->Q (some x) {s with heap:=h'})
  (h2:Nx w S es ep t slot i=none->∀h',BO it s.heap h'->Q none {s with heap:=h'}):
  X3 (X6 prog w) A (pyNext (.ref it)) Q E s:=by
 obtain⟨oi,hoi,hci,hdi⟩:=id hit;unfold pyNext;refine X1 (wpAny_attempt (Bv (name:=Yf "__next__") hit.typeIs slot_setiter_next
  (Z7 slot_setiter_next hit.typeIs Jf ?_ (Jg _))))
 show X3 _ _ (fieldsOf (.ref it)>>= _) _ _ s;refine X1 (wpAny_fieldsOf hoi hdi ?_);show X3 _ _ (setEntries S >>= _) _ _ s;refine X1 (wpAny_setEntries_of hoS hdS hf ?_);simp only[hn,bne_self_eq_false,Yk,if_false];refine X1 (m:=setNext _ _ _ _) ?_;simp only[YL];refine _kd hoS hdS hf hw ?_;cases hx:Nx w S es ep t slot i with
 |none=>
  dsimp only;refine X1 (Vv hoi hdi (by simp) ?_)
  exact Jh hh (U8 ..).extBut (h2 hx)
 |some p=>
  obtain⟨x,nx⟩:=p;dsimp only;obtain⟨o1,ho1,hc1,hd1⟩:=Cv hoi hdi 0 (Y2 nx);refine X1 (Vv hoi hdi (by simp) ?_)
  refine X1 (Vv ho1 hd1 (by simp) ?_)
  obtain⟨o2,ho2,hc2,hd2⟩:=Cv ho1 hd1 1 (Y2 ((i:Int)+1));refine X8 ⟨x,rfl,X8 (h1 x nx hx _ ⟨o2,ho2,hc2.trans (hc1.trans hci),?_⟩ ((U8 ..).trans (U8 ..)))⟩;rw[hd2];simp[Y2]
theorem Jj{it S P:Addr}{i n ep:Nat}{o op:Obj}{es:Array (Int×X0)}{t:Yv}{ps:Array X0}{np:Nat}{Q:Option X0->X2->Prop}(hh:A.handled=none)
  (hit:SIt s.heap it S (.ref P) i n ep) (hoS:s.heap.get? S=some o) (hdS:o.data=.set es ep t) (hf:t.fits es.size=true) (hn:es.size=n)
  (hoP:s.heap.get? P=some op) (hdP:op.data=.seq ps np)
  (h1:∀v,ps[i]?=some v->∃(p:Nat) (e:Int×X0),v=.int p 0/\es[p]?=some e/\∀h',SIt h' it S (.ref P) (i+1) n ep->U5 it s.heap h'->Q (some e.2) {s with heap:=h'})
  (h2:ps[i]?=none->∀h',BO it s.heap h'->Q none {s with heap:=h'}):
  X3 (X6 prog w) A (pyNext (.ref it)) Q E s:=by
 obtain⟨oi,hoi,hci,hdi⟩:=id hit;unfold pyNext;refine X1 (wpAny_attempt (Bv (name:=Yf "__next__") hit.typeIs slot_setiter_next
  (Z7 slot_setiter_next hit.typeIs Jf ?_ (Jg _))))
 show X3 _ _ (fieldsOf (.ref it)>>= _) _ _ s;refine X1 (wpAny_fieldsOf hoi hdi ?_);show X3 _ _ (setEntries S >>= _) _ _ s;refine X1 (wpAny_setEntries_of hoS hdS hf ?_);simp only[hn,bne_self_eq_false,Yk,if_false];refine X1 (m:=seqItems? _) (wpAny_seqItems hoP hdP ?_);simp only[YL];cases hx:ps[i]? with
 |none=>
  dsimp only;obtain⟨o1,ho1,hc1,hd1⟩:=Cv hoi hdi 0 (Y2 0);refine X1 (Vv hoi hdi (by simp) ?_)
  refine X1 (Vv ho1 hd1 (by simp) ?_)
  refine Jh (s:=s) (it:=it) hh ?_ (h2 hx);exact Heap.SameBut.extBut (Heap.SameBut.trans (U8 _ _ _) (U8 _ _ _))
 |some v=>
  obtain⟨p,e,rfl,he,hq⟩:=h1 v hx;dsimp only;refine X1 ?_;unfold setNextDrawn;refine X1 (Wo hoS hdS hf ?_);simp only[YL,bne_self_eq_false,Yk,if_false,he];obtain⟨k,x⟩:=e;refine X8 ?_;obtain⟨o1,ho1,hc1,hd1⟩:=Cv hoi hdi 1 (Y2 ((i:Int)+1));refine X1 (Vv hoi hdi (by simp) ?_)
  refine X8 ⟨x,rfl,X8 (hq _ ⟨o1,ho1,hc1.trans hci,?_⟩ (U8 ..))⟩;rw[hd1];simp[Y2]
end
section
variable{prog:Xv}{w:Xm}{A:XB}{E:X0->X2->Prop}{s:X2}
theorem Jk(hit:SIt s.heap it S first i n ep)(h:Q (.ref it) s):
  X3 (X6 prog w) A (pyIter (.ref it)) Q E s:=by
 refine wpAny_pyIter_slot hit.typeIs Je (Z7 Je hit.typeIs _8H ?_ (_9i _));show X3 _ _ (ret (.ref it)) _ _ s;exact X8 ⟨_,rfl,"set_iterator",_,hit.typeIs,slot_setiter_next.lookup,h⟩
theorem SIt.at(x:SIt h it S first i n ep)(e:∀o,h.get? it=some o->h'.get? it=some o):SIt h' it S first i n ep:=
 let⟨o,ho,r⟩:=x;⟨o,e _ ho,r⟩
theorem _oy(hh:A.handled=none){I S:Addr}{n ep:Nat}{o:Obj}{es:Array (Int×X0)}{t:Yv}{vs:List X0}{Good:Nat->Nat->Prop}(hne:S≠I)
  (hdS:o.data=.set es ep t) (hf:t.fits es.size=true) (hn:es.size=n) (hw:w.params.followText "set-order"=true\/(es.size≤1/\t.led=true))
  (hg:∀i sl,Good i sl->(i<n->∃x nx,Nx w S es ep t sl i=some (x,nx)/\vs[i]?=some x/\Good (i+1) nx)/\(i=n->Nx w S es ep t sl i=none)):
  Walks prog w A I [I,S] [I] n (λi v=>vs[i]?=some v) (λi h=>∃sl,Good i sl/\SIt h I S (.int (sl:Nat) 0) i n ep/\h.get? S=some o)where
 sub:=λb hb=>by simp at hb;simp[hb]
 frame:=λ_ _ _ st hk=>let⟨sl,g,st1,st2⟩:=st;⟨sl,g,st1.at λo e=>hk I (by simp) o e,hk S (by simp) _ st2⟩
 item:=λi s Q E hi st hQ=>by
  obtain⟨sl,g,st1,st2⟩:=st;obtain⟨x,nx,e1,e2,g2⟩:=(hg i sl g).1 hi;refine Ji hh st1 st2 hdS hf hn hw (λx' nx' q h' a1 a2=>?_) (λq=>by rw[e1]at q;simp at q)
  rw[e1]at q;simp only[C1,Prod.mk.injEq]at q;obtain⟨rfl,rfl⟩:=q;exact hQ _ h' s.toks e2 ⟨_,g2,a1,(a2.2 S hne).trans st2⟩ λb o hb e=>(a2.2 b (λz=>hb (by simp[z]))).trans e
 done:=λs Q E st hQ=>by
  obtain⟨sl,g,st1,st2⟩:=st;have e1:=(hg n sl g).2 rfl;refine Ji hh st1 st2 hdS hf hn hw (λx' nx' q h' a1 a2=>by rw[e1]at q;simp at q) (λ_ h' a=>hQ h' s.toks λb o hb e=>a b o (λz=>hb (by simp[z])) e)
 self:=λ_ _ _ _ st hQ=>let⟨_,_,st1,_⟩:=st;Jk st1 hQ
theorem _ox(hh:A.handled=none){I S P:Addr}{n ep np:Nat}{o op:Obj}{es:Array (Int×X0)}{t:Yv}{js:List Nat}{vs:List X0}(hne:S≠I)(hnp:P≠I)
  (hdS:o.data=.set es ep t) (hf:t.fits es.size=true) (hn:es.size=n) (hdP:op.data=.seq (js.map λi:Nat=>Y2 i).toArray np)
  (hl:js.length=n) (hj:∀(i:Nat) (j:Nat),js[i]?=some j->∃e,es[j]?=some e/\vs[i]?=some e.2):
  Walks prog w A I [I,S,P] [I] n (λi v=>vs[i]?=some v) (λi h=>SIt h I S (.ref P) i n ep/\h.get? S=some o/\h.get? P=some op)where
 sub:=λb hb=>by simp at hb;simp[hb]
 frame:=λ_ _ _ st hk=>⟨st.1.at λo e=>hk I (by simp) o e,hk S (by simp) _ st.2.1,hk P (by simp) _ st.2.2⟩
 item:=λi s Q E hi st hQ=>by
  refine Jj hh st.1 st.2.1 hdS hf hn st.2.2 hdP (λv hv=>?_) (λq=>?_)
  ·simp only[List.getElem?_toArray,Xq,DY]at hv;obtain⟨j,hj1,rfl⟩:=hv;obtain⟨e,he,hv⟩:=hj i j hj1;exact⟨j,e,rfl,he,λh' a1 a2=>hQ _ h' s.toks hv ⟨a1,(a2.2 S hne).trans st.2.1,(a2.2 P hnp).trans st.2.2⟩ λb o hb e=>(a2.2 b (λz=>hb (by simp[z]))).trans e⟩
  ·simp at q;lia
 done:=λs Q E st hQ=>by
  refine Jj hh st.1 st.2.1 hdS hf hn st.2.2 hdP (λv hv=>?_) (λ_ h' a=>hQ h' s.toks λb o hb e=>a b o (λz=>hb (by simp[z])) e)
  simp only[List.getElem?_toArray,Xq,DY]at hv;obtain⟨j,hj1,rfl⟩:=hv;rw[UA (by lia)]at hj1
  simp at hj1
 self:=λ_ _ _ _ st hQ=>Jk st.1 hQ
theorem _jH{α:Type}(es:Array α){js:List Nat}(hp:js.Perm (Xr es.size)):
  ∃ys:List α,ys.Perm es.toList/\ys.length=js.length/\∀(i:Nat) (j:Nat),js[i]?=some j->∃e,es[j]?=some e/\ys[i]?=some e:=by
 have hin:∀j∈js,j<es.size:=λj hj=>Zb.mp (hp.mem_iff.mp hj);refine⟨js.filterMap λj=>es[j]?,(hp.filterMap _).trans (by rw[filterMap_getElem?_range]),?_⟩
 clear hp
 induction js with
 |nil=>exact⟨rfl,λi j h=>by simp at h⟩
 |cons j js ih=>
  have hj:=hin j Ye;obtain⟨h1,h2⟩:=ih λk hk=>hin k (XR _ hk);rw[List.filterMap_cons_some (b:=es[j]) (by simp[hj])]
  refine⟨by simp[h1],λi k h=>?_⟩
  cases i with
  |zero=>
   simp at h;subst h;exact⟨es[j],by simp[hj],rfl⟩
  |succ i=>
   simp at h;obtain⟨e,he,hy⟩:=h2 i k h;exact⟨e,he,by simpa using hy⟩
def Zsc(prog:Xv)(w:Xm)(zs:List Str)(s₀:Heap)(S I:Addr)(h':Heap):Prop:=
 ∃(fp:List Addr) (n:Nat) (vs:List X0) (St:Nat->Heap->Prop),
  (∀A':XB,A'.handled=none->Walks prog w A' I fp [I] n (λi v=>vs[i]?=some v) St)/\St 0 h'/\vs.length=n/\(vs.map txt).Perm zs/\(∀v∈vs,∃t,v=XE (txt v) t)/\
  (∀b∈fp,b=S\/s₀.objs.size≤b)/\s₀.objs.size≤I
theorem Jl(h:p.size=1)(j:Nat):Cf p j=if p[0]'(by lia)<j then 1 else 0:=by
 obtain⟨l⟩:=p
 match l,h with
 |[a],_=>
  show(if 0<1 then(if(#[a]:Array Nat).getD ((0+1)/2) j<j then HW #[a] j 0 ((0+1)/2+1) 1 else HW #[a] j 0 0 ((0+1)/2))else 0)=if a<j then 1 else 0;rw[if_pos (by lia)]
  rfl
theorem _hU{S:Addr}{o:Obj}{zs:List Str}{Q:X0->X2->Prop}(ho:s.heap.get? S=some o)(hS:WSet prog w o zs)
  (hQ:∀(I:Addr) (h':Heap) d,Zsc prog w zs s.heap S I h'->(∀b o,s.heap.get? b=some o->h'.get? b=some o)->Q (.ref I) {s with heap:=h',drawn:=d}):
  X3 (X6 prog w) A (pyIter (.ref S)) Q E s:=by
 obtain⟨hex,es,ep,t,hd,hel,hp,hb,hf,hled,hpl⟩:=id hS;have hT:s.TypeIs (.ref S) "set":=⟨o,ho,hex.1⟩;have hSl:S<s.heap.objs.size:=Xu ho;have hsz:es.size=zs.length:=by rw[<- hp.length_eq,Xa,XY]
 have hst:∀e∈es.toList,∃t,e.2=XE (txt e.2) t:=λe he=>by
  obtain⟨⟨k,hk,_⟩,_⟩:=hel e he;obtain⟨t,ht⟩:=isT.mp hk;exact⟨t,by rw[ht];rfl⟩
 have hsl:sizeLine=16777216:=by decide
 have hsb:scanBound=4096:=rfl;refine wpAny_pyIter_slot hT F.slot_set_iter (Z7 F.slot_set_iter hT _ci ?_ (F.args_set_iter_1 _));show X3 _ _ (HQ S >>= _) _ _ s;refine X1 (m:=HQ S) (X1 (wpAny_setEntries_of ho hd hf (X8 ?_)));refine X1 (m:=setDrawn S) ?_;unfold setDrawn;refine X1 (Wo ho hd hf ?_);refine X1 (m:=setsByText) (X1 (Wp (X8 (X8 ?_))));show X3 _ _ (if(!w.params.followText "set-order"&&(!t.plain&&decide (es.size>1)))=true then _ else _) _ _ _;have rest:∀(first:X0) (s₁:X2) (R:Fin->X2->Prop),s₁.heap.get? S=some o->
   R (.done (.ret (.ref s₁.heap.objs.size))) {s₁ with heap:=s₁.heap.push {cls:=.type "set_iterator",data:=.fields #[first,.int 0 0,.ref S,.int (es.size:Nat) 0,.int ep 0]} }->
   X3 (X6 prog w) A.in1 (do let e<- setEpoch S;let v<- newFields "set_iterator" [first,Y2 0,.ref S,Y2 (es.size:Nat),Y2 e];ret v) R E s₁:=by
  intro first s₁ R ho₁ h
  refine X1 (wpAny_setEpoch_of ho₁ hd hf ?_);exact X1 (U0 (X8 h))
 have small:∀(Good:Nat->Nat->Prop) (vs:List X0),Good 0 0->vs.length=es.size->(vs.map txt).Perm zs->(∀v∈vs,∃t,v=XE (txt v) t)->
   (w.params.followText "set-order"=true\/(es.size≤1/\t.led=true))->
   (∀i sl,Good i sl->(i<es.size->∃x nx,Nx w S es ep t sl i=some (x,nx)/\vs[i]?=some x/\Good (i+1) nx)/\(i=es.size->Nx w S es ep t sl i=none))->
   ∀(s₁:X2),s₁=s->X3 (X6 prog w) A.in1 (do let e<- setEpoch S;let v<- newFields "set_iterator" [Y2 0,Y2 0,.ref S,Y2 (es.size:Nat),Y2 e];ret v)
    (fun fin s'=>∃v,fin=Fin.done (Flow.ret v)/\∃T' r,s'.TypeIs v T'/\Vr (.type T') "__next__"=pure (some r)/\Q v s') E s₁:=by
  intro Good vs g0 hlv hpv hsv hw hg s₁ e₁;subst e₁;refine rest _ _ _ ho ⟨_,rfl,"set_iterator",_,⟨_,XM _ rfl,rfl⟩,slot_setiter_next.lookup,?_⟩;refine hQ _ _ s₁.drawn ⟨[s₁.heap.objs.size,S],es.size,vs,_,λA' hh=>_oy hh (XC hSl) hd hf rfl hw hg,⟨0,g0,⟨_,XM _ rfl,rfl,rfl⟩,Xp _ ho⟩,hlv,hpv,hsv,λb hb=>?_,Xg _⟩ λb o e=>Xp _ e;simp only[Xl,XL,or_false]at hb;rcases hb with rfl|rfl
  ·exact .inr (Xg _)
  ·exact .inl rfl
 by_cases hbt:w.params.followText "set-order"=true
 ·rw[hbt];simp only[VI,Wz,Yk,if_false];refine X1 (X8 ?_);have hpk:=_ir (w.params.setOrder S ep) es;refine small (λ_ _=>True) ((pickOrder (w.params.setOrder S ep) es).toList.map (·.2)) trivial ?_ ?_ ?_ (.inl hbt) ?_ s rfl
  ·rw[Xa,hpk.length_eq,XY]
  ·rw[Ys];exact(hpk.map _).trans hp
  ·intro v hv;obtain⟨e,he,rfl⟩:=XS.mp hv;exact hst e (hpk.mem_iff.mp he)
  ·intro i sl _;have hps:(pickOrder (w.params.setOrder S ep) es).size=es.size:=by rw[<- XY,hpk.length_eq,XY]
   unfold Nx;rw[if_pos hbt];refine⟨λhi=>?_,λhi=>?_⟩
   ·rw[V5 (by lia)]
    exact⟨_,_,rfl,by simp[hps,hi],trivial⟩
   ·rw[DO (by lia)]
    rfl
 ·have hbf:w.params.followText "set-order"=false:=by simpa using hbt
  have hlt:t.led=true:=by rw[hled,hbf];rfl
  rw[hbf];simp only[BS,BT];by_cases h1:es.size>1
  ·have hz:zs≠ []:=λz=>by rw[z,List.length_nil]at hsz;lia
   rw[hpl hz,decide_eq_true h1];simp only[BS,Bool.and_self,if_true];refine X1 (_mn _ _ _ _ (by simp) λjs d hj=>?_)
   obtain⟨ys,hy1,hy2,hy3⟩:=_jH es hj;have hjl:js.length=es.size:=by rw[hj.length_eq,UB]
   refine X1 (wpAny_newTuple ?_ (by rw[Xa];lia))
   refine rest _ _ _ (Xp _ ho) ⟨_,rfl,"set_iterator",_,⟨_,XM _ rfl,rfl⟩,slot_setiter_next.lookup,?_⟩;have hPne:s.heap.objs.size≠(s.heap.push {cls:=.type "tuple",data:=.seq (js.map fun i:Nat=>Y2 i).toArray}).objs.size:=by rw[Zm];lia
   have hSne:S≠(s.heap.push {cls:=.type "tuple",data:=.seq (js.map fun i:Nat=>Y2 i).toArray}).objs.size:=by rw[Zm];exact XC (V0 hSl)
   have hIle:s.heap.objs.size≤(s.heap.push {cls:=.type "tuple",data:=.seq (js.map fun i:Nat=>Y2 i).toArray}).objs.size:=by rw[Zm];lia
   refine hQ _ _ d ⟨[_,S,s.heap.objs.size],es.size,ys.map (·.2),_,λA' hh=>_ox hh (S:=S) (P:=s.heap.objs.size) (o:=o) (js:=js)
    (op:={cls:=.type "tuple",data:=.seq (js.map fun i:Nat=>Y2 i).toArray}) hSne hPne hd hf rfl rfl hjl ?_,
    ⟨⟨_,XM _ rfl,rfl,rfl⟩,Xp _ (Xp _ ho),Xp _ (XM _ rfl)⟩,?_,?_,?_,λb hb=>?_,?_⟩
    λb o e=>Xp _ (Xp _ e)
   ·intro i j hij;obtain⟨e,he,hy⟩:=hy3 i j hij;exact⟨e,he,by rw[Xq,hy];rfl⟩
   ·rw[Xa,hy2,hjl]
   ·rw[Ys];exact(hy1.map _).trans hp
   ·intro v hv;obtain⟨e,he,rfl⟩:=XS.mp hv;exact hst e (hy1.mem_iff.mp he)
   ·simp only[Xl,XL,or_false]at hb;rcases hb with rfl|rfl|rfl
    ·exact .inr hIle
    ·exact .inl rfl
    ·exact .inr (Xg _)
   ·exact hIle
  ·rw[decide_eq_false h1];simp only[BR,Yk,if_false];refine X1 (X8 ?_);have hfp:t.place.size=es.size:=by
    simp only[SetTable.fits,XX,beq_iff_eq,decide_eq_true_eq]at hf;exact hf.1
   refine small (λi sl=>(i=0->sl=0)/\(i=1->∃h:0<t.place.size,sl=t.place[0]+1)) (es.toList.map (·.2)) ⟨λ_=>rfl,λz=>absurd z (by lia)⟩ (by simp) ?_ ?_ (.inr ⟨by lia,hlt⟩) ?_ s rfl
   ·rw[Ys];exact hp
   ·intro v hv;obtain⟨e,he,rfl⟩:=XS.mp hv;exact hst e he
   ·intro i sl ⟨g0,g1⟩;unfold Nx;rw[if_neg hbt];refine⟨λhi=>?_,λhi=>?_⟩
    ·have hs1:es.size=1:=by lia
     have hi0:i=0:=by lia
     subst hi0;have hpz:t.place.size=1:=by lia
     rw[g0 rfl,Jl hpz,if_neg (by lia),V5 (by lia),V5 (by lia)]
     refine⟨_,_,rfl,?_,λz=>absurd z (by lia),λ_=>⟨by lia,rfl⟩⟩
     simp[hs1]
    ·have hnone:es[Cf t.place sl]?=none:=by
      by_cases h0:es.size=0
      ·exact DO (by lia)
      ·have hs1:es.size=1:=by lia
       obtain⟨hq,e⟩:=g1 (by lia)
       rw[e,Jl (by lia),if_pos (by lia)]
       exact DO (by lia)
     rw[hnone]
end
section
variable{prog:Xv}{w:Xm}{A:XB}{E:X0->X2->Prop}{s:X2}
theorem _eR(hh:A.handled=none)(ho:s.heap.get? S=some o)(hS:WSet prog w o zs)
  (hQ:∀(vs:List X0) (h':Heap) (d:Drawn) (g:Array GenState) tk,(vs.map txt).Perm zs->(∀v∈vs,∃t,v=XE (txt v) t)->(∀b o,s.heap.get? b=some o->h'.get? b=some o)->g=s.gens->s.heap.objs.size≤h'.objs.size->
   Q vs {s with heap:=h',drawn:=d,gens:=g,toks:=tk}):X3 (X6 prog w) A (collect (.ref S)) Q E s:=by
 obtain⟨hex,es,ep,t,hd,hel,hp,hb,hf,hled,hpl⟩:=id hS;have hSl:S<s.heap.objs.size:=Xu ho;have hsl:sizeLine=16777216:=by decide
 have hsb:scanBound=4096:=rfl;have hsz:es.size=zs.length:=by rw[<- hp.length_eq,Xa,XY]
 unfold collect;refine X1 (wpAny_runValue (Z8 F.entry_proto_collect ?_));rw[Zo F.plain_proto_collect _];show X3 _ A.in1 (newList [] >>= fun l=>again (.builtin "list.__iadd__" ⟨[l,.ref S],[]⟩)) _ _ s;refine X1 (U0 ?_);refine X8 ⟨Zh F.plain_list_iadd _,Z8 F.entry_list_iadd ?_⟩;rw[Zo F.plain_list_iadd _];show X3 _ A.in1 (HL (.ref s.heap.objs.size) (.ref S) (.ref s.heap.objs.size)) _ _ _;have hne:s.heap.objs.size≠S:=(XC hSl).symm;generalize hL:s.heap.objs.size=L at*;have hgL:(s.heap.push {cls:=.type "list",data:=.seq ([]:List X0).toArray}).get? L=some {cls:=.type "list",data:=.seq ([]:List X0).toArray}:=by
  rw[<- hL];exact XM _ rfl
 have hgS:(s.heap.push {cls:=.type "list",data:=.seq ([]:List X0).toArray}).get? S=some o:=Xp _ ho;have hbig:(s.heap.push {cls:=.type "list",data:=.seq ([]:List X0).toArray}).objs.size=L+1:=by rw[Zm,hL]
 have hold:∀b u,s.heap.get? b=some u->b≠L/\(s.heap.push {cls:=.type "list",data:=.seq ([]:List X0).toArray}).get? b=some u:=fun b u e=>
  ⟨by rw[<- hL];exact XC (Xu e),Xp _ e⟩
 generalize s.heap.push {cls:=.type "list",data:=.seq ([]:List X0).toArray}=h₁ at*;have hT:WF {s with heap:=h₁} (.ref S) "set":=⟨o,hgS,hex.1⟩;unfold HL;refine X1 (Zx hT ?_);have e1:HM (.ref L) (.ref S)=false:=by simp[HM,hne]
 have e2:(XD "set"==XD "list")=false:=by decide
 have e3:(XD "set"==XD "tuple")=false:=by decide
 simp only[e1,e2,e3,Bool.or_false,Yk,if_false];refine X1 (_hU (s:={s with heap:=h₁}) hgS hS λI h₂ d hW hk=>?_);obtain⟨fp,n,vs,St,hWk,hst,hvn,hvp,hvs,hfp,hI⟩:=hW;have hk':∀b u,h₁.get? b=some u->h₂.get? b=some u:=hk;have hT2:WF {s with heap:=h₂,drawn:=d} (.ref S) "set":=⟨o,hk' _ _ hgS,hex.1⟩;refine X1 (YH ?_);unfold Builtin.List.listLengthHint;refine X1 (wpAny_specialOf hT2 F.slot_set_len.lookup ?_);have hsp:splitId "set.__len__"=some ("set","__len__"):=by decide+kernel
 extract_lets j1 j2
 dsimp -zeta only;rw[hsp];dsimp -zeta only;refine X1 (Uy hT2 sub_set_self ?_);simp only[VI,Yk,if_false];show X3 _ _ (ite (_=true) _ _) _ _ _;split
 case isFalse hs=>exact absurd (by rfl) hs
 refine X1 (Zx hT2 ?_);refine X8 ?_;split
 case isFalse hs=>exact absurd (by rfl) hs
 refine X1 (Uz ?_);refine X1 ?_;have hS₁:h₂.get? L=some {cls:=.type "list",data:=.seq ([]:List X0).toArray}:=hk' _ _ hgL;show X3 _ A.in1 (updateSeq L (·.push .none)>>= λ_=>updateSeq L (·.pop)) _ _ _;refine X1 (wpAny_updateSeq hS₁ rfl ?_);have hS₂:=UZ (U9 (·.push Xt)) hS₁ rfl;refine wpAny_updateSeq hS₂ rfl ?_;have hS₃:=UZ (U9 (·.pop)) hS₂ rfl;have oth:∀b o,b≠L->h₂.get? b=some o->((h₂.update L (U9 (·.push Xt))).update L (U9 (·.pop))).get? b=some o:=
  λb o hb e=>(VH _ _ (XN hb)).trans ((VH _ _ (XN hb)).trans e)
 have hLf:L∉fp:=λz=>by
  rcases hfp L z with e|e
  ·exact hne e
  ·have:L+1≤L:=hbig▸e;lia
 have hin:A.in1.handled=none:=by simp[hh]
 have W:=(hWk A.in1 hin).toS;have hn:n≤sizeLine:=by
  have:n=zs.length:=by rw[<- hvn,<- hvp.length_eq,Xa]
  lia
 refine X8 ⟨Zh F.plain_extend_loop _,codeAny_extend_loopS W hn L hLf _ n 0 _ _ _ rfl (YK _)
  (W.frame 0 ({s with heap:=h₂,drawn:=d}:X2) _ s.toks hst (Xg _) λb hb o e=>oth b o (λz=>hLf (z▸hb)) e) hS₃ (ItemsOf.nil _) λs' acc' c' hm hS' hacc=>?_⟩
 show X3 _ A (load L >>= _) _ _ s';refine X1 (Vp hS' ?_);have hav:acc'.toList=vs:=by
  refine BE λi=>?_;by_cases hi:i<acc'.size
  ·have e:=hacc.2 i acc'[i] (by simp[hi])
   rw[e];simp[hi]
  ·rw[UA (by simp;lia),UA (by have:=hacc.1;lia)]
 obtain⟨h',g',d',tk',os'⟩:=s';have eg:g'=s.gens:=hm.gens;have ed:d'=d:=hm.drawn;have eo:os'=s.os:=hm.os;subst ed;subst eo;refine X8 ?_;show Q acc'.toList _;rw[hav];refine hQ vs h' _ g' tk' hvp hvs (λb u e=>?_) eg (BY (Xu hS'));have hbL:=hold b u e;refine hm.heap b u ?_ (oth b u hbL.1 (hk' b u hbL.2));simp only[Xl,XL,or_false,not_or];refine⟨hbL.1,λz=>?_⟩;have h1:L+1≤I:=Y4 (VL hbig.symm) hI;have h2:b<L:=by rw[<- hL];exact Xu e
 rw[z]at h2;exact absurd h1 (Nat.not_le_of_lt (V0 h2))
theorem _fs(hh:A.handled=none)(ho:s.heap.get? S=some o)(hS:WSet prog w o zs)(h64:zs.length<64)
  (h:∀(p:Addr) (h':Heap) (d:Drawn) tk (out:List X0) (ss:List Str) (e:Nat),s.heap.objs.size≤p->(∀b o,s.heap.get? b=some o->h'.get? b=some o)->h'.get? p=some (seqObj "list" out.toArray e)->
   StrsAre out ss->ss.Perm zs->sortedS ss=true->Q (.ref p) {s with heap:=h',drawn:=d,toks:=tk}):
  X3 (X6 prog w) A (call (.builtin "sorted") [.ref S]) Q E s:=by
 refine Calls.call_function_entry kind_sorted plain_sorted entry_sorted (args_sorted1 _) ?_;unfold Builtin.«sorted»;refine X1 (m:=checkCount "sorted" 1 1 _) (X8 ?_);have hsl:sizeLine=16777216:=by decide
 refine X1 (_eR (by simp[hh]) ho hS λvs h₁ d g tk hp hv hk hg hle=>?_)
 subst hg;have hl:vs.length=zs.length:=by rw[<- hp.length_eq,Xa]
 refine X1 (wpAny_newList ?_ (by lia))
 have hoL:(h₁.push (seqObj "list" vs.toArray 0)).get? h₁.objs.size=some (seqObj "list" vs.toArray 0):=XM _ rfl;have hS':StrsAre vs (vs.map strOf):=strsAre_map vs λv hm=>by obtain⟨t,e⟩:=hv v hm;exact⟨_,t,e⟩
 have hto:vs.map strOf=vs.map txt:=List.map_congr_left λv hm=>by obtain⟨t,e⟩:=hv v hm;rw[e];rfl
 show X3 _ _ _ _ _ {s with heap:=h₁.push (seqObj "list" vs.toArray 0),drawn:=d,toks:=tk};refine X1 (YH (Z7 slot_list_sort ⟨_,hoL,rfl⟩ entry_list_sort (list_sort_treeK strKind_oneLt hoL hS'.keysOf (λv₁ v₂ rest e=>keyKind_strs (by rw[<- e];exact hS')) (by lia) λst' a1 a2=>⟨_,rfl,?_⟩) (args_list_sort _)))
 obtain⟨ss',z1,z2,z3⟩:=sorted_out_str hS' a1 a2;refine X8 ⟨_,rfl,?_⟩;obtain⟨e,he⟩:=sortedHeap_at (out:=(arrOf st').map (·.2)) hoL;refine h h₁.objs.size _ d tk ((arrOf st').map (·.2)).toList ss' e hle (λb o hb=>?_) (by rw[Array.toArray_toList];exact he) z1 (by rw[hto]at z2;exact z2.trans hp) z3
 have hb1:=hk b o hb;have hlt:b<h₁.objs.size:=Xu hb1;rw[sortedHeap_old (XC hlt) (by rw[size_push'];exact V0 hlt)]
 exact Xp _ hb1
end
theorem Inv.drew(I:Inv X pins σ H s)(d:Drawn):Inv X pins σ H {s with drawn:=d}:=
 ⟨I.ok,I.os,I.bare,I.base,I.loc,I.cell,I.free,I.freeC,I.pin,I.hok,I.len⟩
theorem few{zs:List Str}(nd:zs.Nodup):∀(N:List Str),(∀z∈zs,z∈N)->zs.length≤N.length:=by
 induction zs with
 |nil=>intro N _;exact YK _
 |cons z zs ih=>
  intro N h;rw[YB]at nd;have hz:=h z Ye;have hp:=List.perm_cons_erase hz;have:=ih nd.2 (N.erase z) λy hy=>by
   have:=hp.mem_iff.mp (h y (XR _ hy));rcases Xl.mp this with e|e
   ·exact absurd (e▸hy) nd.1
   ·exact e
  have hl:=hp.length_eq;simp only[Yr]at hl ⊢;lia
theorem Jn:∀{vs:List X0} {ss:List Str},StrsAre vs ss->Vals (ss.map V.str) vs
 |_,_,.nil=>.nil
 |_,_,.cons x t h=>.cons ⟨t,rfl⟩ (Jn h)
def WQ(X:Cx)(f g:X0)(r:V->Hp->VK->Prop):Prop:=
 ∀(pins:List (Addr×Obj)) (s:X2) (σ:St) (H:Hp) (x:V) (u:X0) (Q:VK),Inv X pins σ H s->RelV x u->r x H Q->
  X3 (X6 X.prog X.w) X.A (call g [u]) (λv s1=>X3 (X6 X.prog X.w) X.A (call f [v]) (EP X pins σ Q) X.xe s1) X.xe s
section
variable{X:Cx}
theorem Ei{x y:Str}{id T:String}{r:V->Hp->VK->Prop}{e:Expr}{t:TE}{p p' pos pos':Pos}(hc:WQ X (.builtin id) (.type T) r)
  (hg:Gl X x) (hm:X.mg x=none) (hv:YA x=some (.builtin id)) (hg':Gl X y) (hm':X.mg y=none) (hv':YA y=some (.type T)) (ha:PE X e t)
  (hn:x≠"__name__") (hdb:(x==("__debug__":Str))=false) (hn':y≠"__name__") (hdb':(y==("__debug__":Str))=false)
  (he:Xw [e] X.env=(false,eval e X.env)::Xw [] X.env):
  PE X (.Call (.Name x p) [.Call (.Name y p') [e] [] pos'] [] pos) (λσ H Q=>t σ H λv H1=>r v H1 Q):=by
 intro pins s σ H Q I h;refine Ux (_F I hg hm hv ?_ hn hdb);refine Hj ?_ rfl rfl;show X3 _ _ (spliced ((false,eval (.Call (.Name y p') [e] [] pos') X.env)::XZ pos (Xw [] X.env))) _ _ s;refine WD ?_;refine Ux (_F I hg' hm' hv' ?_ hn' hdb');refine V8 ?_ he rfl;rw[he];show X3 _ _ (spliced ((false,eval e X.env)::XZ pos' (Xw [] X.env))) _ _ s;refine WD (thn (ha pins s σ H _ I h) λu s1 ⟨v,H1,I1,r1,q1⟩=>?_);refine WE ?_;exact thn (hc pins s1 σ H1 v u Q I1 r1 q1) λu2 s2 q2=>WE q2
theorem _jy(hcalm:X.calm=true):WQ X (.builtin "sorted") (.type "set") (fun x H Q=>∃(a:Addr) (xs N:List Str),x=.ref a/\SqL X.K H a (xs.map V.str)/\xs.length+1<scanBound/\(∀z∈xs,z∈N)/\N.length<64/\
  ∀p (ys:List Str),H p=none->ys.Nodup->(∀y,y∈ys↔y∈xs)->sortedS ys=true->Q (.ref p) (upd H p (.lst (ys.map V.str)))):=by
 intro pins s σ H x u Q I rx h;obtain⟨a,xs,N,rfl,ha,hlen,hN,hN64,q⟩:=h;cases rx;obtain⟨its,rv,p,hz⟩:=I.list ha;have hh:=I.ok.hd hcalm;have hil:its.length=xs.length:=by rw[<- rv.length,Xa]
 have hsz:its.toArray.size=xs.length:=by simp[hil]
 have hi:∀(i:Nat) (v:X0),its.toArray[i]?=some v->∃t,v=XE (xs.getD i ⟨#[]⟩) t:=λi v hv=>by
  have hv':its[i]?=some v:=by simpa using hv
  have hlt:i<xs.length:=by rw[<- hil];exact(XO.mp hv').1
  obtain⟨u,hu,ru⟩:=rv.get (i:=i) (x:=V.str xs[i]) (by simp[hlt])
  rw[hv']at hu;cases hu;obtain⟨t,rfl⟩:=ru;exact⟨t,by simp[Ww,hlt]⟩
 have hmem:∀y,y∈met (λi=>xs.getD i ⟨#[]⟩) xs.length↔y∈xs:=λy=>by
  rw[Ja,List.mem_iff_getElem];constructor
  ·rintro⟨j,hj,rfl⟩;exact⟨j,hj,by simp[Ww,hj]⟩
  ·rintro⟨j,hj,rfl⟩;exact⟨j,hj,by simp[Ww,hj]⟩
 refine _jz (f:=λi=>xs.getD i ⟨#[]⟩) hh p.isList hi (by rw[hsz];exact hlen) λh1 tk1 o ho hS hk=>?_
 rw[hsz]at hS;have I1:Inv X pins σ H {s with heap:=h1,toks:=tk1}:=I.kept λb u e=>hk b u (Xu e) e;have nd:=J9 (λi=>xs.getD i ⟨#[]⟩) xs.length;refine _fs (s:={s with heap:=h1,toks:=tk1}) hh ho hS (DJ (few nd N λz hz=>hN z ((hmem z).mp hz)) hN64) λp2 h2 d tk2 out ss e hp hk2 hp2 ho2 hperm hsort=>?_;have hlen2:ss.length≤sizeLine:=by
  have hsl:sizeLine=16777216:=by decide
  have:=few nd N λz hz=>hN z ((hmem z).mp hz);rw[hperm.length_eq];lia
 have I2:=(I1.laid (a:=p2) (t':=tk2) (h':=h2) (o:=.lst (ss.map V.str)) (λb u e=>hk2 b u e) hp
  ⟨by rw[Xa];exact hlen2,out,e,Jn ho2,hp2⟩).drew d
 exact⟨.ref p2,_,I2,rfl,q p2 ss (I1.hok.fresh hp) (hperm.nodup_iff.mpr nd) (λy=>(hperm.mem_iff).trans (hmem y)) hsort⟩
end
theorem _ez:Vr (.type "list") "keys"=pure none:=by rw[Vt,Vu];kernel_rfl
theorem _eA:Vr (.type "list") "__getattr__"=pure none:=by rw[Vt,Vu];kernel_rfl
theorem W5:isSubtype (.type "AttributeError") (.type "AttributeError")=pure true:=by rw[isSubtype_type];kernel_rfl
section
variable{prog:Xv}{w:Xm}{A:XB}{E:X0->X2->Prop}{h:Heap}{g:Array GenState}{d:Drawn}{t:Nat}{os:OsState}{a:Addr}{its:Array X0}{n:Nat}
theorem _hm(hx:h.get? a=some (seqObj "list" its n))(hh:A.handled=none)
  (hE:∀e h' t',(∀b o,h.get? b=some o->h'.get? b=some o)->(∃o,h'.get? e=some o/\o.cls=.type "AttributeError")->E (.ref e) ⟨h',g,d,t',os⟩):
  X3 (X6 prog w) A (Builtin.«object.__getattribute__» ⟨[.ref a,.str "keys" tk],[]⟩) Q E ⟨h,g,d,t,os⟩:=by
 have hT:(⟨h,g,d,t,os⟩:X2).TypeIs (.ref a) "list":=⟨_,hx,rfl⟩;have f4:=_ez;unfold Builtin.«object.__getattribute__»
 repeat (any_goals (first|assumption|wp_step))
 have hmsg:¬(Yf (toString "'"++toString ((VT "list").elim "list" fun x=>x.tpName)++toString "' object has no attribute '")++Yf "keys"++Yf "'").length>sizeLine:=by decide+kernel
 generalize(Yf (toString "'"++toString ((VT "list").elim "list" fun x=>x.tpName)++toString "' object has no attribute '")++Yf "keys"++Yf "'")=msg at hmsg ⊢;unfold raiseAttrError;refine X1 ?_;unfold mkStr;rw[if_neg hmsg]
 repeat (any_goals (first|assumption|wp_step))
 show X3 _ _ (isSubtype (.type "AttributeError") (.type "AttributeError")) _ _ _;rw[W5];generalize(if((VT "AttributeError").elim false fun t=>t.mro.contains "StopIteration"||t.mro.contains "SystemExit")=true then [XE msg t].headD Xt else Xt)=fm;refine X8 ?_;simp only[VI,Yk,if_false];have hoE:((h.push {cls:=XD "tuple",data:=YW #[XE msg t]}).push {cls:=XD "AttributeError",data:=ZD (#[Xn h.objs.size,Xt,Xt,Xt,Ya false,fm]++YV (XD "AttributeError") [XE msg t])}).get? (h.push {cls:=XD "tuple",data:=YW #[XE msg t]}).objs.size=some {cls:=XD "AttributeError",data:=ZD (#[Xn h.objs.size,Xt,Xt,Xt,Ya false,fm]++YV (XD "AttributeError") [XE msg t])}:=XM _ rfl;have e6:(#[Xn h.objs.size,Xt,Xt,Xt,Ya false,fm]++YV (XD "AttributeError") [XE msg t])[6]?=some (.int 0 0):=rfl;have e7:(#[Xn h.objs.size,Xt,Xt,Xt,Ya false,fm]++YV (XD "AttributeError") [XE msg t])[7]?=some (.int 0 0):=rfl;have old:∀b o,h.get? b=some o->((h.push {cls:=XD "tuple",data:=YW #[XE msg t]}).push {cls:=XD "AttributeError",data:=ZD (#[Xn h.objs.size,Xt,Xt,Xt,Ya false,fm]++YV (XD "AttributeError") [XE msg t])}).get? b=some o/\b<(h.push {cls:=XD "tuple",data:=YW #[XE msg t]}).objs.size:=fun b o e=>
  ⟨Xp _ (Xp _ e),by rw[Zm];exact V0 (Xu e)⟩
 generalize(h.push {cls:=XD "tuple",data:=YW #[XE msg t]}).objs.size=ea at*;generalize((h.push {cls:=XD "tuple",data:=YW #[XE msg t]}).push {cls:=XD "AttributeError",data:=ZD (#[Xn h.objs.size,Xt,Xt,Xt,Ya false,fm]++YV (XD "AttributeError") [XE msg t])})=h2 at*;generalize hvs:#[Xn h.objs.size,Xt,Xt,Xt,Ya false,fm]++YV (XD "AttributeError") [XE msg t]=vs at*;refine X1 (Vp hoE ?_);dsimp only;rw[e6,e7];simp only[VJ,Yk,if_false];rw[if_neg (by decide)]
 refine X8 ?_;simp only[if_true];have hT2:(⟨h2,g,d,t+1+1,os⟩:X2).TypeIs (.ref ea) "AttributeError":=⟨_,hoE,rfl⟩;refine X1 (Uz ?_);refine X1 (Zx hT2 ?_);dsimp only;unfold layMembers;refine X1 (Vp hoE ?_);dsimp only;refine wpAny_update hoE ?_;unfold raiseNew;refine X1 (wpAny_handled ?_);rw[hh];show X3 _ _ (throw (Xn ea)) _ _ _;have hup:=UZ (DX fun vs=>vs.extract 0 6++#[XE (Yf "keys") (t+1),Xn a]) hoE (DV (Cg rfl _));refine wpAny_throw (hE ea _ _ (λb o e=>?_) ⟨_,hup,DW ..⟩);have:=old b o e;exact(VH _ _ (V3 this.2)).trans this.1
theorem _nx(hx:h.get? a=some (seqObj "list" its n))(hh:A.handled=none)
  (hE:∀e h' t',(∀b o,h.get? b=some o->h'.get? b=some o)->(∃o,h'.get? e=some o/\o.cls=.type "AttributeError")->E (.ref e) ⟨h',g,d,t',os⟩):
  X3 (X6 prog w) A (getAttrBy (.ref a) (.str "keys" tk) false) Q E ⟨h,g,d,t,os⟩:=by
 have hT:(⟨h,g,d,t,os⟩:X2).TypeIs (.ref a) "list":=⟨_,hx,rfl⟩;have f2:=Cc.lookup;have f3:=Cc.bind (.ref a)
 repeat (any_goals (first|assumption|wp_step))
 refine Wn Cc.plain F.entry_list_ga (Cc.check _ _ _ _ _ _ _ _ hT (F.args_list_getattribute_2 _ _) (_hm hx (by simp[hh]) λe h' t' k ho=>?_))
 have hTe:(⟨h',g,d,t',os⟩:X2).TypeIs (.ref e) "AttributeError":=ho;show X3 _ _ (BA _ _ _ _ _ _ _) _ _ _;unfold BA;refine X1 (Uy hTe W5 ?_);simp only[if_true];unfold hookBehind onTheHeap;simp only[Yk,if_false];rw[_eA];refine X1 (X8 ?_);unfold hookOrError attributeErrorLeaves;simp only[BS,if_true];exact X1 (wpAny_throw (hE e h' t' k ho))
theorem _iM(hx:s.heap.get? a=some (seqObj "list" its n))(hh:A.handled=none)
  (hQ:∀h' t',(∀b o,s.heap.get? b=some o->h'.get? b=some o)->Q none {s with heap:=h',toks:=t'}):X3 (X6 prog w) A (getAttr? (.ref a) "keys") Q E s:=by
 obtain⟨h,g,d,t,os⟩:=s;unfold getAttr? getAttrBy? mkText;refine X1 (X1 (wpAny_fresh (X8 ?_)));refine X1 (wpAny_attempt (_nx hx hh λe h' t' k ho=>?_));have hTe:(⟨h',g,d,t',os⟩:X2).TypeIs (.ref e) "AttributeError":=ho;refine X1 (Uy hTe W5 ?_);simp only[if_true];exact X8 (hQ h' t' k)
end
theorem Jo:entryFor table "dict.update.loop"=some Builtin.«dict.update.loop»:=entryFor_of_tree (by kernel_rfl)
theorem WR:plainId "dict.update.loop"=true:=by decide+kernel
section
variable{prog:Xv}{w:Xm}{A:XB}{E:X0->X2->Prop}{s:X2}{K:Type} [DecidableEq K] {knd:KeyKind prog w K}
noncomputable def stTo(ks:Nat->K)(vs:Nat->X0):Nat->List (K×X0)
 |0=>[]
 |i+1=>stored (stTo ks vs i) (ks i) (vs i)
theorem _fl(kvs:List (K×X0))(k:K)(v:X0):(stored kvs k v).length≤kvs.length+1:=by
 unfold stored;split<;>simp
theorem Cw(ks:Nat->K)(vs:Nat->X0):∀i,(stTo ks vs i).length≤i
 |0=>Xg _
 |i+1=>Y4 (_fl _ _ _) (Nat.succ_le_succ (Cw ks vs i))
theorem Jp{St:Nat->X2->Prop}
  (W:WalksS prog w A.in1 I fp wr G n P St) (D:Addr) (hDf:D∉fp) (ks:Nat->K) (vs:Nat->X0) (hb:n≤sizeLine):
  ∀(k i:Nat) (s:X2),n - i=k->i≤n->St i s->s.heap.DictOf knd D (stTo ks vs i)->
   (∀j v,P j v->∃q uk np oq,v=.ref q/\q≠D/\q∉wr/\s.heap.get? q=some oq/\oq.cls=.type "tuple"/\oq.data=.seq #[uk,vs j] np/\knd.is (ks j) uk=true)->
   (∀s',Moved (D::wr) G s s'->s'.heap.DictOf knd D (stTo ks vs n)->R (.ok (.ret .none)) s')->
   YU (X6 prog w) A (.builtin "dict.update.loop" ⟨[.ref D,.ref I,Y2 (i:Nat),.none],[]⟩) R s:=by
 have hDw:D∉wr:=λh=>hDf (W.sub _ h);have hsub:∀b∈wr,b∈D::wr:=λb hb=>XR _ hb;intro k
 induction k with
 |zero=>
  intro i s hk hi hst hd ht hR;have hin:i=n:=by lia
  subst hin;refine Z8 Jo ?_;rw[Zo WR _];show X3 _ A.in1 (pyNext (.ref I)>>= _) _ _ s;refine X1 (W.done s _ _ hst λs' hm=>?_);refine X1 (m:=Builtin.Dict.addKeywords D []) (X8 ?_);refine X8 (hR s' (hm.mono hsub) ?_);obtain⟨o,es,ep,ho,r⟩:=hd;exact⟨o,es,ep,hm.heap D _ hDw ho,r⟩
 |succ k ih=>
  intro i s hk hi hst hd ht hR;have hlt:i<n:=by lia
  refine Z8 Jo ?_;rw[Zo WR _];show X3 _ A.in1 (pyNext (.ref I)>>= _) _ _ s;refine X1 (W.item i s _ _ hlt hst λv s' hP hst' hm=>?_);obtain⟨q,uk,np,oq,rfl,hqD,hqw,hq,hqc,hqd,hkey⟩:=ht i v hP;have hq':=hm.heap q _ hqw hq;have hd':s'.heap.DictOf knd D (stTo ks vs i):=by
   obtain⟨o,es,ep,ho,r⟩:=hd;exact⟨o,es,ep,hm.heap D _ hDw ho,r⟩
  have hT:s'.TypeIs (.ref q) "tuple":=⟨_,hq',hqc⟩;show X3 _ A.in1 (Z4 [Xn q] _ >>= _) _ _ s';refine X1 (YH ?_);refine X1 (wpAny_tryCatch ?_);unfold Builtin.Dict.pairItems;refine X1 (Zx hT ?_);have e2:(XD "tuple"==XD "tuple")=true:=rfl;rw[e2,BV,if_pos rfl];refine X1 (wpAny_seqItems hq' hqd (X8 ?_));show X3 _ A.in1 (Z4 [uk,vs i] (dictSet D uk (vs i))) _ _ s';refine YH ?_;have hl:=Cw ks vs i;refine wpAny_dictSet_pairs (knd:=knd) hkey hd' (λh' hd2 hsb=>?_) (by lia)
  refine X8 ⟨Zh WR _,?_⟩;have:=ih (i+1) {s' with heap:=h',toks:=s'.toks+1} (by lia) hlt (W.frame _ s' _ _ hst' (UE _) λb hb o e=>?_) hd2 (λj v hPj=>?_) λs'' hm'' hd''=>?_
  ·exact this
  ·rw[hsb.2 b (λz:b=D=>hDf (by rw[<- z];exact hb))];exact e
  ·obtain⟨q,uk,np,oq,rfl,a1,a2,a3,a4⟩:=ht j v hPj;exact⟨q,uk,np,oq,rfl,a1,a2,(hsb.2 q a1).trans (hm.heap q _ a2 a3),a4⟩
  ·refine hR s'' (Moved.trans W.gtrans ((hm.mono hsub).then_heap (UE _) λb o hb e=>?_) hm'') hd'';rw[hsb.2 b (λz:b=D=>hb (by rw[z];exact Ye))];exact e
theorem _hK{items:Array X0}(hh:A.handled=none)(hl:s.heap.get? l=some (seqObj "list" items nl))(hn:items.size≤sizeLine)
  (ht:∀(j:Nat) v,items[j]?=some v->∃q uk np oq,v=.ref q/\s.heap.get? q=some oq/\oq.cls=.type "tuple"/\oq.data=.seq #[uk,vs j] np/\knd.is (ks j) uk=true)
  (h:∀h' tk,h'.DictOf knd s.heap.objs.size (stTo ks vs items.size)->(∀b o,b<s.heap.objs.size->s.heap.get? b=some o->h'.get? b=some o)->Q (.ref s.heap.objs.size) {s with heap:=h',toks:=tk}):
  X3 (X6 prog w) A (call (.type "dict") [.ref l]) Q E s:=by
 refine callType_codes (Q₁:=fun obj s₁=>obj=.ref s.heap.objs.size/\s₁={s with heap:=s.heap.push {cls:=.type "dict",data:=.dict #[]} }) F.kt_called_dict (F.kt_typeCall_dict_1 _) F.entry_dict_init (kt_code_dict_new _ ⟨rfl,rfl⟩) ?_;rintro obj s₁ ⟨rfl,rfl⟩;have hnew:(s.heap.push {cls:=.type "dict",data:=.dict #[]}).DictOf knd s.heap.objs.size []:=HX s.heap;have hl':(s.heap.push {cls:=.type "dict",data:=.dict #[]}).get? l=some (seqObj "list" items nl):=Xp _ hl;have hT:WF {s with heap:=s.heap.push {cls:=.type "dict",data:=.dict #[]} } (.ref l) "list":=⟨_,hl',rfl⟩;refine⟨hnew.typeIs,F.args_dict_init_2 _ _,?_⟩;unfold Builtin.«dict.__init__»;refine X1 ?_;unfold Hu;refine X1 (By hnew.typeIs ?_);show X3 _ _ (pure (s.heap.objs.size,[Xn l])) _ _ _;refine X8 ?_;show X3 _ _ (Ca "dict.__init__" s.heap.objs.size (.ref l) [] .none) _ _ _;unfold Ca;refine X1 (Zx hT ?_);rw[if_pos (by decide)]
 refine X1 (_iM (s:={s with heap:=s.heap.push {cls:=.type "dict",data:=.dict #[]} }) hl' (by simp[hh]) fun h1 t1 hk1=>?_)
 simp only[Option.isNone_none,if_true];refine X1 (Uz ?_);have hl1:h1.get? l=some (seqObj "list" items nl):=hk1 _ _ hl';have hL1:h1.IsList l items:=⟨_,hl1,rfl,nl,rfl⟩;have hlS:l<s.heap.objs.size:=Xu hl;have hbig:s.heap.objs.size<h1.objs.size:=by
  obtain⟨o,es,ep,ho,_⟩:=hnew;exact Xu (hk1 _ _ ho)
 refine X1 (Bz (s:={s with heap:=h1,toks:=t1}) hL1 ?_);have hneI:l≠h1.objs.size:=XC (V4 hlS hbig);refine X8 ⟨Zh WR _,?_⟩;refine Jp (knd:=knd) (n:=items.size) ((Walks.list (A:=A.in1.in1) (by simp[hh]) h1.objs.size l hneI items).toS) s.heap.objs.size ?_ ks vs hn items.size 0 _ rfl (YK _)
  ⟨⟨_,XM _ rfl,rfl,rfl⟩,hL1.push _⟩ ?_ ?_ ?_
 ·simp only[Xl,XL,or_false,not_or];exact⟨XC hbig,V3 hlS⟩
 ·obtain⟨o,es,ep,ho,r⟩:=hnew;exact⟨o,es,ep,Xp _ (hk1 _ _ ho),r⟩
 ·intro j v hv;obtain⟨q,uk,np,oq,rfl,a1,a2⟩:=ht j v hv;have hqS:q<s.heap.objs.size:=Xu a1;refine⟨q,uk,np,oq,rfl,XC hqS,?_,Xp _ (hk1 _ _ (Xp _ a1)),a2⟩;simp only[Y3];exact XC (V4 hqS hbig)
 ·intro s' hm hd;obtain⟨h',g',d',tk',os'⟩:=s';have eg:g'=s.gens:=hm.gens;have ed:d'=s.drawn:=hm.drawn;have eo:os'=s.os:=hm.os;subst eg;subst ed;subst eo;refine⟨rfl,h h' tk' hd λb o hb e=>?_⟩;refine hm.heap b o ?_ (Xp _ (hk1 _ _ (Xp _ e)));simp only[Xl,XL,or_false,not_or];exact⟨XC hb,XC (V4 hb hbig)⟩
end
def Ej(H:Hp):List (Key×V)->List V->Prop:=Paired fun(p:Key×V) (v:V)=>∃q,v=.ref q/\H q=some (.tup [kV p.1,p.2])
def ZK(ps:List (Key×V)):List (Key×V):=ps.foldl (λc z=>putK c z.1 z.2) []
theorem Paired.at{α β:Type}{R:α->β->Prop}:∀{xs:List α} {ys:List β},Paired R xs ys->∀(i:Nat) (y:β),ys[i]?=some y->∃x,xs[i]?=some x/\R x y
 |_,_,.nil,i,y,h=>by simp at h
 |_,_,.cons r _,0,y,h=>by simp at h;subst h;exact⟨_,rfl,r⟩
 |_,_,.cons _ t,i+1,y,h=>by simp at h;obtain⟨x,hx,r⟩:=Paired.at t i y h;exact⟨x,by simpa using hx,r⟩
section
variable{X:Cx}
theorem _hJ(hcalm:X.calm=true):Yg X (.type "dict") (fun xs H Q=>∃(a:Addr) (ps:List (Key×V)) (qs:List V),xs=[.ref a]/\H a=some (.lst qs)/\Ej H ps qs/\∀p,H p=none->Q (.ref p) (upd H p (.dK (ZK ps)))):=by
 intro pins s σ H xs us Q I r h;obtain⟨a,ps,qs,rfl,ha,hp,q⟩:=h;obtain⟨u,rfl,ru⟩:=YX r;cases ru;obtain⟨hz,its,nl,rv,hl⟩:=(show ObjOk X.prog X.w H s.heap a (.lst qs)from I.hok a _ ha);have hh:=I.ok.hd hcalm;have hlen:its.length=ps.length:=by rw[<- rv.length,hp.length]
 have hpair:∀(j:Nat) v,its.toArray[j]?=some v->∃q uk uv np oq,v=.ref q/\s.heap.get? q=some oq/\oq.cls=.type "tuple"/\oq.data=.seq #[uk,uv] np/\∃p,ps[j]?=some p/\RelV (kV p.1) uk/\RelV p.2 uv:=fun j v hv=>by
  have hv':its[j]?=some v:=by simpa using hv
  obtain⟨y,hy,ry⟩:=Paired.at rv j v hv';obtain⟨p,hpj,q,rfl,hq⟩:=Paired.at hp j y hy;cases ry;obtain⟨_,ts,rt,ht⟩:=(show ObjOk X.prog X.w H s.heap q (.tup [kV p.1,p.2])from I.hok q _ hq);obtain⟨uk,uv,rfl,r1,r2⟩:=VZ rt;obtain⟨oq,ho,hc,n,hd⟩:=ht.1;exact⟨q,uk,uv,n,oq,rfl,ho,hc,hd,p,hpj,r1,r2⟩
 obtain⟨vs,hvs⟩:∃vs:Nat->X0,∀(j:Nat) v,its.toArray[j]?=some v->∃q uk np oq,v=.ref q/\s.heap.get? q=some oq/\oq.cls=.type "tuple"/\oq.data=.seq #[uk,vs j] np/\∃p,ps[j]?=some p/\RelV (kV p.1) uk/\RelV p.2 (vs j):=by
  refine⟨λj=>if h:j<its.length then(hpair j its[j] (by simp[h])).choose_spec.choose_spec.choose else .none,λj v hv=>?_⟩
  have hv':its[j]?=some v:=by simpa using hv
  obtain⟨hj,rfl⟩:=XO.mp hv';dsimp only;rw[dif_pos hj];have z:=(hpair j its[j] (by simp[hj]))
  exact⟨z.choose,z.choose_spec.choose,z.choose_spec.choose_spec.choose_spec⟩
 refine _hK (knd:=Yt X.prog X.w) (ks:=λj=>(ps.getD j (.inl 0,.non)).1) (vs:=vs) hh hl (by simpa [<- rv.length]using hz) (λj v hv=>?_) λh' tk hd hk=>?_
 ·obtain⟨q,uk,np,oq,e1,e2,e3,e4,p,hpj,r1,r2⟩:=hvs j v hv;refine⟨q,uk,np,oq,e1,e2,e3,e4,Vd ?_⟩;rw[Yo,hpj];exact r1
 have kv:∀i,i≤ps.length->KV ((ps.take i).foldl (λc z=>putK c z.1 z.2) []) (stTo (λj=>(ps.getD j (.inl 0,.non)).1) vs i):=by
  intro i
  induction i with
  |zero=>intro _;exact .nil
  |succ i ih=>
   intro hi;have hlt:i<its.length:=by lia
   obtain⟨q,uk,np,oq,e1,e2,e3,e4,p,hpj,r1,r2⟩:=hvs i its[i] (by simp[hlt])
   rw[U2,hpj,E1,Dw];show KV (putK _ p.1 p.2) (stored _ (ps.getD i (.inl 0,.non)).1 _);have ek:(ps.getD i (.inl 0,.non)).1=p.1:=by rw[Yo,hpj];rfl
   rw[ek];exact(ih (by lia)).put p.1 r2
 have kvn:=kv ps.length (Xg _);rw[Dx]at kvn;have hsz:its.toArray.size=ps.length:=by simp[hlen]
 rw[hsz]at hd;have hpl:ps.length≤sizeLine:=by rw[hp.length];exact hz
 have zl:(ZK ps).length≤sizeLine:=by
  have:=kvn.length;have l2:=Cw (λj=>(ps.getD j (.inl 0,.non)).1) vs ps.length;unfold ZK;lia
 exact⟨.ref s.heap.objs.size,_,I.laid (a:=s.heap.objs.size) (o:=.dK (ZK ps)) (t':=tk) (λb u e=>hk b u (Xu e) e) (Xg _) (Cq zl (beq_eq_false_iff_ne.mpr (XN (XC I.big))) kvn hd),rfl,q _ (I.hok.fresh (Xg _))⟩
end
section
variable{X:Cx}
theorem _jI:∀(bs:List Bool),((Xr bs.length).all λi=>bs.getD i true)=bs.all id:=by
 intro bs;have e:(Xr bs.length).map (λi=>bs.getD i true)=bs:=by
  refine BH (by simp) λi h1 h2=>?_
  simp[Ww,h2]
 conv=>rhs;rw[<- e]
 rw[List.all_map]
 rfl
theorem _jG(hcalm:X.calm=true):Yg X (.builtin "all") (fun xs H Q=>∃(a:Addr) (bs:List Bool),xs=[.ref a]/\SqL X.K H a (bs.map V.bl)/\Q (.bl (bs.all id)) H):=by
 intro pins s σ H xs us Q I r h;obtain⟨a,bs,rfl,ha,q⟩:=h;obtain⟨u,rfl,ru⟩:=YX r;cases ru;obtain⟨its,rv,p,hz⟩:=I.list ha;have hh:=I.ok.hd hcalm;have hil:its.length=bs.length:=by rw[<- rv.length,Xa]
 have hit:∀(i:Nat) (v:X0),its.toArray[i]?=some v->v=.bool (bs.getD i true):=λi v hv=>by
  have hv':its[i]?=some v:=by simpa using hv
  have hlt:i<bs.length:=by rw[<- hil];exact(XO.mp hv').1
  obtain⟨u,hu,ru⟩:=rv.get (i:=i) (x:=V.bl bs[i]) (by simp[hlt])
  rw[hv']at hu;cases hu;rw[show v=.bool bs[i]from ru];simp[Ww,hlt]
 have hlS:a<s.heap.objs.size:=by obtain⟨o,n,e,_⟩:=p;exact Xu e
 refine PySem.call_all_walk (Bz p.isList ⟨_,_,_,_,_,_,λi=>bs.getD i true,rfl,Walks.list (by simp[hh]) _ a (XC hlS) its.toArray,⟨⟨_,XM _ rfl,rfl,rfl⟩,p.isList.push _⟩,?_,λh' tk hk=>?_⟩)
 ·intro i v s Q E hP hQ;rw[hit i v hP];exact Zu hQ
 ·have hsz:its.toArray.size=bs.length:=by simp[hil]
  rw[hsz,_jI];refine⟨.bl _,H,I.kept (t':=tk) λb o e=>?_,rfl,q⟩;exact hk b o (by simp only[Y3];exact XC (Xu e)) (Xp _ e)
end
noncomputable def Its(x:Str):It:=⟨λi _=>i<x.cps.size,λi H v H'=>H'=H/\∃c,x.cps[i]?=some c/\v=.str ⟨#[c]⟩,λi _=>x.cps.size≤i⟩
theorem _hP{K:X4}(it:Addr)(x:Str)(t:Tok):Turn P w K tg (Its x) [it] it (fun i h=>h.IsStrIter it "str_ascii_iterator" x t i)where
 mem:=by simp
 obj:=λi h st b hb=>by
  have e:b=it:=by simpa using hb
  subst e;obtain⟨o,e,c,d⟩:=st;exact⟨o,e,λv z=>by rw[d]at z;cases z⟩
 keep:=λi h h' st k=>by
  obtain⟨o,e,c,d⟩:=st;exact⟨o,k it (by simp) o e,c,d⟩
 item:=by
  intro X hP hw hK hc i pins s σ H E I hf st hg;subst hP hw hK;have hg:i<x.cps.size:=hg;obtain⟨f0,f1,f2,f3,f4,f5⟩:=hf it (by simp)
  refine wpAny_pyNext_ascii_item st (c:=x.cps[i]) (by simp[hg]) λh' st' sb=>?_
  have I1:Inv X pins σ H {s with heap:=h',toks:=s.toks+1}:=I.turned (λb o hb e=>(sb.2 b hb).trans e) f0 f1 f3 f4 f5;obtain⟨o,e,c,d⟩:=id st';exact⟨_,rfl,Vb (s:={s with heap:=h',toks:=s.toks+1}) e c d (by decide) ⟨.str ⟨#[x.cps[i]]⟩,H,I1,⟨_,rfl⟩,⟨rfl,_,by simp[hg],rfl⟩,st',λb hb=>(hf b hb).1⟩⟩
 done:=by
  intro X hP hw hK hc i pins s σ H E I hf st hg;subst hP hw hK;have hg:x.cps.size≤i:=hg;obtain⟨f0,f1,f2,f3,f4,f5⟩:=hf it (by simp)
  exact wpAny_pyNext_ascii_end (I.ok.hd hc) st (by simp[hg]) λh' eb=>⟨rfl,I.turned (t':=s.toks) (λb o hb e=>eb b o hb e) f0 f1 f3 f4 f5⟩
 self:=λ_ _ _ _ _ st h=>wpAny_pyIter_striter_ascii st h
theorem _hO{K:X4}(it:Addr)(x:Str)(t:Tok):Turn P w K tg (Its x) [it] it (fun i h=>h.IsStrIter it "str_iterator" x t i)where
 mem:=by simp
 obj:=λi h st b hb=>by
  have e:b=it:=by simpa using hb
  subst e;obtain⟨o,e,c,d⟩:=st;exact⟨o,e,λv z=>by rw[d]at z;cases z⟩
 keep:=λi h h' st k=>by
  obtain⟨o,e,c,d⟩:=st;exact⟨o,k it (by simp) o e,c,d⟩
 item:=by
  intro X hP hw hK hc i pins s σ H E I hf st hg;subst hP hw hK;have hg:i<x.cps.size:=hg;obtain⟨f0,f1,f2,f3,f4,f5⟩:=hf it (by simp)
  refine wpAny_pyNext_wide_item st (c:=x.cps[i]) (by simp[hg]) λh' st' sb=>?_
  have I1:Inv X pins σ H {s with heap:=h',toks:=s.toks+1}:=I.turned (λb o hb e=>(sb.2 b hb).trans e) f0 f1 f3 f4 f5;obtain⟨o,e,c,d⟩:=id st';exact⟨_,rfl,Vb (s:={s with heap:=h',toks:=s.toks+1}) e c d (by decide) ⟨.str ⟨#[x.cps[i]]⟩,H,I1,⟨_,rfl⟩,⟨rfl,_,by simp[hg],rfl⟩,st',λb hb=>(hf b hb).1⟩⟩
 done:=by
  intro X hP hw hK hc i pins s σ H E I hf st hg;subst hP hw hK;have hg:x.cps.size≤i:=hg;obtain⟨f0,f1,f2,f3,f4,f5⟩:=hf it (by simp)
  exact wpAny_pyNext_wide_end (I.ok.hd hc) st (by simp[hg]) λh' eb=>⟨rfl,I.turned (t':=s.toks) (λb o hb e=>eb b o hb e) f0 f1 f3 f4 f5⟩
 self:=λ_ _ _ _ _ st h=>wpAny_pyIter_striter_wide st h
section
variable{X:Cx}{pins:List (Addr×Obj)}{σ:St}{H:Hp}{s:X2}
theorem _mU{t:Tok}(I:Inv X pins σ H s)(q:R (Its x) H):X3 (X6 X.prog X.w) X.A (pyIter (.str x t)) (PIE X pins σ tg R) E s:=by
 have fp:∀b∈ [s.heap.objs.size],FpOk X pins H b:=λb hb=>by
  have e:b=s.heap.objs.size:=by simpa using hb
  subst e;exact I.fpOk (Xg _) (I.hok.fresh (Xg _))
 cases ha:x.cps.all (·<128)
 ·exact wpAny_pyIter_wide ha ⟨s.heap.objs.size,[s.heap.objs.size],_,_,H,rfl,I.kept (t':=s.toks) λb o e=>Xp _ e,_hO _ x t,⟨_,XM _ rfl,rfl,rfl⟩,fp,q⟩
 ·exact wpAny_pyIter_ascii ha ⟨s.heap.objs.size,[s.heap.objs.size],_,_,H,rfl,I.kept (t':=s.toks) λb o e=>Xp _ e,_hP _ x t,⟨_,XM _ rfl,rfl,rfl⟩,fp,q⟩
def ZrO(X:Cx)(tl:TE):TI:=λσ H R=>tl σ H λx H1=>(∃a,x=.ref a/\((∃xs,SqL X.K H1 a xs/\R (Itl X.K a) H1)\/(∃xs,SqT X.K H1 a xs/\R (Itt X.K a) H1)\/∃kvs,H1 a=some (.dK kvs)/\∀o,(∀o' u',X.H₀ a≠some (.frz o' u'))->R (Itd a o) (upd H1 a (.frz o (.dK kvs)))))\/
 ∃z,x=.str z/\R (Its z) H1
theorem _mV{tg l:Expr}{tl:TE}(hl:PE X l tl):PI X tg l (ZrO X tl):=by
 intro pins s σ H R I h;refine thn (hl pins s σ H _ I h) λv s1 ⟨x,H1,I1,r1,q1⟩=>?_;rcases q1 with⟨a,e,q⟩|⟨z,e,q⟩
 ·subst e;cases r1;rcases q with⟨xs,hq,q⟩|⟨xs,hq,q⟩|⟨kvs,hq,q⟩
  ·obtain⟨its,rv,p,hz⟩:=I1.list hq;refine Bz p.isList ?_;refine⟨s1.heap.objs.size,[s1.heap.objs.size],_,_,H1,rfl,I1.kept (t':=s1.toks) λb o e=>Xp _ e,SC a _,⟨_,XM _ rfl,rfl,rfl⟩,λb hb=>?_,q⟩;have e:b=s1.heap.objs.size:=by simpa using hb
   subst e;exact I1.fpOk (Xg _) (I1.hok.fresh (Xg _))
  ·obtain⟨its,rv,p,hz⟩:=I1.tuple hq;refine wpAny_pyIter_tuple (show s1.heap.IsTuple a its.toArray from p) ?_;refine⟨s1.heap.objs.size,[s1.heap.objs.size],_,_,H1,rfl,I1.kept (t':=s1.toks) λb o e=>Xp _ e,SD a _,⟨_,XM _ rfl,rfl,rfl⟩,λb hb=>?_,q⟩;have e:b=s1.heap.objs.size:=by simpa using hb
   subst e;exact I1.fpOk (Xg _) (I1.hok.fresh (Xg _))
  ·exact _kt I1 hq q
 ·subst e;obtain⟨t,rfl⟩:=r1;exact _mU I1 q
theorem _fQ(hv:∀i,v≠.builtin i)(h:Q (.bool (v==.bool b)) s):X3 M A (Y0 .Is v (.bool b)) Q E s:=by
 cases v<;>first|exact X8 h|exact absurd rfl (hv _)
theorem _ca(hv:∀i,v≠.builtin i)(h:Q (.bool (!(v==.bool b))) s):X3 M A (Y0 .IsNot v (.bool b)) Q E s:=by
 cases v<;>first|exact X8 h|exact absurd rfl (hv _)
theorem Jq(r:RelV x v):∀i,v≠.builtin i:=λi e=>by
 subst e;cases x<;>first|(cases r;done)|(obtain⟨t,e⟩:=r;cases e)
set_option tactic.hygienic true in
theorem Jr(r:RelV x v):decide (x=.bl b)=(v==Ya b):=by
 cases x<;>first
  |(cases r;rename_i c;cases b<;>cases c<;>rfl)
  |(cases r;rfl)
  |(obtain⟨t,rfl⟩:=r;rfl)
theorem _n8:OpR X (Y0 .Is) (λx y H Q=>∃b,y=.bl b/\Q (.bl (decide (x=.bl b))) H):=by
 intro pins s σ H x y v u Q I rx ry h;obtain⟨b,rfl,q⟩:=h;cases ry;exact _fQ (Jq rx) (XH I q (Jr rx))
theorem _kC:OpR X (Y0 .IsNot) (λx y H Q=>∃b,y=.bl b/\Q (.bl (!decide (x=.bl b))) H):=by
 intro pins s σ H x y v u Q I rx ry h;obtain⟨b,rfl,q⟩:=h;cases ry;exact _ca (Jq rx) (XH I q (by rw[Jr rx]))
theorem _hp{t:X0}(I:Inv X pins σ H s)(rx:RelV x u)(ty:TyOf X.K H x t)(e:UY X.K t c=some b)(e':UY X.K t d=some b')
  (htp:s.heap.get? tp=some ⟨.type "tuple",dd,.seq [c,d].toArray n,sl⟩) (h:∀tk,Q (.bool (b||b')) {s with toks:=tk}):X3 (X6 X.prog X.w) A (call (.builtin "isinstance") [u,.ref tp]) Q E s:=by
 have ea:BN X.K t [c,d]=some (b||b'):=by
  unfold BN;rw[e];cases b with
  |true=>rfl
  |false=>
   show BN X.K t [d]=some b';unfold BN;rw[e'];cases b'<;>rfl
 cases ty with
 |non=>cases(show u=Xt from rx);exact Zl PySem.W.kitx_none I.kIn YD htp ea (λz=>nomatch z) h
 |bl y=>cases(show u=Ya y from rx);exact Zl PySem.W.kitx_bool I.kIn YD htp ea (λz=>nomatch z) h
 |int i=>obtain⟨t,q⟩:=(show∃t,u=VN i t from rx);cases q;exact Zl PySem.W.kitx_int I.kIn YD htp ea (λz=>nomatch z) h
 |str y=>obtain⟨t,q⟩:=(show∃t,u=XE y t from rx);cases q;exact Zl PySem.W.kitx_str I.kIn YD htp ea (λz=>nomatch z) h
 |flt y=>obtain⟨t,q⟩:=(show∃t,u=C0 y t from rx);cases q;exact Zl PySem.W.kitx_float I.kIn YD htp ea (λz=>nomatch z) h
 | @lst a xs ea'=>
  cases(show u=Xn a from rx);obtain⟨_,_,n,_,h1⟩:=(show ObjOk X.prog X.w H s.heap a (.lst xs)from I.hok a _ ea');exact Zl BK I.kIn ⟨_,h1,rfl⟩ htp ea (λz=>nomatch z) h
 | @frz a ob xs ea'=>
  cases(show u=Xn a from rx);obtain⟨_,_,_,n,_,h1⟩:=(show ObjOk X.prog X.w H s.heap a (.frz ob (.lst xs))from I.hok a _ ea');exact Zl BK I.kIn ⟨_,h1,rfl⟩ htp ea (λz=>nomatch z) h
 | @tup a xs ea'=>
  cases(show u=Xn a from rx);obtain⟨_,_,_,p⟩:=(show ObjOk X.prog X.w H s.heap a (.tup xs)from I.hok a _ ea');obtain⟨o,h1,h2,_⟩:=p.1;exact Zl PySem.W.kitx_tuple I.kIn ⟨o,h1,h2⟩ htp ea (λz=>nomatch z) h
 | @dK a kvs ea'=>
  cases(show u=Xn a from rx);obtain⟨_,_,vs,_,p⟩:=(show ObjOk X.prog X.w H s.heap a (.dK kvs)from I.hok a _ ea');obtain⟨o,es,ep,h1,h2,_⟩:=p;exact Zl BL I.kIn ⟨o,h1,h2.1⟩ htp ea (λz=>nomatch z) h
 | @dT a kvs ea'=>
  cases(show u=Xn a from rx);obtain⟨_,_,xs,_,o,es,ep,h1,h2,_⟩:=(show ObjOk X.prog X.w H s.heap a (.dT kvs)from I.hok a _ ea');exact Zl BL I.kIn ⟨o,h1,h2.1⟩ htp ea (λz=>nomatch z) h
 | @ins a C dx fs ea' cl ha hn htk hm=>
  cases(show u=Xn a from rx);obtain⟨mA,O,_⟩:=WH I.hok ea';obtain⟨od,J,_⟩:=O.look;exact Zl (PySem.W.kitx_own (cl.get _) cl.hd ha hn htk hm) I.kIn J htp ea (λz=>nomatch z) h
theorem _f4:Yg X (.builtin "isinstance") (fun xs H Q=>∃x a c d t b b',xs=[x,.ref a]/\H a=some (.tup [.ty c,.ty d])/\TyOf X.K H x t/\UY X.K t (.type c)=some b/\UY X.K t (.type d)=some b'/\Q (.bl (b||b')) H):=by
 intro pins s σ H xs us Q I r h;obtain⟨x,a,c,d,t,b,b',rfl,ha,ty,e,e',q⟩:=h;obtain⟨u,w',rfl,ru,rw'⟩:=VZ r;cases rw';obtain⟨its,rv,p,_⟩:=I.tuple (SqT.of (K:=X.K) ha);obtain⟨⟨cls,dd,data,sl⟩,ho,hc,n,hd⟩:=id p;simp only at hc hd;subst hc hd;cases rv with
 |cons r1 r2=>
  cases r2 with
  |cons r3 r4=>
   cases r4;cases r1;cases r3;exact _hp I ru ty e e' ho λtk=>⟨.bl (b||b'),H,I.tok tk,rfl,q⟩
end
section
variable{X:Cx}
end
theorem _dq:Vr (.type "tuple") "keys"=pure none:=by rw[Vt,Vu];kernel_rfl
theorem _dr:Vr (.type "tuple") "__getattr__"=pure none:=by rw[Vt,Vu];kernel_rfl
section
variable{prog:Xv}{w:Xm}{A:XB}{E:X0->X2->Prop}{h:Heap}{g:Array GenState}{d:Drawn}{t:Nat}{os:OsState}{a:Addr}{its:Array X0}{n:Nat}{sl:Array (Option X0)}
theorem _fJ(hx:h.get? a=some (⟨.type "tuple",none,.seq its n,sl⟩))(hh:A.handled=none)
  (hE:∀e h' t',(∀b o,h.get? b=some o->h'.get? b=some o)->(∃o,h'.get? e=some o/\o.cls=.type "AttributeError")->E (.ref e) ⟨h',g,d,t',os⟩):
  X3 (X6 prog w) A (Builtin.«object.__getattribute__» ⟨[.ref a,.str "keys" tk],[]⟩) Q E ⟨h,g,d,t,os⟩:=by
 have hT:(⟨h,g,d,t,os⟩:X2).TypeIs (.ref a) "tuple":=⟨_,hx,rfl⟩;have f4:=_dq;unfold Builtin.«object.__getattribute__»
 repeat (any_goals (first|assumption|wp_step))
 have hmsg:¬(Yf (toString "'"++toString ((VT "tuple").elim "tuple" fun x=>x.tpName)++toString "' object has no attribute '")++Yf "keys"++Yf "'").length>sizeLine:=by decide+kernel
 generalize(Yf (toString "'"++toString ((VT "tuple").elim "tuple" fun x=>x.tpName)++toString "' object has no attribute '")++Yf "keys"++Yf "'")=msg at hmsg ⊢;unfold raiseAttrError;refine X1 ?_;unfold mkStr;rw[if_neg hmsg]
 repeat (any_goals (first|assumption|wp_step))
 show X3 _ _ (isSubtype (.type "AttributeError") (.type "AttributeError")) _ _ _;rw[W5];generalize(if((VT "AttributeError").elim false fun t=>t.mro.contains "StopIteration"||t.mro.contains "SystemExit")=true then [XE msg t].headD Xt else Xt)=fm;refine X8 ?_;simp only[VI,Yk,if_false];have hoE:((h.push {cls:=XD "tuple",data:=YW #[XE msg t]}).push {cls:=XD "AttributeError",data:=ZD (#[Xn h.objs.size,Xt,Xt,Xt,Ya false,fm]++YV (XD "AttributeError") [XE msg t])}).get? (h.push {cls:=XD "tuple",data:=YW #[XE msg t]}).objs.size=some {cls:=XD "AttributeError",data:=ZD (#[Xn h.objs.size,Xt,Xt,Xt,Ya false,fm]++YV (XD "AttributeError") [XE msg t])}:=XM _ rfl;have e6:(#[Xn h.objs.size,Xt,Xt,Xt,Ya false,fm]++YV (XD "AttributeError") [XE msg t])[6]?=some (.int 0 0):=rfl;have e7:(#[Xn h.objs.size,Xt,Xt,Xt,Ya false,fm]++YV (XD "AttributeError") [XE msg t])[7]?=some (.int 0 0):=rfl;have old:∀b o,h.get? b=some o->((h.push {cls:=XD "tuple",data:=YW #[XE msg t]}).push {cls:=XD "AttributeError",data:=ZD (#[Xn h.objs.size,Xt,Xt,Xt,Ya false,fm]++YV (XD "AttributeError") [XE msg t])}).get? b=some o/\b<(h.push {cls:=XD "tuple",data:=YW #[XE msg t]}).objs.size:=fun b o e=>
  ⟨Xp _ (Xp _ e),by rw[Zm];exact V0 (Xu e)⟩
 generalize(h.push {cls:=XD "tuple",data:=YW #[XE msg t]}).objs.size=ea at*;generalize((h.push {cls:=XD "tuple",data:=YW #[XE msg t]}).push {cls:=XD "AttributeError",data:=ZD (#[Xn h.objs.size,Xt,Xt,Xt,Ya false,fm]++YV (XD "AttributeError") [XE msg t])})=h2 at*;generalize hvs:#[Xn h.objs.size,Xt,Xt,Xt,Ya false,fm]++YV (XD "AttributeError") [XE msg t]=vs at*;refine X1 (Vp hoE ?_);dsimp only;rw[e6,e7];simp only[VJ,Yk,if_false];rw[if_neg (by decide)]
 refine X8 ?_;simp only[if_true];have hT2:(⟨h2,g,d,t+1+1,os⟩:X2).TypeIs (.ref ea) "AttributeError":=⟨_,hoE,rfl⟩;refine X1 (Uz ?_);refine X1 (Zx hT2 ?_);dsimp only;unfold layMembers;refine X1 (Vp hoE ?_);dsimp only;refine wpAny_update hoE ?_;unfold raiseNew;refine X1 (wpAny_handled ?_);rw[hh];show X3 _ _ (throw (Xn ea)) _ _ _;have hup:=UZ (DX fun vs=>vs.extract 0 6++#[XE (Yf "keys") (t+1),Xn a]) hoE (DV (Cg rfl _));refine wpAny_throw (hE ea _ _ (λb o e=>?_) ⟨_,hup,DW ..⟩);have:=old b o e;exact(VH _ _ (V3 this.2)).trans this.1
theorem _kP(hx:h.get? a=some (⟨.type "tuple",none,.seq its n,sl⟩))(hh:A.handled=none)
  (hE:∀e h' t',(∀b o,h.get? b=some o->h'.get? b=some o)->(∃o,h'.get? e=some o/\o.cls=.type "AttributeError")->E (.ref e) ⟨h',g,d,t',os⟩):
  X3 (X6 prog w) A (getAttrBy (.ref a) (.str "keys" tk) false) Q E ⟨h,g,d,t,os⟩:=by
 have hT:(⟨h,g,d,t,os⟩:X2).TypeIs (.ref a) "tuple":=⟨_,hx,rfl⟩;have f2:=Cb.lookup;have f3:=Cb.bind (.ref a)
 repeat (any_goals (first|assumption|wp_step))
 refine Wn Cb.plain F.entry_tuple_ga (Cb.check _ _ _ _ _ _ _ _ hT (F.args_tuple_getattribute_2 _ _) (_fJ hx (by simp[hh]) λe h' t' k ho=>?_))
 have hTe:(⟨h',g,d,t',os⟩:X2).TypeIs (.ref e) "AttributeError":=ho;show X3 _ _ (BA _ _ _ _ _ _ _) _ _ _;unfold BA;refine X1 (Uy hTe W5 ?_);simp only[if_true];unfold hookBehind onTheHeap;simp only[Yk,if_false];rw[_dr];refine X1 (X8 ?_);unfold hookOrError attributeErrorLeaves;simp only[BS,if_true];exact X1 (wpAny_throw (hE e h' t' k ho))
theorem _hn(hx:s.heap.get? a=some (⟨.type "tuple",none,.seq its n,sl⟩))(hh:A.handled=none)
  (hQ:∀h' t',(∀b o,s.heap.get? b=some o->h'.get? b=some o)->Q none {s with heap:=h',toks:=t'}):X3 (X6 prog w) A (getAttr? (.ref a) "keys") Q E s:=by
 obtain⟨h,g,d,t,os⟩:=s;unfold getAttr? getAttrBy? mkText;refine X1 (X1 (wpAny_fresh (X8 ?_)));refine X1 (wpAny_attempt (_kP hx hh λe h' t' k ho=>?_));have hTe:(⟨h',g,d,t',os⟩:X2).TypeIs (.ref e) "AttributeError":=ho;refine X1 (Uy hTe W5 ?_);simp only[if_true];exact X8 (hQ h' t' k)
end
section
variable{prog:Xv}{w:Xm}{A:XB}{E:X0->X2->Prop}{s:X2}{K:Type} [DecidableEq K] {knd:KeyKind prog w K}
theorem _hI{items:Array X0}(hh:A.handled=none)(hl:s.heap.get? l=some (⟨.type "tuple",none,.seq items nl,sl⟩))(hn:items.size≤sizeLine)
  (ht:∀(j:Nat) v,items[j]?=some v->∃q uk np oq,v=.ref q/\s.heap.get? q=some oq/\oq.cls=.type "tuple"/\oq.data=.seq #[uk,vs j] np/\knd.is (ks j) uk=true)
  (h:∀h' tk,h'.DictOf knd s.heap.objs.size (stTo ks vs items.size)->(∀b o,b<s.heap.objs.size->s.heap.get? b=some o->h'.get? b=some o)->Q (.ref s.heap.objs.size) {s with heap:=h',toks:=tk}):
  X3 (X6 prog w) A (call (.type "dict") [.ref l]) Q E s:=by
 refine callType_codes (Q₁:=fun obj s₁=>obj=.ref s.heap.objs.size/\s₁={s with heap:=s.heap.push {cls:=.type "dict",data:=.dict #[]} }) F.kt_called_dict (F.kt_typeCall_dict_1 _) F.entry_dict_init (kt_code_dict_new _ ⟨rfl,rfl⟩) ?_;rintro obj s₁ ⟨rfl,rfl⟩;have hnew:(s.heap.push {cls:=.type "dict",data:=.dict #[]}).DictOf knd s.heap.objs.size []:=HX s.heap;have hl':(s.heap.push {cls:=.type "dict",data:=.dict #[]}).get? l=some (⟨.type "tuple",none,.seq items nl,sl⟩):=Xp _ hl;have hT:WF {s with heap:=s.heap.push {cls:=.type "dict",data:=.dict #[]} } (.ref l) "tuple":=⟨_,hl',rfl⟩;refine⟨hnew.typeIs,F.args_dict_init_2 _ _,?_⟩;unfold Builtin.«dict.__init__»;refine X1 ?_;unfold Hu;refine X1 (By hnew.typeIs ?_);show X3 _ _ (pure (s.heap.objs.size,[Xn l])) _ _ _;refine X8 ?_;show X3 _ _ (Ca "dict.__init__" s.heap.objs.size (.ref l) [] .none) _ _ _;unfold Ca;refine X1 (Zx hT ?_);rw[if_pos (by decide)]
 refine X1 (_hn (s:={s with heap:=s.heap.push {cls:=.type "dict",data:=.dict #[]} }) hl' (by simp[hh]) fun h1 t1 hk1=>?_)
 simp only[Option.isNone_none,if_true];refine X1 (Uz ?_);have hl1:h1.get? l=some (⟨.type "tuple",none,.seq items nl,sl⟩):=hk1 _ _ hl';have hL1:h1.IsTuple l items:=⟨_,hl1,rfl,nl,rfl⟩;have hlS:l<s.heap.objs.size:=Xu hl;have hbig:s.heap.objs.size<h1.objs.size:=by
  obtain⟨o,es,ep,ho,_⟩:=hnew;exact Xu (hk1 _ _ ho)
 refine X1 (wpAny_pyIter_tuple (s:={s with heap:=h1,toks:=t1}) hL1 ?_);have hneI:l≠h1.objs.size:=XC (V4 hlS hbig);refine X8 ⟨Zh WR _,?_⟩;refine Jp (knd:=knd) (n:=items.size) ((Walks.tuple (A:=A.in1.in1) (by simp[hh]) h1.objs.size l hneI items).toS) s.heap.objs.size ?_ ks vs hn items.size 0 _ rfl (YK _)
  ⟨⟨_,XM _ rfl,rfl,rfl⟩,hL1.push _⟩ ?_ ?_ ?_
 ·simp only[Xl,XL,or_false,not_or];exact⟨XC hbig,V3 hlS⟩
 ·obtain⟨o,es,ep,ho,r⟩:=hnew;exact⟨o,es,ep,Xp _ (hk1 _ _ ho),r⟩
 ·intro j v hv;obtain⟨q,uk,np,oq,rfl,a1,a2⟩:=ht j v hv;have hqS:q<s.heap.objs.size:=Xu a1;refine⟨q,uk,np,oq,rfl,XC hqS,?_,Xp _ (hk1 _ _ (Xp _ a1)),a2⟩;simp only[Y3];exact XC (V4 hqS hbig)
 ·intro s' hm hd;obtain⟨h',g',d',tk',os'⟩:=s';have eg:g'=s.gens:=hm.gens;have ed:d'=s.drawn:=hm.drawn;have eo:os'=s.os:=hm.os;subst eg;subst ed;subst eo;refine⟨rfl,h h' tk' hd λb o hb e=>?_⟩;refine hm.heap b o ?_ (Xp _ (hk1 _ _ (Xp _ e)));simp only[Xl,XL,or_false,not_or];exact⟨XC hb,XC (V4 hb hbig)⟩
end
section
variable{X:Cx}
theorem _g9(hcalm:X.calm=true):Yg X (.type "dict") (fun xs H Q=>∃(a:Addr) (ps:List (Key×V)) (qs:List V),xs=[.ref a]/\H a=some (.tup qs)/\Ej H ps qs/\∀p,H p=none->Q (.ref p) (upd H p (.dK (ZK ps)))):=by
 intro pins s σ H xs us Q I r h;obtain⟨a,ps,qs,rfl,ha,hp,q⟩:=h;obtain⟨u,rfl,ru⟩:=YX r;cases ru;obtain⟨hz,its,rv,⟨ol,hl,hlc,nl,hld⟩,ol2,hl2,hdn⟩:=(show ObjOk X.prog X.w H s.heap a (.tup qs)from I.hok a _ ha);have hh:=I.ok.hd hcalm;rw[hl]at hl2;cases hl2;obtain⟨lc,ldc,ld,lsl⟩:=ol;cases hlc;cases hld;cases hdn;have hlen:its.length=ps.length:=by rw[<- rv.length,hp.length]
 have hpair:∀(j:Nat) v,its.toArray[j]?=some v->∃q uk uv np oq,v=.ref q/\s.heap.get? q=some oq/\oq.cls=.type "tuple"/\oq.data=.seq #[uk,uv] np/\∃p,ps[j]?=some p/\RelV (kV p.1) uk/\RelV p.2 uv:=fun j v hv=>by
  have hv':its[j]?=some v:=by simpa using hv
  obtain⟨y,hy,ry⟩:=Paired.at rv j v hv';obtain⟨p,hpj,q,rfl,hq⟩:=Paired.at hp j y hy;cases ry;obtain⟨_,ts,rt,ht⟩:=(show ObjOk X.prog X.w H s.heap q (.tup [kV p.1,p.2])from I.hok q _ hq);obtain⟨uk,uv,rfl,r1,r2⟩:=VZ rt;obtain⟨oq,ho,hc,n,hd⟩:=ht.1;exact⟨q,uk,uv,n,oq,rfl,ho,hc,hd,p,hpj,r1,r2⟩
 obtain⟨vs,hvs⟩:∃vs:Nat->X0,∀(j:Nat) v,its.toArray[j]?=some v->∃q uk np oq,v=.ref q/\s.heap.get? q=some oq/\oq.cls=.type "tuple"/\oq.data=.seq #[uk,vs j] np/\∃p,ps[j]?=some p/\RelV (kV p.1) uk/\RelV p.2 (vs j):=by
  refine⟨λj=>if h:j<its.length then(hpair j its[j] (by simp[h])).choose_spec.choose_spec.choose else .none,λj v hv=>?_⟩
  have hv':its[j]?=some v:=by simpa using hv
  obtain⟨hj,rfl⟩:=XO.mp hv';dsimp only;rw[dif_pos hj];have z:=(hpair j its[j] (by simp[hj]))
  exact⟨z.choose,z.choose_spec.choose,z.choose_spec.choose_spec.choose_spec⟩
 refine _hI (knd:=Yt X.prog X.w) (ks:=λj=>(ps.getD j (.inl 0,.non)).1) (vs:=vs) hh hl (by simpa [<- rv.length]using hz) (λj v hv=>?_) λh' tk hd hk=>?_
 ·obtain⟨q,uk,np,oq,e1,e2,e3,e4,p,hpj,r1,r2⟩:=hvs j v hv;refine⟨q,uk,np,oq,e1,e2,e3,e4,Vd ?_⟩;rw[Yo,hpj];exact r1
 have kv:∀i,i≤ps.length->KV ((ps.take i).foldl (λc z=>putK c z.1 z.2) []) (stTo (λj=>(ps.getD j (.inl 0,.non)).1) vs i):=by
  intro i
  induction i with
  |zero=>intro _;exact .nil
  |succ i ih=>
   intro hi;have hlt:i<its.length:=by lia
   obtain⟨q,uk,np,oq,e1,e2,e3,e4,p,hpj,r1,r2⟩:=hvs i its[i] (by simp[hlt])
   rw[U2,hpj,E1,Dw];show KV (putK _ p.1 p.2) (stored _ (ps.getD i (.inl 0,.non)).1 _);have ek:(ps.getD i (.inl 0,.non)).1=p.1:=by rw[Yo,hpj];rfl
   rw[ek];exact(ih (by lia)).put p.1 r2
 have kvn:=kv ps.length (Xg _);rw[Dx]at kvn;have hsz:its.toArray.size=ps.length:=by simp[hlen]
 rw[hsz]at hd;have hpl:ps.length≤sizeLine:=by rw[hp.length];exact hz
 have zl:(ZK ps).length≤sizeLine:=by
  have:=kvn.length;have l2:=Cw (λj=>(ps.getD j (.inl 0,.non)).1) vs ps.length;unfold ZK;lia
 exact⟨.ref s.heap.objs.size,_,I.laid (a:=s.heap.objs.size) (o:=.dK (ZK ps)) (t':=tk) (λb u e=>hk b u (Xu e) e) (Xg _) (Cq zl (beq_eq_false_iff_ne.mpr (XN (XC I.big))) kvn hd),rfl,q _ (I.hok.fresh (Xg _))⟩
end
noncomputable def cutS(x:Str)(lo hi:Option Int):Str:=⟨((x.cps.toList.drop (HT.sIx x.cps.toList.length 0 lo)).take (HT.sIx x.cps.toList.length x.cps.toList.length hi - HT.sIx x.cps.toList.length 0 lo)).toArray⟩
theorem _l8(x:Str)(lo hi:Option Int):(cutS x lo hi).length≤x.length:=by
 unfold cutS C3;simp only[XQ,YI,Wt,XY];lia
theorem _fk(x:Str)(lo hi:Option Int):((C7 lo hi 1 x.length).filterMap (x.cps[·]?)).toArray=(cutS x lo hi).cps:=by
 obtain⟨h1,h2,h3⟩:=E9 lo hi x.length;have e:C7 lo hi 1 x.length=sliceRange (Z0 lo hi none x.length).1 (Z0 lo hi none x.length).2.1 (Z0 lo hi none x.length).2.2:=rfl;have el:x.cps.toList.length=x.length:=by simp[C3]
 rw[e,h1,h2,h3,sliceRange_one,pick_run];unfold cutS;rw[el]
theorem _hy{lo:Option Int}(h:(C7 lo hi 1 x.length).length=x.length):cutS x lo hi=x:=by
 obtain⟨h1,h2,h3⟩:=E9 lo hi x.length;have e:C7 lo hi 1 x.length=sliceRange (Z0 lo hi none x.length).1 (Z0 lo hi none x.length).2.1 (Z0 lo hi none x.length).2.2:=rfl;have el:x.cps.toList.length=x.length:=by simp[C3]
 rw[e,h1,h2,h3,sliceRange_one,Xa,UB]at h;unfold cutS;rw[el];have hb:HT.sIx x.length x.length hi≤x.length:=by
  unfold HT.sIx;cases hi with
  |none=>exact Xg _
  |some i=>dsimp only;split<;>lia
 obtain⟨cps⟩:=x;congr 1;have e0:∀(n a b:Nat),b≤n->b - a=n->n=0\/a=0:=by lia
 rcases e0 _ _ _ hb h with z|z
 ·have:cps.toList=[]:=by
   rw[<- BC];rw[XY];exact z
  simp[this];have:cps=#[]:=by apply Array.toList_inj.mp;simpa using this
  rw[this]
 ·rw[h,z,DC,Vw (by rw[XY];exact Xg _)]
section
variable{X:Cx}
def rSlS:V->Option Int->Option Int->Hp->VK->Prop:=λx lo hi H Q=>∃z:Str,x=.str z/\z.length≤sizeLine/\Q (.str (cutS z lo hi)) H
theorem Js(h:IsPart v o):∃l:Option (Int×Tok),v=partValue l/\l.map (·.1)=o:=by
 cases h with
 |none=>exact⟨none,rfl,rfl⟩
 |int i t=>exact⟨some (i,t),rfl,rfl⟩
theorem _oH:SlR X rSlS:=by
 intro pins s σ H x v vl vu lo hi sl Q I rx hs pl pu h;obtain⟨z,rfl,hz,q⟩:=h;obtain⟨t,rfl⟩:=rx;obtain⟨l,rfl,rfl⟩:=Js pl;obtain⟨u,rfl,rfl⟩:=Js pu;refine⟨"str",_,slot_str_getitem.lookup,typeIs_str s z t,?_⟩;refine wpAny_getItem_str_slice (l:=l) (u:=u) (st:=none) hs rfl ?_;unfold sliceMade;by_cases hc:(((none:Option (Int×Tok)).map (·.1)).getD 1==1&&(slicePicked z l u none).length==z.length)=true
 ·rw[if_pos hc];have e:cutS z (l.map (·.1)) (u.map (·.1))=z:=by
   refine _hy ?_;rw[XX]at hc;exact eq_of_beq hc.2
  rw[e]at q;exact⟨.str z,H,I,⟨_,rfl⟩,q⟩
 ·rw[if_neg hc];have e:(⟨((slicePicked z l u none).filterMap (z.cps[·]?)).toArray⟩:Str)=cutS z (l.map (·.1)) (u.map (·.1)):=by
   have:=_fk z (l.map (·.1)) (u.map (·.1));unfold slicePicked;rw[show((none:Option (Int×Tok)).map (·.1)).getD 1=(1:Int)from rfl,this]
  rw[e];exact⟨Y4 (_l8 _ _ _) hz,.str _,H,I.tok _,⟨_,rfl⟩,q⟩
end
theorem Jt:∀{xs:List V} {vs:List X0},xs.length=vs.length->(∀(j:Nat) x v,xs[j]?=some x->vs[j]?=some v->RelV x v)->Vals xs vs
 |[],[],_,_=>.nil
 |[],_::_,h,_=>by cases h
 |_::_,[],h,_=>by cases h
 |x::xs,v::vs,h,r=>.cons (r 0 x v rfl rfl) (Jt (by simpa using h) λj a b ha hb=>r (j+1) a b (by simpa using ha) (by simpa using hb))
theorem _fP(h:ItemsOf (λi v=>∃t,v=.int (0+i*1) t) acc n):Vals ((Xr n).map λi=>V.int (i:Nat)) acc.toList:=by
 refine Jt (by rw[Xa,UB,XY];exact h.1.symm) λj x v hx hv=>?_
 obtain⟨t,rfl⟩:=h.2 j v (by simpa using hv)
 rw[Xq]at hx;cases e:(Xr n)[j]? with
 |none=>rw[e]at hx;cases hx
 |some k=>
  rw[e]at hx;have hk:k=j:=by
   have:=XO.mp e;obtain⟨_,z⟩:=this
   simpa using z.symm
  subst hk;cases hx;exact⟨t,by rw[WC,Int.mul_one]⟩
section
variable{X:Cx}{tg:Expr}
theorem _jE(hcalm:X.calm=true):WQ X (.type "list") (.type "range") (fun x H Q=>∃n:Nat,x=.int n/\n≤1000000/\∀p,H p=none->Q (.ref p) (upd H p (.lst ((Xr n).map fun i=>V.int (i:Nat))))):=by
 intro pins s σ H x u Q I rx h;obtain⟨n,rfl,hn,q⟩:=h;obtain⟨t,rfl⟩:=rx;refine call_range_1 ?_;have hl:((Xr n).map λi=>V.int (i:Nat)).length≤sizeLine:=by rw[Xa,UB];exact Y4 hn (by decide)
 have hh:=I.ok.hd hcalm;refine call_list_range (n:=n) hh (E3 ..) ?_ ?_ (by lia) λh' tk acc' c' kp e it=>?_
 ·exact small_one (by decide) (by decide) (by lia) (by lia)
 ·rw[rangeSize_one];split<;>lia
 have I1:=I.kept (h':=s.heap.push {cls:=.type "range",data:=.fields #[.int 0 s.toks,.int (n:Int) t,.int 1 (s.toks+1)]}) (t':=s.toks+1+1) fun b o e=>Xp _ e;exact⟨.ref _,_,I1.laid (t':=tk) kp (Xg _) (show ObjOk X.prog X.w _ h' _ (.lst ((Xr n).map λi=>V.int (i:Nat)))from⟨hl,acc'.toList,c',_fP it,by simpa using e⟩),rfl,q _ (I1.hok.fresh (Xg _))⟩
theorem _ix{x y:Str}{id T:String}{r:V->Hp->VK->Prop}{e:Expr}{t:TE}{p p' pos pos':Pos}(hc:WQ X (.type id) (.type T) r)
  (hg:Gl X x) (hm:X.mg x=none) (hv:YA x=some (.type id)) (hg':Gl X y) (hm':X.mg y=none) (hv':YA y=some (.type T)) (ha:PE X e t)
  (hn:x≠"__name__") (hdb:(x==("__debug__":Str))=false) (hn':y≠"__name__") (hdb':(y==("__debug__":Str))=false)
  (he:Xw [e] X.env=(false,eval e X.env)::Xw [] X.env):
  PE X (.Call (.Name x p) [.Call (.Name y p') [e] [] pos'] [] pos) (λσ H Q=>t σ H λv H1=>r v H1 Q):=by
 intro pins s σ H Q I h;refine Ux (_F I hg hm hv ?_ hn hdb);refine V8 ?_ rfl rfl;show X3 _ _ (spliced ((false,eval (.Call (.Name y p') [e] [] pos') X.env)::XZ pos (Xw [] X.env))) _ _ s;refine WD ?_;refine Ux (_F I hg' hm' hv' ?_ hn' hdb');refine V8 ?_ he rfl;rw[he];show X3 _ _ (spliced ((false,eval e X.env)::XZ pos' (Xw [] X.env))) _ _ s;refine WD (thn (ha pins s σ H _ I h) λu s1 ⟨v,H1,I1,r1,q1⟩=>?_);refine WE ?_;exact thn (hc pins s1 σ H1 v u Q I1 r1 q1) λu2 s2 q2=>WE q2
noncomputable def Itrs(lo st:Int)(n:Nat):It:=⟨λi _=>i<n,λi H x H'=>H'=H/\x=.int (lo+i*st),λi _=>n≤i⟩
theorem _fi{K:X4}(it:Addr)(lo sp:Int)(n:Nat):Turn P w K tg (Itrs lo sp n) [it] it (λi h=>IsRangeIter h it (lo+(i:Nat)*sp) ((n:Int) - (i:Nat)) sp)where
 mem:=by simp
 obj:=λi h st b hb=>by
  have e:b=it:=by simpa using hb
  subst e;exact⟨_,st,λv z=>by
   have z':ZD _=Data.cell v:=z;cases z'⟩
 keep:=λi h h' st k=>k it (by simp) _ st
 item:=by
  intro X hP hw hK hc i pins s σ H E I hf st hg;subst hP hw hK;obtain⟨f0,f1,f2,f3,f4,f5⟩:=hf it (by simp)
  have W:=Walks.range (prog:=X.prog) (w:=X.w) (I.ok.hd hc) it lo sp n;refine W.item i s _ _ hg st λv h' tk hv st' kk=>?_;obtain⟨t,rfl⟩:=hv;have I1:Inv X pins σ H {s with heap:=h',toks:=tk}:=I.turned (λb o hb e=>kk b o (by simpa using hb) e) f0 f1 f3 f4 f5
  exact⟨_,rfl,Vb (s:={s with heap:=h',toks:=tk}) (n:="range_iterator") st' rfl rfl (by decide) ⟨.int (lo+i*sp),H,I1,⟨t,rfl⟩,⟨rfl,rfl⟩,st',fun b hb=>(hf b hb).1⟩⟩
 done:=by
  intro X hP hw hK hc i pins s σ H E I hf st hg;subst hP hw hK;obtain⟨f0,f1,f2,f3,f4,f5⟩:=hf it (by simp)
  exact wpAny_pyNext_range_end (I.ok.hd hc) st (by have:n≤i:=hg;lia) λh' eb=>⟨rfl,I.turned (t':=s.toks) (λb o hb e=>eb b o hb e) f0 f1 f3 f4 f5⟩
 self:=λ_ _ _ _ _ st h=>wpAny_pyIter_rangeiter st h
def len2(lo hi:Int):Nat:=(VR lo hi 2).toNat
theorem _qF(lo hi:Int):((len2 lo hi:Nat):Int)=VR lo hi 2:=by
 unfold len2 VR;simp only[show(2:Int)>0 by decide,if_true]
 split<;>lia
theorem _i5(ha:0≤a)(ha':a<2^60)(hb:0≤b)(hb':b<2^60):Hl a b 2=true:=by
 unfold Hl VR;simp only[Builtin.Range.rangeFitsLong,XX,BQ,decide_eq_true_eq,beq_iff_eq,show(2:Int)>0 by decide,if_true]
 split<;>lia
theorem _ik{lo:Int}{t:Tok}(I:Inv X pins σ H s)(h1:0≤lo)(h2:lo<2^60)(h3:0≤hi)(h4:hi<2^60)
  (q:R (Itrs lo 2 (len2 lo hi)) H):X3 (X6 X.prog X.w) X.A (pyIter (.ref s.heap.objs.size)) (PIE X pins σ tg R) E {s with heap:=s.heap.push {cls:=.type "range",data:=.fields #[.int lo t,.int hi u,.int 2 v]},toks:=tk}:=by
 refine wpAny_pyIter_range (E3 ..) (_i5 h1 h2 h3 h4) ?_;have I1:Inv X pins σ H {s with heap:=s.heap.push {cls:=.type "range",data:=.fields #[.int lo t,.int hi u,.int 2 v]},toks:=tk}:=I.kept fun b o e=>Xp _ e;refine⟨(s.heap.push {cls:=.type "range",data:=.fields #[.int lo t,.int hi u,.int 2 v]}).objs.size,[(s.heap.push {cls:=.type "range",data:=.fields #[.int lo t,.int hi u,.int 2 v]}).objs.size],_,_,H,rfl,
  I1.kept (t':=tk) λb o e=>Xp _ e,_fi _ lo 2 (len2 lo hi),?_,λb hb=>?_,q⟩
 ·have e1:lo+((0:Nat):Int)*2=lo:=by simp
  have e2:((len2 lo hi:Nat):Int) - ((0:Nat):Int)=VR lo hi 2:=by rw[_qF];simp
  show IsRangeIter _ _ (lo+((0:Nat):Int)*2) (((len2 lo hi:Nat):Int) - ((0:Nat):Int)) 2;rw[e1,e2];exact XM _ rfl
 ·have e:b=(s.heap.push {cls:=.type "range",data:=.fields #[.int lo t,.int hi u,.int 2 v]}).objs.size:=by simpa using hb
  subst e;exact I1.fpOk (Xg _) (I1.hok.fresh (Xg _))
def ZrP(ta:TA):TI:=λσ H R=>ta σ H λvs H1=>∃i j:Int,vs=[.int i,.int j,.int 2]/\(0≤i/\i<2^60/\0≤j/\j<2^60)/\R (Itrs i 2 (len2 i j)) H1
theorem _is{a b c:Expr}{ta:TA}{p pos:Pos}(hg:Gl X "range")(hm:X.mg "range"=none)(ha:PA X [a,b,c] ta)(hs:Xw [a,b,c] X.env=[(false,eval a X.env),(false,eval b X.env),(false,eval c X.env)]:=by rfl)(hs2:Xw [b,c] X.env=[(false,eval b X.env),(false,eval c X.env)]:=by rfl):
  PI X tg (.Call (.Name "range" p) [a,b,c] [] pos) (ZrP ta):=by
 intro pins s σ H R I h;refine Call_ (_F I hg hm boot_range (V8 (thn (ha pos pins s σ H _ I h) λus s1 ⟨vs,H1,I1,r1,q1⟩=>?_) (by rw[hs,hs2]) (by rw[hs2];rfl)))
 obtain⟨i,j,e,⟨q1,q2,q3,q4⟩,q⟩:=q1;subst e;cases r1 with
 |cons r rr=>
  cases rr with
  |cons r' rr=>
   cases rr with
   |cons r'' rr=>
    cases rr;obtain⟨t,rfl⟩:=r;obtain⟨t',rfl⟩:=r';obtain⟨t'',rfl⟩:=r'';exact call_range_3 (by decide) (_ik (tk:=s1.toks) I1 q1 q2 q3 q4 q) (.inl (PyProof.noPylong_small (by decide)))
end
section
variable{prog:Xv}{w:Xm}{A:XB}{R:Result->X2->Prop}{I:Addr}{fp wr:List Addr}{n:Nat}{P:Nat->X0->Prop}{St:Nat->Heap->Prop}
end
section
variable{prog:Xv}{w:Xm}{A:XB}{E:X0->X2->Prop}{s:X2}
end
section
variable{X:Cx}{x k:Str}{p pos kp:Pos}{e e0:Expr}{te:TE}
end
end L2
namespace HT
open PySem PySem.Spec PyProof.Rows
section
variable{prog:Xv}{w:Xm}{A:XB}{E:X0->X2->Prop}{s:X2}
theorem tup_whole{t:Addr}{items:Array X0}{lo:Option Int}(ht:IsTup s.heap t items)(hs:s.heap.IsSliceOf sl vl vu .none)(pl:IsPart vl lo)(pu:IsPart vu hi)
  (h0:sIx items.size 0 lo=0) (h1:sIx items.size items.size hi=items.size) (h:Q (.ref t) s):X3 (X6 prog w) A (getItem (.ref t) (.ref sl)) Q E s:=by
 obtain⟨os,hos,hcs,hds⟩:=id hs;have hTs:s.TypeIs (.ref sl) "slice":=⟨os,hos,hcs⟩;have hT:=ht.typeIs;unfold getItem
 try with_reducible refine YH ?_
 first|refine X1 (X8 ?_)|skip
 refine X1 (wpAny_sequenceKey hT (by decide) ?_)
 refine X1 (Bv (name:=Yf "__getitem__") hT VQ (Z7 VQ hT entry_tuple_getitem ?_ (args_tuple_getitem _ _)));show X3 _ _ (Hm (.ref t)>>= _) _ _ s;refine X1 (tupleItemsOf_ ht ?_);refine X1 (Zx hTs ?_);rw[if_pos (by decide)]
 refine X1 (ID hs pl pu ?_);rw[h0,h1];show X3 _ _ (if(((0:Nat):Int)==0&&(1:Int)==1&&(items.size - 0)==items.size)=true then _ else _) _ _ s;rw[if_pos (by simp)]
 refine X1 ?_;show X3 _ _ (Ho (.ref t)) _ _ s;unfold Ho;refine X1 (Zx hT (X8 ?_));rw[if_pos (by decide)]
 exact X1 (Uz (X8 ⟨_,rfl,X8 h⟩))
end
end HT
namespace L2
open PySem PySem.Spec PyProof.Rows
section
variable{X:Cx}
def rSlW(K:X4):V->Option Int->Option Int->Hp->VK->Prop:=λx lo hi H Q=>∃a xs,x=.ref a/\SqT K H a xs/\HT.sIx xs.length 0 lo=0/\HT.sIx xs.length xs.length hi=xs.length/\Q (.ref a) H
theorem _ms:SlR X (rSlW X.K):=by
 intro pins s σ H x v vl vu lo hi sl Q I rx hs pl pu h;obtain⟨a,xs,rfl,hx,h0,h1,q⟩:=h;cases rx;obtain⟨its,r,ht,hz⟩:=I.tuple hx;have hlen:its.toArray.size=xs.length:=by rw[XQ];exact r.length.symm
 refine⟨"tuple",_,VQ.lookup,ht.typeIs,?_⟩;exact HT.tup_whole ht hs pl pu (by rw[hlen];exact h0) (by rw[hlen];exact h1) ⟨.ref a,H,I,rfl,q⟩
end
noncomputable def st3{α:Type}(xs:List α):List α:=(Xr ((xs.length+2)/3)).filterMap λk=>xs[3*k]?
section
variable{X:Cx}{e e3:Expr}{te:TE}{p2 pos:Pos}
end
section
variable{X:Cx}
end
inductive Ty7 where|int|bool|str|list|tuple|dict|none
  deriving DecidableEq
noncomputable def Ty7.name:Ty7->String
 |.int=>"int"|.bool=>"bool"|.str=>"str"|.list=>"list"|.tuple=>"tuple"|.dict=>"dict"|.none=>"NoneType"
inductive MV where
 |non|bl (b:Bool)|int (i:Int)|str (x:Str)|tup (xs:List MV)|frl (xs:List MV)|ref (a:Addr)|ty (n:Ty7)
def Ju:HO->Bool
 |.tup _=>true
 |.frz _ (.lst _)=>true
 |_=>false
def Kp(H H':Hp):Prop:=∀a o,H a=some o->Ju o=true->H' a=some o
theorem Kp.refl(H:Hp):Kp H H:=λ_ _ h _=>h
theorem Kp.trans(a:Kp H H1)(b:Kp H1 H2):Kp H H2:=λc o h f=>b c o (a c o h f) f
theorem Kp.new{H:Hp}{p:Addr}(h:H p=none)(o:HO):Kp H (upd H p o):=λa u e _=>by rw[XG (Va e h)];exact e
theorem Kp.upd{H:Hp}{p:Addr}{o:HO}(h:H p=some o)(f:Ju o=false)(o':HO):Kp H (upd H p o'):=λa u e g=>by
 rw[XG (HY e h (by intro z;rw[z,f]at g;cases g))];exact e
def FrL(K:X4)(H:Hp)(a:Addr)(vs:List V):Prop:=(∃o,H a=some (.frz o (.lst vs)))\/
 ∃(o:Obj) (its:Array X0) (n:Nat),K.lookup a=some o/\o.cls=.type "list"/\o.dict=none/\o.data=.seq its n/\its.size≤sizeLine/\Vals vs its.toList
theorem FrL.sq{K:X4}(h:FrL K H a vs):SqL K H a vs:=by
 rcases h with⟨o,h⟩|h
 ·exact .inl (.inr ⟨o,h⟩)
 ·exact .inr h
mutual
inductive RM (K:X4) (H:Hp):MV->V->Prop
 |non:RM K H .non .non
 |bl (b:Bool):RM K H (.bl b) (.bl b)
 |int (i:Int):RM K H (.int i) (.int i)
 |str (x:Str):RM K H (.str x) (.str x)
 |ref (a:Addr):RM K H (.ref a) (.ref a)
 |ty (n:Ty7):RM K H (.ty n) (.ty n.name)
 |tup {a:Addr} {xs:List MV} {vs:List V}:H a=some (.tup vs)->RMs K H xs vs->RM K H (.tup xs) (.ref a)
 |frl {a:Addr} {xs:List MV} {vs:List V}:FrL K H a vs->RMs K H xs vs->RM K H (.frl xs) (.ref a)
inductive RMs (K:X4) (H:Hp):List MV->List V->Prop
 |nil:RMs K H [] []
 |cons {x:MV} {v:V} {xs:List MV} {vs:List V}:RM K H x v->RMs K H xs vs->RMs K H (x::xs) (v::vs)
end
mutual
theorem RM.mono{K:X4}(k:Kp H H'):∀{m:MV} {v:V},RM K H m v->RM K H' m v
 |_,_,.non=>.non
 |_,_,.bl b=>.bl b
 |_,_,.int i=>.int i
 |_,_,.str x=>.str x
 |_,_,.ref a=>.ref a
 |_,_,.ty n=>.ty n
 |_,_,.tup h r=>.tup (k _ _ h rfl) (RMs.mono k r)
 |_,_,.frl h r=>.frl (by
   rcases h with⟨o,h⟩|h
   ·exact .inl ⟨o,k _ _ h rfl⟩
   ·exact .inr h) (RMs.mono k r)
theorem RMs.mono{K:X4}(k:Kp H H'):∀{m:List MV} {v:List V},RMs K H m v->RMs K H' m v
 |_,_,.nil=>.nil
 |_,_,.cons a b=>.cons (RM.mono k a) (RMs.mono k b)
end
theorem RMs.length{K:X4}:∀{m:List MV} {v:List V},RMs K H m v->m.length=v.length
 |_,_,.nil=>rfl
 |_,_,.cons _ b=>by rw[Yr,Yr,b.length]
theorem RMs.get{K:X4}:∀{m:List MV} {v:List V} {i:Nat} {x:MV},RMs K H m v->m[i]?=some x->∃u,v[i]?=some u/\RM K H x u
 |_,_,_,_,.nil,e=>by simp at e
 |_,_,0,_,.cons r _,e=>by simp at e;subst e;exact⟨_,rfl,r⟩
 |_,_,i+1,x,.cons _ t,e=>by
  obtain⟨u,h1,h2⟩:=RMs.get (i:=i) (x:=x) t (by simpa using e)
  exact⟨u,by simpa using h1,h2⟩
theorem RMs.get'{K:X4}:∀{m:List MV} {v:List V} {i:Nat} {u:V},RMs K H m v->v[i]?=some u->∃x,m[i]?=some x/\RM K H x u
 |_,_,_,_,.nil,e=>by simp at e
 |_,_,0,_,.cons r _,e=>by simp at e;subst e;exact⟨_,rfl,r⟩
 |_,_,i+1,x,.cons _ t,e=>by
  obtain⟨u,h1,h2⟩:=RMs.get' (i:=i) (u:=x) t (by simpa using e)
  exact⟨u,by simpa using h1,h2⟩
theorem RMs.append{K:X4}:∀{m m':List MV} {v v':List V},RMs K H m v->RMs K H m' v'->RMs K H (m++m') (v++v')
 |_,_,_,_,.nil,s=>s
 |_,_,_,_,.cons r t,s=>.cons r (t.append s)
theorem RMs.take{K:X4}:∀{m:List MV} {v:List V} (n:Nat),RMs K H m v->RMs K H (m.take n) (v.take n)
 |_,_,0,_=>.nil
 |_,_,_+1,.nil=>.nil
 |_,_,n+1,.cons r t=>.cons r (t.take n)
theorem RMs.drop{K:X4}:∀{m:List MV} {v:List V} (n:Nat),RMs K H m v->RMs K H (m.drop n) (v.drop n)
 |_,_,0,r=>r
 |_,_,_+1,.nil=>.nil
 |_,_,n+1,.cons _ t=>t.drop n
theorem RMs.set{K:X4}(r:RM K H x u):∀{m:List MV} {v:List V} (i:Nat),RMs K H m v->RMs K H (m.set i x) (v.set i u)
 |_,_,_,.nil=>.nil
 |_,_,0,.cons _ t=>.cons r t
 |_,_,i+1,.cons q t=>.cons q (t.set r i)
theorem RMs.ints{K:X4}:∀ns:List Int,RMs K H (ns.map MV.int) (ns.map V.int)
 |[]=>.nil
 |n::r=>.cons (.int n) (RMs.ints r)
theorem RMs.map_of{K:X4}{H:Hp}{α:Type}{f:α->MV}{g:α->V}(hf:∀a v,RM K H (f a) v->v=g a):∀{ns:List α} {vs:List V},RMs K H (ns.map f) vs->vs=ns.map g:=by
 intro ns
 induction ns with
 |nil=>intro vs h;cases h;rfl
 |cons n r ih=>
  intro vs h;have h:RMs K H (f n::r.map f) vs:=h;cases h with
  |cons x t=>rw[ih t,hf _ _ x];rfl
theorem RMs.ints_of{K:X4}{H:Hp}{ns:List Int}{vs:List V}(h:RMs K H (ns.map MV.int) vs):vs=ns.map V.int:=h.map_of λ_ _ x=>by cases x;rfl
inductive MO where
 |lst (xs:List MV)|dic (kvs:List (Key×MV))|ins (c:Str) (fs:List (Str×MV))
 |fdic (o:Obj) (kvs:List (Key×MV))
abbrev MH:=Addr->Option MO
def updM(M:MH)(a:Addr)(o:MO):MH:=λb=>if b=a then some o else M b
theorem X9:updM M a o a=some o:=by unfold updM;rw[if_pos rfl]
theorem Xb(h:b≠a):updM M a o b=M b:=by unfold updM;rw[if_neg h]
theorem YF:updM (updM M a o) a u=updM M a u:=by funext b;unfold updM;split<;>rfl
inductive RKs {κ:Type} (K:X4) (H:Hp):List (κ×MV)->List (κ×V)->Prop
 |nil:RKs K H [] []
 |cons {k:κ} {x:MV} {v:V} {xs:List (κ×MV)} {vs:List (κ×V)}:RM K H x v->RKs K H xs vs->RKs K H ((k,x)::xs) ((k,v)::vs)
theorem RKs.mono{κ:Type}{K:X4}(k:Kp H H'):∀{m:List (κ×MV)} {v:List (κ×V)},RKs K H m v->RKs K H' m v
 |_,_,.nil=>.nil
 |_,_,.cons a b=>.cons (a.mono k) (b.mono k)
theorem RKs.length{κ:Type}{K:X4}:∀{m:List (κ×MV)} {v:List (κ×V)},RKs K H m v->m.length=v.length
 |_,_,.nil=>rfl
 |_,_,.cons _ b=>by rw[Yr,Yr,b.length]
section
variable{κ:Type} [DecidableEq κ]
noncomputable def valM(kvs:List (κ×MV))(k:κ):Option MV:=match kvs with
 |[]=>none
 |(j,v)::r=>if j=k then some v else valM r k
noncomputable def putM(kvs:List (κ×MV))(k:κ)(v:MV):List (κ×MV):=match kvs with
 |[]=>[(k,v)]
 |(j,u)::r=>if j=k then(j,v)::r else(j,u)::putM r k v
end
def RO(K:X4)(H:Hp):MO->HO->Prop
 |.lst xs,.lst vs=>RMs K H xs vs
 |.dic kvs,.dK vs=>RKs K H kvs vs/\(kvs.map (·.1)).Nodup
 |.ins c fs,.ins C _ vs=>XA K Xo c=some (some (.ref C))/\RKs K H fs vs
 |.fdic o kvs,.frz o' (.dK vs)=>o=o'/\RKs K H kvs vs/\(kvs.map (·.1)).Nodup
 |_,_=>False
theorem RO.mono{K:X4}(k:Kp H H')(h:RO K H o u):RO K H' o u:=by
 cases o with
 |lst xs=>cases u<;>first|exact RMs.mono k h|exact h.elim
 |dic kvs=>cases u<;>first|exact⟨h.1.mono k,h.2⟩|exact h.elim
 |ins c fs=>cases u<;>first|exact⟨h.1,h.2.mono k⟩|exact h.elim
 |fdic ob kvs=>
  cases u with
  |frz o' u=>cases u<;>first|exact⟨h.1,h.2.1.mono k,h.2.2⟩|exact h.elim
  |_=>exact h.elim
def RH(K:X4)(M:MH)(H:Hp):Prop:=∀a o,M a=some o->∃u,H a=some u/\RO K H o u
theorem RH.free{K:X4}(r:RH K M H)(h:H p=none):M p=none:=by
 cases e:M p with
 |none=>rfl
 |some o=>obtain⟨u,hu,_⟩:=r p o e;rw[hu]at h;cases h
theorem RH.lst{K:X4}(r:RH K M H)(h:M p=some (.lst xs)):∃vs,H p=some (.lst vs)/\RMs K H xs vs:=by
 obtain⟨u,hu,ro⟩:=r p _ h;cases u<;>try exact ro.elim
 exact⟨_,hu,ro⟩
theorem RH.dic{K:X4}(r:RH K M H)(h:M p=some (.dic xs)):∃vs,H p=some (.dK vs)/\RKs K H xs vs/\(xs.map (·.1)).Nodup:=by
 obtain⟨u,hu,ro⟩:=r p _ h;cases u<;>try exact ro.elim
 exact⟨_,hu,ro.1,ro.2⟩
theorem RH.fdic{K:X4}(r:RH K M H)(h:M p=some (.fdic o xs)):∃vs,H p=some (.frz o (.dK vs))/\RKs K H xs vs/\(xs.map (·.1)).Nodup:=by
 obtain⟨u,hu,ro⟩:=r p _ h;cases u with
 |frz o' u=>
  cases u<;>try exact ro.elim
  obtain⟨rfl,r1,r2⟩:=ro;exact⟨_,hu,r1,r2⟩
 |_=>exact ro.elim
theorem RH.ins{K:X4}(r:RH K M H){fs:List (Str×MV)}(h:M p=some (.ins c fs)):∃C dx vs,H p=some (.ins C dx vs)/\XA K Xo c=some (some (.ref C))/\RKs K H fs vs:=by
 obtain⟨u,hu,ro⟩:=r p _ h;cases u<;>try exact ro.elim
 exact⟨_,_,_,hu,ro.1,ro.2⟩
theorem Cy{K:X4}{H:Hp}{f:Str}:∀{m:List (Str×MV)} {v:List (Str×V)},RKs K H m v->(valM m f=none/\v.lookup f=none)\/∃x u,valM m f=some x/\v.lookup f=some u/\RM K H x u
 |_,_,.nil=>.inl ⟨rfl,rfl⟩
 |_,_,.cons (k:=j) (x:=x) (v:=u) r t=>by
  by_cases e:j=f
  ·refine .inr ⟨x,u,?_,?_,r⟩
   ·unfold valM;rw[if_pos e]
   ·subst e;simp
  ·have:=Cy (f:=f) t;have e2:(f==j)=false:=by simpa using λz=>e z.symm
   unfold valM;rw[if_neg e,Zj,e2];exact this
theorem Jv{K:X4}{H:Hp}{f:Str}{x:MV}{u:V}(r:RM K H x u):∀{m:List (Str×MV)} {v:List (Str×V)},RKs K H m v->RKs K H (putM m f x) (putF f u v)
 |_,_,.nil=>.cons r .nil
 |_,_,.cons (k:=j) q t=>by
  unfold putM putF;by_cases e:j=f
  ·rw[if_pos e,if_pos e];exact .cons r t
  ·rw[if_neg e,if_neg e];exact .cons q (Jv r t)
theorem RH.put{K:X4}(r:RH K M H)(k:Kp H (upd H p u))(ro:RO K (upd H p u) o u):RH K (updM M p o) (upd H p u):=by
 intro a o' e;by_cases h:a=p
 ·subst h;rw[X9]at e;cases e;exact⟨u,_c,ro⟩
 ·rw[Xb h]at e;obtain⟨v,hv,rv⟩:=r a o' e;exact⟨v,by rw[XG h];exact hv,rv.mono k⟩
theorem RH.kept{K:X4}{M:MH}{H:Hp}(r:RH K M H){p:Addr}(hp:H p=none)(u:HO):RH K M (upd H p u):=by
 intro a o' e;obtain⟨v,hv,rv⟩:=r a o' e;exact⟨v,by rw[XG (Va hv hp)];exact hv,rv.mono (Kp.new hp u)⟩
abbrev Sm:=List (Option MV)
abbrev QM:=MV->MH->Prop
abbrev TEm:=Sm->MH->QM->Prop
abbrev TAm:=Sm->MH->(List MV->MH->Prop)->Prop
def RS(K:X4)(H:Hp)(σm:Sm)(σ:St):Prop:=σm.length=σ.length/\∀(i:Nat) (m:MV),σm[i]?=some (some m)->∃v,σ[i]?=some (some v)/\RM K H m v
theorem RS.mono{K:X4}(k:Kp H H')(h:RS K H σm σ):RS K H' σm σ:=⟨h.1,λi m e=>by
 obtain⟨v,hv,r⟩:=h.2 i m e;exact⟨v,hv,r.mono k⟩⟩
theorem RS.set{K:X4}(h:RS K H σm σ)(r:RM K H m v)(i:Nat):RS K H (σm.set i (some m)) (σ.set i (some v)):=by
 refine⟨by simp[h.1],λj x e=>?_⟩
 rw[Vz]at e;by_cases hij:i=j
 ·subst hij;rw[if_pos rfl]at e;split at e
  ·cases e;exact⟨v,by rw[Vz,if_pos rfl,if_pos (by rw[<- h.1];assumption)],r⟩
  ·cases e
 ·rw[if_neg hij]at e;obtain⟨u,hu,ru⟩:=h.2 j x e;exact⟨u,by rw[Vz,if_neg hij];exact hu,ru⟩
def Dn(K:X4)(H:Hp)(Q:VK):QM:=λm M=>∀v H',Kp H H'->RM K H' m v->RH K M H'->Q v H'
theorem Dn.on{K:X4}(k:Kp H H1)(h:Dn K H Q m M):Dn K H1 Q m M:=λv H' k' r rh=>h v H' (k.trans k') r rh
def liE(K:X4)(t:TEm):TE:=λσ H Q=>∃σm M,RS K H σm σ/\RH K M H/\t σm M (Dn K H Q)
def liA(K:X4)(t:TAm):TA:=λσ H Q=>∃σm M,RS K H σm σ/\RH K M H/\t σm M (λms M'=>∀vs H',Kp H H'->RMs K H' ms vs->RH K M' H'->Q vs H')
def MonE(t:TEm):Prop:=∀{σ M} {Q Q':QM},(∀m M',Q m M'->Q' m M')->t σ M Q->t σ M Q'
def MonA(t:TAm):Prop:=∀{σ M} {Q Q':List MV->MH->Prop},(∀m M',Q m M'->Q' m M')->t σ M Q->t σ M Q'
abbrev W1:=MV->MH->QM->Prop
abbrev W2:=MV->MV->MH->QM->Prop
abbrev WA:=List MV->MH->QM->Prop
def Mon1(w:W1):Prop:=∀{x M} {Q Q':QM},(∀m M',Q m M'->Q' m M')->w x M Q->w x M Q'
def Mon2(w:W2):Prop:=∀{x y M} {Q Q':QM},(∀m M',Q m M'->Q' m M')->w x y M Q->w x y M Q'
def MonW(w:WA):Prop:=∀{xs M} {Q Q':QM},(∀m M',Q m M'->Q' m M')->w xs M Q->w xs M Q'
def li1(K:X4)(w:W1):V->Hp->VK->Prop:=λx H Q=>∃mx M,RM K H mx x/\RH K M H/\w mx M (Dn K H Q)
def li2(K:X4)(w:W2):R2:=λx y H Q=>∃mx my M,RM K H mx x/\RM K H my y/\RH K M H/\w mx my M (Dn K H Q)
def liW(K:X4)(w:WA):List V->Hp->VK->Prop:=λxs H Q=>∃ms M,RMs K H ms xs/\RH K M H/\w ms M (Dn K H Q)
section
variable{K:X4}
theorem Ek{ta tb:TEm}{w:W2}(ma:MonE ta)(mb:MonE tb)(mw:Mon2 w){σ:St}{H:Hp}{Q:VK}
  (h:liE K (λσ M Q=>ta σ M λx M1=>tb σ M1 λy M2=>w x y M2 Q) σ H Q):tOp (li2 K w) (liE K ta) (liE K tb) σ H Q:=by
 obtain⟨σm,M,rs,rh,h⟩:=h;refine⟨σm,M,rs,rh,ma (λx M1 h1=>?_) h⟩;intro v H1 k1 r1 rh1;refine⟨σm,M1,rs.mono k1,rh1,mb (λy M2 h2=>?_) h1⟩;intro u H2 k2 r2 rh2;exact⟨x,y,M2,r1.mono k2,r2,rh2,mw (λm M' hq=>hq.on (k1.trans k2)) h2⟩
end
theorem PE.weak{t:TE}(h:PE X e t)(i:∀σ H Q,t' σ H Q->t σ H Q):PE X e t':=λpins s σ H Q I q=>h pins s σ H Q I (i _ _ _ q)
theorem PT.weak{t:TT}(h:PT X e t)(i:∀σ H Q,t' σ H Q->t σ H Q):PT X e t':=λpins s σ H Q I q=>h pins s σ H Q I (i _ _ _ q)
theorem PW.weak{t:TT}(h:PW X e t)(i:∀σ H Q,t' σ H Q->t σ H Q):PW X e t':=λwh pins s σ H Q I q=>h wh pins s σ H Q I (i _ _ _ q)
theorem PA.weak{t:TA}(h:PA X e t)(i:∀σ H Q,t' σ H Q->t σ H Q):PA X e t':=λpos pins s σ H Q I q=>h pos pins s σ H Q I (i _ _ _ q)
theorem PS.weak{t:TS}(h:PS X e t)(i:∀D σ H,t' D σ H->t D σ H):PS X e t':=λpins s σ H D I q=>h pins s σ H D I (i _ _ _ q)
theorem PSs.weak{t:TS}(h:PSs X e t)(i:∀D σ H,t' D σ H->t D σ H):PSs X e t':=λpins s σ H D I q=>h pins s σ H D I (i _ _ _ q)
def intsM(k:Int->Int->Prop)(x y:MV):Prop:=match x,y with
 |.int i,.int j=>k i j
 |_,_=>False
theorem intsM.of{k:Int->Int->Prop}{x y:MV}(h:intsM k x y):∃i j,x=.int i/\y=.int j/\k i j:=by
 unfold intsM at h;split at h
 ·exact⟨_,_,rfl,rfl,h⟩
 ·exact h.elim
def addM(x y:MV)(M:MH)(Q:QM):Prop:=match x,y with
 |.int i,.int j=>Q (.int (i+j)) M
 |.str i,.str j=>i.length+j.length≤sizeLine/\Q (.str (i++j)) M
 |.tup xs,.tup ys=>xs≠ []/\xs.length+ys.length≤sizeLine/\Q (.tup (xs++ys)) M
 |_,_=>False
def mulM(x y:MV)(M:MH)(Q:QM):Prop:=match x,y with
 |.int i,.int j=>CMul i j/\Q (.int (i*j)) M
 |.str z,.int i=>z.length≤16/\ -1000≤i/\i≤1000/\Q (.str (Txt.mul z i)) M
 |.tup xs,.int k=>xs≠ []/\1≤k/\xs.length*k.toNat≤1000000/\Q (.tup (Xi k.toNat xs).flatten) M
 |.ref a,.int k=>∃xs,M a=some (.lst xs)/\ -(2^63)≤k/\k<2^63/\xs.length*k.toNat≤sizeLine/\∀p,M p=none->Q (.ref p) (updM M p (.lst (Xi k.toNat xs).flatten))
 |_,_=>False
def wBin(op:Uv)(x y:MV)(M:MH)(Q:QM):Prop:=match op with
 |.Add=>addM x y M Q
 |.Mult=>mulM x y M Q
 |.Sub=>intsM (λi j=>Q (.int (i - j)) M) x y
 |.FloorDiv=>intsM (λi j=>WM i j/\Q (.int (i/j)) M) x y
 |.Mod=>intsM (λi j=>0<j/\Q (.int (i%j)) M) x y
 |.Pow=>intsM (λi j=>CPow i j/\Q (.int (i^j.toNat)) M) x y
 |.LShift=>intsM (λi j=>CPow i j/\Q (.int (i*2^j.toNat)) M) x y
 |.BitAnd=>intsM (λi j=>Q (.int (Cj i j)) M) x y
 |.BitXor=>intsM (λi j=>Q (.int (Ck i j)) M) x y
 |_=>False
theorem _ns:Mon2 addM:=by
 intro x y M Q Q' hq h;unfold addM at h ⊢;split at h
 all_goals first
  |exact hq _ _ h
  |exact h.elim
  |exact⟨h.1,hq _ _ h.2⟩
  |exact⟨h.1,h.2.1,hq _ _ h.2.2⟩
  |(obtain⟨xs,ys,h1,h2,h3,h4⟩:=h
    exact⟨xs,ys,h1,h2,h3,λp hp=>hq _ _ (h4 p hp)⟩)
  |(obtain⟨ys,h2,h3,h4⟩:=h
    exact⟨ys,h2,h3,λp hp=>hq _ _ (h4 p hp)⟩)
theorem _nq:Mon2 mulM:=by
 intro x y M Q Q' hq h;unfold mulM at h ⊢;split at h
 all_goals first
  |exact h.elim
  |exact⟨h.1,hq _ _ h.2⟩
  |exact⟨h.1,h.2.1,h.2.2.1,hq _ _ h.2.2.2⟩
  |(obtain⟨ys,h2,h3,h4,h5,h6⟩:=h
    exact⟨ys,h2,h3,h4,h5,λp hp=>hq _ _ (h6 p hp)⟩)
theorem Jw(op:Uv):Mon2 (wBin op):=by
 intro x y M Q Q' hq h;cases op
 all_goals first
  |exact Y7 h
  |exact _ns hq h
  |exact _nq hq h
  |(obtain⟨i,j,rfl,rfl,h⟩:=intsM.of h
    exact hq _ _ h)
  |(obtain⟨i,j,rfl,rfl,h⟩:=intsM.of h
    exact⟨h.1,hq _ _ h.2⟩)
theorem RMs.rep{K:X4}(q:RMs K H xs vs):∀k:Nat,RMs K H (Xi k xs).flatten (Xi k vs).flatten
 |0=>.nil
 |k+1=>by
  rw[Za,Za,ZA,ZA];exact q.append (q.rep k)
section
variable{X:Cx}
set_option tactic.hygienic true in
theorem _na:OpR X (Yi .Add) (li2 X.K addM):=by
 intro pins s σ H x y v u Q I rx ry h;obtain⟨mx,my,M,r1,r2,rh,h⟩:=h;unfold addM at h;split at h
 ·cases r1;cases r2;exact SN pins s σ H _ _ v u Q I rx ry ⟨_,_,rfl,rfl,h _ _ (Kp.refl _) (.int _) rh⟩
 ·cases r1;cases r2;exact T9 pins s σ H _ _ v u Q I rx ry ⟨_,_,rfl,rfl,h.1,h.2 _ _ (Kp.refl _) (.str _) rh⟩
 ·rename_i xs ys
  cases r1 with
  |tup h1 q1=>
   rename_i a vs
   cases r2 with
   |tup h2 q2=>
    rename_i b us
    obtain⟨h3,h4,h5⟩:=h;refine TY pins s σ H _ _ v u Q I rx ry ⟨_,_,vs,us,rfl,rfl,SqT.of h1,SqT.of h2,λz=>h3 ?_,by rw[<- q1.length,<- q2.length];exact h4,λz=>?_,λz p hp=>?_⟩
    ·subst z;cases q1;rfl
    ·subst z;cases q2;rw[VC]at h5;exact h5 _ _ (Kp.refl _) (.tup h1 q1) rh
    ·have k:=Kp.new hp (.tup (vs++us));exact h5 _ _ k (.tup _c ((q1.append q2).mono k)) (rh.kept hp _)
 ·exact h.elim
set_option tactic.hygienic true in
theorem _n7:OpR X (Yi .Mult) (li2 X.K mulM):=by
 intro pins s σ H x y v u Q I rx ry h;obtain⟨mx,my,M,r1,r2,rh,h⟩:=h;unfold mulM at h;split at h
 ·cases r1;cases r2;exact SQ pins s σ H _ _ v u Q I rx ry ⟨_,_,rfl,rfl,h.1,h.2 _ _ (Kp.refl _) (.int _) rh⟩
 ·cases r1;cases r2;exact _n6 pins s σ H _ _ v u Q I rx ry ⟨_,_,rfl,rfl,h.1,h.2.1,h.2.2.1,h.2.2.2 _ _ (Kp.refl _) (.str _) rh⟩
 ·rename_i xs k
  cases r2;cases r1 with
  |tup h1 q1=>
   rename_i a vs
   obtain⟨h3,h4,h5,h6⟩:=h;refine _n5 pins s σ H _ _ v u Q I rx ry ⟨_,_,vs,rfl,rfl,SqT.of h1,λz=>h3 ?_,h4,by rw[<- q1.length];exact h5,λz=>?_,λz p hp=>?_⟩
   ·subst z;cases q1;rfl
   ·subst z;have e:(Xi (1:Int).toNat xs).flatten=xs:=by simp
    rw[e]at h6;exact h6 _ _ (Kp.refl _) (.tup h1 q1) rh
   ·have kk:=Kp.new hp (.tup (Xi k.toNat vs).flatten);exact h6 _ _ kk (.tup _c ((q1.rep k.toNat).mono kk)) (rh.kept hp _)
 ·rename_i a k
  cases r1;cases r2;obtain⟨xs,h1,h2,h3,h4,h5⟩:=h;obtain⟨vs,e1,q1⟩:=rh.lst h1;refine _pA pins s σ H _ _ v u Q I rx ry ⟨_,_,vs,rfl,rfl,e1,h2,h3,by rw[<- q1.length];exact h4,λp hp=>?_⟩
  have kk:=Kp.new hp (.lst (Xi k.toNat vs).flatten);exact h5 p (rh.free hp) _ _ kk (.ref p) (rh.put kk ((q1.rep k.toNat).mono kk))
 ·exact h.elim
theorem _pF(op:Uv):OpR X (Yi op) (li2 X.K (wBin op)):=by
 cases op with
 |Add=>exact _na
 |Mult=>exact _n7
 |Sub=>
  intro pins s σ H x y v u Q I rx ry h;obtain⟨mx,my,M,r1,r2,rh,h⟩:=h;obtain⟨i,j,rfl,rfl,h⟩:=intsM.of h;cases r1;cases r2;exact SO pins s σ H _ _ v u Q I rx ry ⟨_,_,rfl,rfl,h _ _ (Kp.refl _) (.int _) rh⟩
 |FloorDiv=>
  intro pins s σ H x y v u Q I rx ry h;obtain⟨mx,my,M,r1,r2,rh,h⟩:=h;obtain⟨i,j,rfl,rfl,h⟩:=intsM.of h;cases r1;cases r2;exact _kE pins s σ H _ _ v u Q I rx ry ⟨_,_,rfl,rfl,h.1,h.2 _ _ (Kp.refl _) (.int _) rh⟩
 |Mod=>
  intro pins s σ H x y v u Q I rx ry h;obtain⟨mx,my,M,r1,r2,rh,h⟩:=h;obtain⟨i,j,rfl,rfl,h⟩:=intsM.of h;cases r1;cases r2;exact SR pins s σ H _ _ v u Q I rx ry ⟨_,_,rfl,rfl,h.1,h.2 _ _ (Kp.refl _) (.int _) rh⟩
 |Pow=>
  intro pins s σ H x y v u Q I rx ry h;obtain⟨mx,my,M,r1,r2,rh,h⟩:=h;obtain⟨i,j,rfl,rfl,h⟩:=intsM.of h;cases r1;cases r2;exact SS pins s σ H _ _ v u Q I rx ry ⟨_,_,rfl,rfl,h.1,h.2 _ _ (Kp.refl _) (.int _) rh⟩
 |LShift=>
  intro pins s σ H x y v u Q I rx ry h;obtain⟨mx,my,M,r1,r2,rh,h⟩:=h;obtain⟨i,j,rfl,rfl,h⟩:=intsM.of h;cases r1;cases r2;exact ST pins s σ H _ _ v u Q I rx ry ⟨_,_,rfl,rfl,h.1,h.2 _ _ (Kp.refl _) (.int _) rh⟩
 |BitAnd=>
  intro pins s σ H x y v u Q I rx ry h;obtain⟨mx,my,M,r1,r2,rh,h⟩:=h;obtain⟨i,j,rfl,rfl,h⟩:=intsM.of h;cases r1;cases r2;exact SU pins s σ H _ _ v u Q I rx ry ⟨_,_,rfl,rfl,h _ _ (Kp.refl _) (.int _) rh⟩
 |BitXor=>
  intro pins s σ H x y v u Q I rx ry h;obtain⟨mx,my,M,r1,r2,rh,h⟩:=h;obtain⟨i,j,rfl,rfl,h⟩:=intsM.of h;cases r1;cases r2;exact SV pins s σ H _ _ v u Q I rx ry ⟨_,_,rfl,rfl,h _ _ (Kp.refl _) (.int _) rh⟩
 |_=>
  intro pins s σ H x y v u Q I rx ry h;obtain⟨_,_,_,_,_,_,h⟩:=h;exact Y7 h
end
noncomputable def eqS(x y:MV):Option Bool:=match x with
 |.int i=>(match y with|.int j=>some (decide (i=j))|.non=>some false|.str _=>some false|_=>none)
 |.str i=>(match y with|.str j=>some (decide (i=j))|.non=>some false|.int _=>some false|.bl _=>some false|_=>none)
 |.bl i=>(match y with|.bl j=>some (decide (i=j))|.non=>some false|.str _=>some false|_=>none)
 |.non=>(match y with|.non=>some true|.int _=>some false|.bl _=>some false|.str _=>some false|_=>none)
 |_=>none
theorem Jx{K:X4}(h:eqS x y=some b)(r:RM K H x u)(q:RM K H y v):scal u v=true/\decide (u=v)=b:=by
 cases r
 all_goals first
  |exact nomatch (show none=some b from h)
  |skip
 all_goals
  cases q
  all_goals first
   |exact nomatch (show none=some b from h)
   |(obtain rfl:=Yb (show some false=some b from h);exact⟨rfl,rfl⟩)
   |(obtain rfl:=Yb (show some true=some b from h);exact⟨rfl,rfl⟩)
   |(obtain rfl:=Yb h;exact⟨rfl,decide_eq_decide.mpr ⟨V.int.inj,λe=>by rw[e]⟩⟩)
   |(obtain rfl:=Yb h;exact⟨rfl,decide_eq_decide.mpr ⟨V.str.inj,λe=>by rw[e]⟩⟩)
   |(obtain rfl:=Yb h;exact⟨rfl,decide_eq_decide.mpr ⟨V.bl.inj,λe=>by rw[e]⟩⟩)
def LstM(M:MH)(x:MV)(xs:List MV):Prop:=x=.frl xs\/∃a,x=.ref a/\M a=some (.lst xs)
def YG:MV->Bool
 |.non=>true|.bl _=>true|.int _=>true|.str _=>true|_=>false
def Alike(M:MH):Nat->MV->MV->Prop
 |0,x,y=>YG x=true/\x=y
 |n+1,x,y=>(YG x=true/\x=y)\/(∃xs ys,x=.tup xs/\y=.tup ys/\xs.length=ys.length/\∀(i:Nat) u v,xs[i]?=some u->ys[i]?=some v->Alike M n u v)\/
  (∃xs ys,LstM M x xs/\LstM M y ys/\xs.length=ys.length/\∀(i:Nat) u v,xs[i]?=some u->ys[i]?=some v->Alike M n u v)\/
  ∃a b ka kb,x=.ref a/\y=.ref b/\M a=some (.dic ka)/\M b=some (.dic kb)/\ka.length=kb.length/\∀k u,(k,u)∈ka->∃v,valM kb k=some v/\Alike M n u v
def wEq(x y:MV)(M:MH)(k:Bool->Prop):Prop:=match eqS x y with
 |some b=>k b
 |none=>(∃n≤60,Alike M n x y/\k true)\/(∃a b xs,x=.ref a/\y=.ref b/\M a=some (.lst xs)/\M b=some (.lst [])/\k xs.isEmpty)\/False\/False
def toV:MV->V
 |.non=>.non|.bl b=>.bl b|.int i=>.int i|.str x=>.str x|_=>.non
theorem Ua{K:X4}(f:YG m=true)(r:RM K H m v):v=toV m/\ZI v=true:=by
 cases r<;>first|exact⟨rfl,rfl⟩|cases f
theorem Vf{K:X4}:∀{m:List MV} {v:List V},m.all YG=true->RMs K H m v->v=m.map toV/\v.all ZI=true
 |_,_,_,.nil=>⟨rfl,rfl⟩
 |_,_,f,.cons r t=>by
  rw[UW,XX]at f;obtain⟨e,g⟩:=Ua f.1 r;obtain⟨e2,g2⟩:=Vf f.2 t;subst e e2;exact⟨rfl,by rw[UW,g,g2];rfl⟩
def keyM:MV->Option Key
 |.int i=>some (.inl i)
 |.str x=>some (.inr x)
 |_=>none
theorem WT{K:X4}{k:Key}(e:keyM m=some k)(r:RM K H m v):v=kV k:=by
 cases r<;>cases e<;>rfl
theorem W6{K:X4}{k:Key}:∀{m:List (Key×MV)} {v:List (Key×V)},RKs K H m v->(valM m k=none/\valV v k=none)\/∃x u,valM m k=some x/\valV v k=some u/\RM K H x u
 |_,_,.nil=>.inl ⟨rfl,rfl⟩
 |_,_,.cons (k:=j) (x:=x) (v:=u) r t=>by
  by_cases e:j=k
  ·refine .inr ⟨x,u,?_,Co (p:=(j,u)) e,r⟩;unfold valM;rw[if_pos e]
  ·have:=W6 (k:=k) t;unfold valM;rw[if_neg e,Cp (p:=(j,u)) e];exact this
theorem Jy{K:X4}{k:Key}:∀{m:List (Key×MV)} {v:List (Key×V)},RKs K H m v->(v.any λkv=>decide (kv.1=k))=(m.any λkv=>decide (kv.1=k))
 |_,_,.nil=>rfl
 |_,_,.cons r t=>by rw[ZB,ZB,Jy t]
theorem El{K:X4}{k:Key}(r:RM K H x u):∀{m:List (Key×MV)} {v:List (Key×V)},RKs K H m v->
  RKs K H (m.map λkv=>if kv.1=k then(kv.1,x)else kv) (v.map λkv=>if kv.1=k then(kv.1,u)else kv)
 |_,_,.nil=>.nil
 |_,_,.cons (k:=j) q t=>by
  rw[Xy,Xy];by_cases e:j=k
  ·rw[if_pos e,if_pos e];exact .cons r (El r t)
  ·rw[if_neg e,if_neg e];exact .cons q (El r t)
theorem Jz{κ:Type}{K:X4}:∀{m m':List (κ×MV)} {v v':List (κ×V)},RKs K H m v->RKs K H m' v'->RKs K H (m++m') (v++v')
 |_,_,_,_,.nil,s=>s
 |_,_,_,_,.cons r t,s=>.cons r (Jz t s)
theorem JA{κ:Type} [DecidableEq κ] {k:κ}:∀{m:List (κ×MV)},¬k∈m.map (·.1)->(m.map λkv=>if kv.1=k then(kv.1,x)else kv)=m
 |[],_=>rfl
 |(j,y)::r,h=>by
  rw[Xy,if_neg (λe=>h (by simp[show j=k from e])),JA (λe=>h (by simp[e]))]
theorem JB{κ:Type} [DecidableEq κ] {k:κ}:∀{m:List (κ×MV)},(m.map (·.1)).Nodup->putM m k x=if(m.any λkv=>decide (kv.1=k))=true then m.map (λkv=>if kv.1=k then(kv.1,x)else kv)else m++[(k,x)]
 |[],_=>rfl
 |(j,y)::r,h=>by
  rw[Xy,YB]at h;unfold putM;rw[ZB];by_cases e:j=k
  ·subst e;rw[if_pos rfl,if_pos (by simp),Xy,if_pos rfl,JA h.1]
  ·rw[if_neg e,JB h.2,show decide ((j,y).1=k)=false from decide_eq_false e,DI,Xy,if_neg (show¬(j,y).1=k from e)];split<;>rfl
theorem JC{κ:Type} [DecidableEq κ] {k:κ}:∀(m:List (κ×MV)),((putM m k x).map (·.1))=if k∈m.map (·.1)then m.map (·.1)else m.map (·.1)++[k]
 |[]=>rfl
 |(j,y)::r=>by
  unfold putM;by_cases e:j=k
  ·subst e;simp
  ·rw[if_neg e,Xy,JC r,Xy];have e':k≠j:=λz=>e z.symm;by_cases m:k∈r.map (·.1)
   ·rw[if_pos m,if_pos (Xl.mpr (.inr m))]
   ·rw[if_neg m,if_neg (λz=>(Xl.mp z).elim e' m)];rfl
theorem JD{K:X4}{k:Key}(r:RM K H x u)(nd:(m.map (·.1)).Nodup)(h:RKs K H m v):
  RKs K H (putM m k x) (putK v k u)/\((putM m k x).map (·.1)).Nodup:=by
 refine⟨?_,?_⟩
 ·rw[JB nd];unfold putK;rw[Jy h];split
  ·exact El r h
  ·exact Jz h (.cons r .nil)
 ·rw[JC];split
  ·exact nd
  ·exact J0 nd (by assumption)
def wIn(x y:MV)(M:MH)(k:Bool->Prop):Prop:=match y with
 |.tup xs=>YG x=true/\xs.all YG=true/\k (inV (toV x) (xs.map toV))
 |.frl xs=>YG x=true/\xs.all YG=true/\k (inV (toV x) (xs.map toV))
 |.ref a=>(∃xs,M a=some (.lst xs)/\YG x=true/\xs.all YG=true/\k (inV (toV x) (xs.map toV)))\/∃kvs kk,M a=some (.dic kvs)/\keyM x=some kk/\k (valM kvs kk).isSome
 |_=>False
def UI:MV->Bool
 |.non=>true|_=>false
def isBl(b:Bool):MV->Bool
 |.bl c=>decide (c=b)
 |_=>false
def wCmp(op:CmpOp)(x y:MV)(M:MH)(Q:QM):Prop:=match op with
 |.Lt=>∃i j,x=.int i/\y=.int j/\Q (.bl (decide (i<j))) M
 |.LtE=>(∃i j,x=.int i/\y=.int j/\Q (.bl (decide (i≤j))) M)\/∃i j,x=.str i/\y=.str j/\Q (.bl (!decide (j.cps.toList<i.cps.toList))) M
 |.Gt=>∃i j,x=.int i/\y=.int j/\Q (.bl (decide (j<i))) M
 |.GtE=>∃i j,x=.int i/\y=.int j/\Q (.bl (decide (j≤i))) M
 |.Eq=>wEq x y M λb=>Q (.bl b) M
 |.NotEq=>wEq x y M λb=>Q (.bl (!b)) M
 |.In=>wIn x y M λb=>Q (.bl b) M
 |.NotIn=>wIn x y M λb=>Q (.bl (!b)) M
 |.Is=>(y=.non/\Q (.bl (UI x)) M)\/∃b,y=.bl b/\Q (.bl (isBl b x)) M
 |.IsNot=>(y=.non/\Q (.bl (!UI x)) M)\/∃b,y=.bl b/\Q (.bl (!isBl b x)) M
set_option tactic.hygienic true in
theorem JE{k:Bool->Prop}(hk:∀b,k b->k' b)(h:wEq x y M k):wEq x y M k':=by
 unfold wEq at h ⊢;split
 ·rename_i b e;rw[e]at h;exact hk _ h
 ·rename_i e;rw[e]at h;rcases h with⟨n,h1,h2,h3⟩|⟨a,b,xs,h1,h2,h3,h4,h5⟩|h|h
  ·exact .inl ⟨n,h1,h2,hk _ h3⟩
  ·exact .inr (.inl ⟨a,b,xs,h1,h2,h3,h4,hk _ h5⟩)
  ·exact h.elim
  ·exact h.elim
theorem JF{k:Bool->Prop}(hk:∀b,k b->k' b)(h:wIn x y M k):wIn x y M k':=by
 unfold wIn at h ⊢;split at h
 ·exact⟨h.1,h.2.1,hk _ h.2.2⟩
 ·exact⟨h.1,h.2.1,hk _ h.2.2⟩
 ·rcases h with⟨xs,h1,h2,h3,h4⟩|⟨kvs,kk,h1,h2,h3⟩
  ·exact .inl ⟨xs,h1,h2,h3,hk _ h4⟩
  ·exact .inr ⟨kvs,kk,h1,h2,hk _ h3⟩
 ·exact h.elim
theorem W7(op:CmpOp):Mon2 (wCmp op):=by
 intro x y M Q Q' hq h;cases op
 ·exact JE (k:=λb=>Q (.bl b) M) (k':=λb=>Q' (.bl b) M) (λb h=>hq _ _ h) h
 ·exact JE (k:=λb=>Q (.bl (!b)) M) (k':=λb=>Q' (.bl (!b)) M) (λb h=>hq _ _ h) h
 ·obtain⟨i,j,h1,h2,h3⟩:=h;exact⟨i,j,h1,h2,hq _ _ h3⟩
 ·rcases h with⟨i,j,h1,h2,h3⟩|⟨i,j,h1,h2,h3⟩
  ·exact .inl ⟨i,j,h1,h2,hq _ _ h3⟩
  ·exact .inr ⟨i,j,h1,h2,hq _ _ h3⟩
 ·obtain⟨i,j,h1,h2,h3⟩:=h;exact⟨i,j,h1,h2,hq _ _ h3⟩
 ·obtain⟨i,j,h1,h2,h3⟩:=h;exact⟨i,j,h1,h2,hq _ _ h3⟩
 ·rcases h with h|⟨b,e,h⟩
  ·exact .inl ⟨h.1,hq _ _ h.2⟩
  ·exact .inr ⟨b,e,hq _ _ h⟩
 ·rcases h with h|⟨b,e,h⟩
  ·exact .inl ⟨h.1,hq _ _ h.2⟩
  ·exact .inr ⟨b,e,hq _ _ h⟩
 ·exact JF (k:=λb=>Q (.bl b) M) (k':=λb=>Q' (.bl b) M) (λb h=>hq _ _ h) h
 ·exact JF (k:=λb=>Q (.bl (!b)) M) (k':=λb=>Q' (.bl (!b)) M) (λb h=>hq _ _ h) h
section
variable{X:Cx}
set_option tactic.hygienic true in
theorem JG{K:X4}(r:RM K H m v):decide (v=.bl b)=isBl b m:=by
 cases r<;>first|rfl|(rename_i c;cases b<;>cases c<;>rfl)
theorem JH{K:X4}(r:RM K H m v):decide (v=.non)=UI m:=by cases r<;>rfl
theorem _rL{k:Key}(r:KV kvs vs)(h:valV kvs k=some v):∃u,Z1 vs k=some u/\RelV v u:=by
 have q:=r.val k;rw[h]at q;exact RelO.some_of q
theorem LstM.sq(rh:RH X.K M H)(h:LstM M x xs)(r:RM X.K H x u):∃a vs,u=.ref a/\SqL X.K H a vs/\RMs X.K H xs vs:=by
 rcases h with rfl|⟨a,rfl,h⟩
 ·cases r with
  |frl h1 q1=>exact⟨_,_,rfl,h1.sq,q1⟩
 ·cases r;obtain⟨vs,e,q⟩:=rh.lst h;exact⟨a,vs,rfl,SqL.of e,q⟩
theorem Cz{xs:List V}{us:List X0}(r:Vals xs us){i:Nat}{u:X0}(h:us[i]?=some u):∃x,xs[i]?=some x/\RelV x u:=by
 induction r generalizing i with
 |nil=>cases h
 |cons q _ ih=>
  cases i with
  |zero=>cases h;exact⟨_,rfl,q⟩
  |succ i=>exact ih (i:=i) h
theorem _pU(r:KV kvs vs){k:Key}(h:(k,u)∈vs):∃x,(k,x)∈kvs/\RelV x u:=by
 induction r with
 |nil=>cases h
 | @cons p p' _ _ q _ ih=>
  obtain⟨k1,x1⟩:=p;obtain⟨k2,x2⟩:=p';rcases Xl.mp h with e|h
  ·cases e;have e1:k1=k:=q.1;subst e1;exact⟨x1,Ye,q.2⟩
  ·obtain⟨x,m,rx⟩:=ih h;exact⟨x,XR _ m,rx⟩
theorem JI{K:X4}{k:Key}:∀{m:List (Key×MV)} {vs:List (Key×V)},RKs K H m vs->(k,v)∈vs->∃x,(k,x)∈m/\RM K H x v
 |_,_,.nil,h=>by cases h
 |_,_,.cons r t,h=>by
  rcases Xl.mp h with e|h
  ·cases e;exact⟨_,Ye,r⟩
  ·obtain⟨x,m,q⟩:=JI t h;exact⟨x,XR _ m,q⟩
set_option tactic.hygienic true in
theorem Alike.inn{pins:List (Addr×Obj)}{s:X2}{σ:St}{H:Hp}{M:MH}(I:Inv X pins σ H s)(rh:RH X.K M H){n:Nat}{A:XB}(hu:A.units<cLine)
  (ih:∀{x y:MV} {u v:V} {u' v':X0},Alike M n x y->RM X.K H x u->RM X.K H y v->RelV u u'->RelV v v'->AliP X.prog X.w A.in1 s u' v')
  {x y:MV} {u v:V} {u' v':X0} (h:Alike M (n+1) x y) (r1:RM X.K H x u) (r2:RM X.K H y v) (q1:RelV u u') (q2:RelV v v'):
  (YG x=true/\x=y)\/∃a b,u'=.ref a/\v'=.ref b/\RcP X.prog X.w A s (.ref a) (.ref b)/\RnP X.prog X.w A s (.ref a) (.ref b):=by
 rw[Alike]at h;rcases h with h|⟨xs,ys,rfl,rfl,e,h⟩|⟨xs,ys,h1,h2,e,h⟩|⟨a,b,ka,kb,rfl,rfl,h1,h2,e,h⟩
 ·exact .inl h
 ·cases r1 with
  |tup g1 w1=>
   cases r2 with
   |tup g2 w2=>
    rename_i a vs b us
    obtain rfl:u'=Xn a:=q1;obtain rfl:v'=Xn b:=q2;obtain⟨i1,p1,t1,_⟩:=I.tuple (SqT.of g1);obtain⟨i2,p2,t2,_⟩:=I.tuple (SqT.of g2);have z:i1.toArray.size=i2.toArray.size:=by rw[XQ,XQ,<- p1.length,<- p2.length,<- w1.length,<- w2.length];exact e
    have he:∀p∈i1.toArray.toList.zip i2.toArray.toList,AliP X.prog X.w A.in1 s p.1 p.2:=by
     intro p hp;obtain⟨i,hi⟩:=List.mem_iff_getElem?.mp hp;rw[List.getElem?_zip_eq_some]at hi;obtain⟨x1,c1,d1⟩:=Cz p1 hi.1;obtain⟨x2,c2,d2⟩:=Cz p2 hi.2;obtain⟨m1,c3,d3⟩:=w1.get' c1;obtain⟨m2,c4,d4⟩:=w2.get' c2;exact ih (h i m1 m2 c3 c4) d3 d4 d1 d2
    exact .inr ⟨_,_,rfl,rfl,_oQ t1 t2 z hu he,_nh t1 t2 z hu he⟩
 ·obtain⟨a,vs,rfl,g1,w1⟩:=h1.sq rh r1;obtain⟨b,us,rfl,g2,w2⟩:=h2.sq rh r2;obtain rfl:u'=Xn a:=q1;obtain rfl:v'=Xn b:=q2;obtain⟨i1,p1,⟨o1,n1,t1,t2,_,t3⟩,_⟩:=I.list g1;obtain⟨i2,p2,⟨o2,n2,t4,t5,_,t6⟩,_⟩:=I.list g2;have z:i1.toArray.size=i2.toArray.size:=by rw[XQ,XQ,<- p1.length,<- p2.length,<- w1.length,<- w2.length];exact e
  have he:∀j (h1:j<i1.toArray.size) (h2:j<i2.toArray.size),AliP X.prog X.w A.in1 s i1.toArray[j] i2.toArray[j]:=by
   intro i l1 l2;obtain⟨x1,c1,d1⟩:=Cz p1 (i:=i) (u:=i1.toArray[i]) (by simp[Xc (show i<i1.length by simpa using l1)])
   obtain⟨x2,c2,d2⟩:=Cz p2 (i:=i) (u:=i2.toArray[i]) (by simp[Xc (show i<i2.length by simpa using l2)])
   obtain⟨m1,c3,d3⟩:=w1.get' c1;obtain⟨m2,c4,d4⟩:=w2.get' c2;exact ih (h i m1 m2 c3 c4) d3 d4 d1 d2
  exact .inr ⟨_,_,rfl,rfl,_oR ⟨o1,t1,t2,n1,t3⟩ ⟨o2,t4,t5,n2,t6⟩ z hu he,_ni ⟨o1,t1,t2,n1,t3⟩ ⟨o2,t4,t5,n2,t6⟩ z hu he⟩
 ·cases r1;cases r2;obtain rfl:u'=Xn a:=q1;obtain rfl:v'=Xn b:=q2;obtain⟨va,ea,wa,_⟩:=rh.dic h1;obtain⟨vb,eb,wb,_⟩:=rh.dic h2;obtain⟨_,na,ua,pa,da⟩:=Eg I.hok ea;obtain⟨_,nb,ub,pb,db⟩:=Eg I.hok eb;have z:ua.length=ub.length:=by rw[<- Paired.length pa,<- wa.length,<- Paired.length pb,<- wb.length];exact e
  have he:∀p∈ua,∃y,Z1 ub p.1=some y/\AliP X.prog X.w A.in1 s p.2 y:=by
   rintro⟨k,u1⟩ hp;obtain⟨x1,c1,d1⟩:=_pU pa hp;obtain⟨m1,c2,d2⟩:=JI wa c1;obtain⟨m2,c3,c4⟩:=h k m1 c2;rcases W6 (k:=k) wb with⟨z1,z2⟩|⟨x',u2,z1,z2,r3⟩
   ·rw[c3]at z1;cases z1
   ·rw[c3]at z1;cases z1;obtain⟨w',hw,rw'⟩:=_rL pb z2;exact⟨w',hw,ih c4 d2 r3 d1 rw'⟩
  exact .inr ⟨_,_,rfl,rfl,_oS na nb da db hu z he,_nj na nb da db hu z he⟩
theorem JJ{K:X4}(f:YG x=true)(r1:RM K H x u)(r2:RM K H x v)(q1:RelV u u')(q2:RelV v v'):AliP P w A s u' v':=by
 obtain⟨rfl,f1⟩:=Ua f r1;obtain⟨rfl,f2⟩:=Ua f r2;have h:=IL (A:=A) (s:=s) q1 q2 f1 f2;have e:eqV (toV x) (toV x)=true:=by cases x<;>first|(cases f;done)|simp[toV,eqV]
 rw[e]at h;exact .of_at h
theorem Alike.ok(I:Inv X pins σ H s)(rh:RH X.K M H):∀(n:Nat) {A:XB} {x y:MV} {u v:V} {u' v':X0},A.units+n<cLine->Alike M n x y->RM X.K H x u->RM X.K H y v->RelV u u'->RelV v v'->AliP X.prog X.w A s u' v'
 |0,A,x,y,u,v,u',v',hu,h,r1,r2,q1,q2=>by
  rw[Alike]at h;obtain⟨f,rfl⟩:=h;exact JJ f r1 r2 q1 q2
 |n+1,A,x,y,u,v,u',v',hu,h,r1,r2,q1,q2=>by
  rcases Alike.inn I rh (A:=A) (by lia) (λh r1 r2 q1 q2=>Alike.ok I rh n (show A.units+1+n<cLine by lia) h r1 r2 q1 q2) h r1 r2 q1 q2 with⟨f,rfl⟩|⟨a,b,rfl,rfl,h,_⟩
  ·exact JJ f r1 r2 q1 q2
  ·exact .refs h
theorem Alike.top(I:Inv X pins σ H s)(rh:RH X.K M H)(h:Alike M n x y)(hu:X.A.units+n<cLine)(ns:eqS x y=none)(r1:RM X.K H x u)(r2:RM X.K H y v)(q1:RelV u u')(q2:RelV v v'):
  RcP X.prog X.w X.A s u' v'/\RnP X.prog X.w X.A s u' v':=by
 have no:¬(YG x=true/\x=y):=by
  rintro⟨f,rfl⟩;cases x<;>first|(cases f;done)|(cases ns;done)
 cases n with
 |zero=>rw[Alike]at h;exact(no h).elim
 |succ n=>
  rcases Alike.inn I rh (A:=X.A) (by lia) (λh r1 r2 q1 q2=>Alike.ok I rh n (show X.A.units+1+n<cLine by lia) h r1 r2 q1 q2) h r1 r2 q1 q2 with f|⟨a,b,rfl,rfl,h,h'⟩
  ·exact(no f).elim
  ·exact⟨h,h'⟩
set_option tactic.hygienic true in
theorem W8(hu:X.A.units+70<cLine)(op:CmpOp):OpR X (Y0 op) (li2 X.K (wCmp op)):=by
 intro pins s σ H x y v u Q I rx ry h;obtain⟨mx,my,M,r1,r2,rh,h⟩:=h;have hb:∀b,Dn X.K H Q (.bl b) M->Q (.bl b) H:=λb h=>h _ _ (Kp.refl _) (.bl b) rh;have hu1:X.A.units+1<cLine:=by lia
 have hu64:X.A.units+64<cLine:=by lia
 have huI:X.A.in1.units+64<cLine:=by show X.A.units+1+64<cLine;lia
 have hu0:X.A.units<cLine:=by lia
 cases op with
 |Lt=>obtain⟨i,j,rfl,rfl,h⟩:=h;cases r1;cases r2;exact SZ pins s σ H _ _ v u Q I rx ry ⟨_,_,rfl,rfl,hb _ h⟩
 |LtE=>
  rcases h with⟨i,j,rfl,rfl,h⟩|⟨i,j,rfl,rfl,h⟩
  ·cases r1;cases r2;exact T0 pins s σ H _ _ v u Q I rx ry ⟨_,_,rfl,rfl,hb _ h⟩
  ·cases r1;cases r2;obtain⟨t1,rfl⟩:=rx;obtain⟨t2,rfl⟩:=ry;exact PySem.P.le_str ⟨.bl _,H,I,rfl,hb _ h⟩
 |Gt=>obtain⟨i,j,rfl,rfl,h⟩:=h;cases r1;cases r2;exact T1 pins s σ H _ _ v u Q I rx ry ⟨_,_,rfl,rfl,hb _ h⟩
 |GtE=>obtain⟨i,j,rfl,rfl,h⟩:=h;cases r1;cases r2;exact T2 pins s σ H _ _ v u Q I rx ry ⟨_,_,rfl,rfl,hb _ h⟩
 |Is=>
  rcases h with⟨rfl,h⟩|⟨b,rfl,h⟩
  ·cases r2;exact T3 pins s σ H _ _ v u Q I rx ry ⟨rfl,by rw[JH r1];exact hb _ h⟩
  ·cases r2;exact _n8 pins s σ H _ _ v u Q I rx ry ⟨b,rfl,by rw[JG r1];exact hb _ h⟩
 |IsNot=>
  rcases h with⟨rfl,h⟩|⟨b,rfl,h⟩
  ·cases r2;exact T4 pins s σ H _ _ v u Q I rx ry ⟨rfl,by rw[JH r1];exact hb _ h⟩
  ·cases r2;exact _kC pins s σ H _ _ v u Q I rx ry ⟨b,rfl,by rw[JG r1];exact hb _ h⟩
 |Eq=>
  have h:wEq mx my M λb=>Dn X.K H Q (.bl b) M:=h;unfold wEq at h;split at h
  ·rename_i b e
   obtain⟨e1,e2⟩:=Jx e r1 r2;exact SX pins s σ H _ _ v u Q I rx ry ⟨e1,by rw[e2];exact hb _ h⟩
  ·rcases h with⟨n,h1,h2,h3⟩|⟨a,b,xs,rfl,rfl,h3,h4,h5⟩|h|h
   ·exact(h2.top I rh (by lia) (by assumption) r1 r2 rx ry).1 _ _ ⟨.bl true,H,I,rfl,hb _ h3⟩
   ·cases r1;cases r2;obtain⟨vs,e1,q1⟩:=rh.lst h3;obtain⟨us,e2,q2⟩:=rh.lst h4;cases q2;refine _kF hu0 pins s σ H _ _ v u Q I rx ry ⟨_,_,vs,rfl,rfl,SqL.of e1,SqL.of e2,?_⟩;have:vs.isEmpty=xs.isEmpty:=by cases q1<;>rfl
    rw[this];exact hb _ h5
   ·exact h.elim
   ·exact h.elim
 |NotEq=>
  have h:wEq mx my M λb=>Dn X.K H Q (.bl (!b)) M:=h;unfold wEq at h;split at h
  ·rename_i b e
   obtain⟨e1,e2⟩:=Jx e r1 r2;exact SY pins s σ H _ _ v u Q I rx ry ⟨e1,by rw[e2];exact hb _ h⟩
  ·rcases h with⟨n,h1,h2,h3⟩|⟨a,b,xs,rfl,rfl,h3,h4,h5⟩|h|h
   ·exact(h2.top I rh (by lia) (by assumption) r1 r2 rx ry).2 _ _ ⟨.bl false,H,I,rfl,hb _ h3⟩
   ·cases r1;cases r2;obtain⟨vs,e1,q1⟩:=rh.lst h3;obtain⟨us,e2,q2⟩:=rh.lst h4;cases q2;refine _kD hu0 pins s σ H _ _ v u Q I rx ry ⟨_,_,vs,rfl,rfl,SqL.of e1,SqL.of e2,?_⟩;have:vs.isEmpty=xs.isEmpty:=by cases q1<;>rfl
    rw[this];exact hb _ h5
   ·exact h.elim
   ·exact h.elim
 |In=>
  have h:wIn mx my M λb=>Dn X.K H Q (.bl b) M:=h;unfold wIn at h;split at h
  ·cases r2 with
   |tup h1 q1=>
    obtain⟨f1,f2,h⟩:=h;obtain⟨e1,g1⟩:=Ua f1 r1;obtain⟨e2,g2⟩:=Vf f2 q1;exact Ea pins s σ H _ _ v u Q I rx ry ⟨_,_,rfl,.inr (SqT.of h1),g1,g2,by rw[e1,e2];exact hb _ h⟩
  ·cases r2 with
   |frl h1 q1=>
    obtain⟨f1,f2,h⟩:=h;obtain⟨e1,g1⟩:=Ua f1 r1;obtain⟨e2,g2⟩:=Vf f2 q1;exact Ea pins s σ H _ _ v u Q I rx ry ⟨_,_,rfl,.inl h1.sq,g1,g2,by rw[e1,e2];exact hb _ h⟩
  ·cases r2;rcases h with⟨xs,h1,f1,f2,h⟩|⟨kvs,kk,h1,h2,h⟩
   ·obtain⟨vs,e,q1⟩:=rh.lst h1;obtain⟨e1,g1⟩:=Ua f1 r1;obtain⟨e2,g2⟩:=Vf f2 q1;exact Ea pins s σ H _ _ v u Q I rx ry ⟨_,_,rfl,.inl (SqL.of e),g1,g2,by rw[e1,e2];exact hb _ h⟩
   ·obtain⟨vs,e,q1,_⟩:=rh.dic h1;have:=WT h2 r1;subst this;obtain rfl:u=Xn _:=ry;refine d_in hu1 I (DGet.k (k:=kk) e) rx λs3 I3=>⟨.bl _,H,I3,rfl,?_⟩;rcases W6 (k:=kk) q1 with⟨z1,z2⟩|⟨x',u',z1,z2,_⟩
    ·rw[z2];rw[z1]at h;exact hb _ h
    ·rw[z2];rw[z1]at h;exact hb _ h
  ·exact h.elim
 |NotIn=>
  have h:wIn mx my M λb=>Dn X.K H Q (.bl (!b)) M:=h;unfold wIn at h;split at h
  ·cases r2 with
   |tup h1 q1=>
    obtain⟨f1,f2,h⟩:=h;obtain⟨e1,g1⟩:=Ua f1 r1;obtain⟨e2,g2⟩:=Vf f2 q1;exact Eb pins s σ H _ _ v u Q I rx ry ⟨_,_,rfl,.inr (SqT.of h1),g1,g2,by rw[e1,e2];exact hb _ h⟩
  ·cases r2 with
   |frl h1 q1=>
    obtain⟨f1,f2,h⟩:=h;obtain⟨e1,g1⟩:=Ua f1 r1;obtain⟨e2,g2⟩:=Vf f2 q1;exact Eb pins s σ H _ _ v u Q I rx ry ⟨_,_,rfl,.inl h1.sq,g1,g2,by rw[e1,e2];exact hb _ h⟩
  ·cases r2;rcases h with⟨xs,h1,f1,f2,h⟩|⟨kvs,kk,h1,h2,h⟩
   ·obtain⟨vs,e,q1⟩:=rh.lst h1;obtain⟨e1,g1⟩:=Ua f1 r1;obtain⟨e2,g2⟩:=Vf f2 q1;exact Eb pins s σ H _ _ v u Q I rx ry ⟨_,_,rfl,.inl (SqL.of e),g1,g2,by rw[e1,e2];exact hb _ h⟩
   ·obtain⟨vs,e,q1,_⟩:=rh.dic h1;have:=WT h2 r1;subst this;obtain rfl:u=Xn _:=ry;refine _o3 hu1 I (DGet.k (k:=kk) e) rx λs3 I3=>⟨.bl _,H,I3,rfl,?_⟩;rcases W6 (k:=kk) q1 with⟨z1,z2⟩|⟨x',u',z1,z2,_⟩
    ·rw[z2];rw[z1]at h;exact hb _ h
    ·rw[z2];rw[z1]at h;exact hb _ h
  ·exact h.elim
end
def wIx(x y:MV)(M:MH)(Q:QM):Prop:=match x with
 |.tup xs=>∃i v,y=.int i/\atI xs i=some v/\Q v M
 |.frl xs=>∃i v,y=.int i/\atI xs i=some v/\Q v M
 |.str z=>∃i c,y=.int i/\z.length≤sizeLine/\atI z.cps.toList i=some c/\Q (.str ⟨#[c]⟩) M
 |.ref a=>(∃xs i v,M a=some (.lst xs)/\y=.int i/\atI xs i=some v/\Q v M)\/(∃kvs kk v,M a=some (.dic kvs)/\keyM y=some kk/\valM kvs kk=some v/\Q v M)\/∃o kvs kk v,M a=some (.fdic o kvs)/\keyM y=some kk/\valM kvs kk=some v/\Q v M
 |_=>False
theorem JK:Mon2 wIx:=by
 intro x y M Q Q' hq h;unfold wIx at h ⊢;split at h
 ·obtain⟨i,v,h1,h2,h3⟩:=h;exact⟨i,v,h1,h2,hq _ _ h3⟩
 ·obtain⟨i,v,h1,h2,h3⟩:=h;exact⟨i,v,h1,h2,hq _ _ h3⟩
 ·obtain⟨i,v,h1,h2,h3,h4⟩:=h;exact⟨i,v,h1,h2,h3,hq _ _ h4⟩
 ·rcases h with⟨xs,i,v,h1,h2,h3,h4⟩|⟨kvs,kk,v,h1,h2,h3,h4⟩|⟨o,kvs,kk,v,h1,h2,h3,h4⟩
  ·exact .inl ⟨xs,i,v,h1,h2,h3,hq _ _ h4⟩
  ·exact .inr (.inl ⟨kvs,kk,v,h1,h2,h3,hq _ _ h4⟩)
  ·exact .inr (.inr ⟨o,kvs,kk,v,h1,h2,h3,hq _ _ h4⟩)
 ·exact h.elim
theorem RMs.atI{K:X4}(r:RMs K H m v)(e:atI m i=some x):∃u,atI v i=some u/\RM K H x u:=by
 unfold L2.atI at e ⊢;rw[<- r.length];cases q:ixN m.length i with
 |none=>rw[q]at e;cases e
 |some j=>rw[q]at e;exact r.get e
section
variable{X:Cx}
theorem JL(hu:X.A.units+1<cLine):IxR X (λx y H Q=>∃a v,x=.ref a/\DGet H a y (some v)/\Q v H):=by
 intro value slice pins s σ H x y v u Q I rx ry h hs;obtain⟨a,w',rfl,g,q⟩:=h;obtain rfl:v=Xn a:=rx;exact tail_any (_g3 I g) PySem.F.slot_dict_getitem.lookup (_js hu I g ry λw2 s3 I3 rw'=>⟨w',H,I3,rw',q⟩) hs
theorem _q3(hu:X.A.units+1<cLine):IxR X (li2 X.K wIx):=by
 intro value slice pins s σ H x y v u Q I rx ry h hs;obtain⟨mx,my,M,r1,r2,rh,h⟩:=h;unfold wIx at h;split at h
 ·obtain⟨i,v',rfl,h2,h3⟩:=h;cases r2;cases r1 with
  |tup h1 q1=>
   obtain⟨u',e,r⟩:=q1.atI h2;exact _q1 value slice pins s σ H _ _ v u Q I rx ry ⟨_,_,_,u',rfl,rfl,SqT.of h1,e,h3 _ _ (Kp.refl _) r rh⟩ hs
 ·obtain⟨i,v',rfl,h2,h3⟩:=h;cases r2;cases r1 with
  |frl h1 q1=>
   obtain⟨u',e,r⟩:=q1.atI h2;exact IJ value slice pins s σ H _ _ v u Q I rx ry ⟨_,_,_,u',rfl,rfl,h1.sq,e,h3 _ _ (Kp.refl _) r rh⟩ hs
 ·obtain⟨i,c,rfl,h2,h3,h4⟩:=h;cases r1;cases r2;exact _q2 value slice pins s σ H _ _ v u Q I rx ry ⟨_,_,c,rfl,rfl,h2,h3,h4 _ _ (Kp.refl _) (.str _) rh⟩ hs
 ·cases r1;rcases h with⟨xs,i,v',h1,rfl,h3,h4⟩|⟨kvs,kk,v',h1,h2,h3,h4⟩|⟨o,kvs,kk,v',h1,h2,h3,h4⟩
  ·cases r2;obtain⟨vs,e,q1⟩:=rh.lst h1;obtain⟨u',e2,r⟩:=q1.atI h3;exact IJ value slice pins s σ H _ _ v u Q I rx ry ⟨_,_,_,u',rfl,rfl,SqL.of e,e2,h4 _ _ (Kp.refl _) r rh⟩ hs
  ·obtain⟨vs,e,q1,_⟩:=rh.dic h1;have ek:=WT h2 r2;rcases W6 (k:=kk) q1 with⟨z1,z2⟩|⟨x',u',z1,z2,r'⟩
   ·rw[z1]at h3;cases h3
   ·rw[z1]at h3;cases h3;have g:=DGet.k (k:=kk) e;rw[z2]at g;subst ek;exact JL hu value slice pins s σ H _ _ v u Q I rx ry ⟨_,u',rfl,g,h4 _ _ (Kp.refl _) r' rh⟩ hs
  ·obtain⟨vs,e,q1,_⟩:=rh.fdic h1;have ek:=WT h2 r2;rcases W6 (k:=kk) q1 with⟨z1,z2⟩|⟨x',u',z1,z2,r'⟩
   ·rw[z1]at h3;cases h3
   ·rw[z1]at h3;cases h3;have g:DGet H _ (kV kk) (valV vs kk):=.inl ⟨vs,kk,.inr ⟨o,e⟩,rfl,rfl⟩;rw[z2]at g;subst ek;exact JL hu value slice pins s σ H _ _ v u Q I rx ry ⟨_,u',rfl,g,h4 _ _ (Kp.refl _) r' rh⟩ hs
 ·exact h.elim
end
noncomputable def cutM(xs:List MV)(lo hi:Option Int):List MV:=(xs.drop (HT.sIx xs.length 0 lo)).take (HT.sIx xs.length xs.length hi - HT.sIx xs.length 0 lo)
theorem RMs.cut{K:X4}(r:RMs K H m v)(lo hi:Option Int):RMs K H (cutM m lo hi) (cutV v lo hi):=by
 unfold cutM cutV;rw[<- r.length];exact(r.drop _).take _
abbrev WS:=MV->Option Int->Option Int->MH->QM->Prop
def wSl:WS:=λx lo hi M Q=>match x with
 |.tup xs=>Q (.tup (cutM xs lo hi)) M
 |.frl xs=>∀p,M p=none->Q (.ref p) (updM M p (.lst (cutM xs lo hi)))
 |.ref a=>∃xs,M a=some (.lst xs)/\∀p,M p=none->Q (.ref p) (updM M p (.lst (cutM xs lo hi)))
 |.str z=>z.length≤sizeLine/\Q (.str (cutS z lo hi)) M
 |_=>False
theorem JM{x:MV}{lo hi:Option Int}{M:MH}{Q Q':QM}(hq:∀m M',Q m M'->Q' m M')(h:wSl x lo hi M Q):wSl x lo hi M Q':=by
 unfold wSl at h ⊢;split at h
 ·exact hq _ _ h
 ·exact λp hp=>hq _ _ (h p hp)
 ·obtain⟨xs,h1,h2⟩:=h;exact⟨xs,h1,λp hp=>hq _ _ (h2 p hp)⟩
 ·exact⟨h.1,hq _ _ h.2⟩
 ·exact h.elim
def liS(K:X4)(w:WS):V->Option Int->Option Int->Hp->VK->Prop:=λx lo hi H Q=>∃mx M,RM K H mx x/\RH K M H/\w mx lo hi M (Dn K H Q)
section
variable{X:Cx}
set_option tactic.hygienic true in
theorem _oI:SlR X (liS X.K wSl):=by
 intro pins s σ H x v vl vu lo hi sl Q I rx hs pl pu h;obtain⟨mx,M,r1,rh,h⟩:=h;unfold wSl at h;split at h
 ·rename_i ms
  cases r1 with
  |tup h1 q1=>
   rename_i vs
   by_cases hw:HT.sIx ms.length 0 lo=0/\HT.sIx ms.length ms.length hi=ms.length
   ·have e:cutM ms lo hi=ms:=by unfold cutM;rw[hw.1,hw.2,DC,Nat.sub_zero,Dx]
    rw[e]at h;refine _ms pins s σ H _ v vl vu lo hi sl Q I rx hs pl pu ⟨_,_,rfl,SqT.of h1,by rw[<- q1.length];exact hw.1,by rw[<- q1.length];exact hw.2,?_⟩
    exact h _ _ (Kp.refl _) (.tup h1 q1) rh
   refine TW pins s σ H _ v vl vu lo hi sl Q I rx hs pl pu ⟨_,_,rfl,SqT.of h1,by rw[<- q1.length];exact hw,λp hp=>?_⟩
   have k:=Kp.new hp (.tup (cutV vs lo hi));exact h _ _ k (.tup _c ((q1.cut lo hi).mono k)) (rh.kept hp _)
 ·cases r1 with
  |frl h1 q1=>
   rename_i vs
   refine IK pins s σ H _ v vl vu lo hi sl Q I rx hs pl pu ⟨_,_,rfl,h1.sq,λp hp=>?_⟩;have k:=Kp.new hp (.lst (cutV vs lo hi));exact h p (rh.free hp) _ _ k (.ref p) (rh.put k ((q1.cut lo hi).mono k))
 ·cases r1;obtain⟨xs,h1,h⟩:=h;obtain⟨vs,e,q1⟩:=rh.lst h1;refine IK pins s σ H _ v vl vu lo hi sl Q I rx hs pl pu ⟨_,_,rfl,SqL.of e,λp hp=>?_⟩;have k:=Kp.new hp (.lst (cutV vs lo hi));exact h p (rh.free hp) _ _ k (.ref p) (rh.put k ((q1.cut lo hi).mono k))
 ·cases r1;exact _oH pins s σ H _ v vl vu lo hi sl Q I rx hs pl pu ⟨_,rfl,h.1,h.2 _ _ (Kp.refl _) (.str _) rh⟩
 ·exact h.elim
end
def tyM(M:MH):MV->Option Ty7
 |.non=>some .none|.bl _=>some .bool|.int _=>some .int|.str _=>some .str|.tup _=>some .tuple
 |.ref a=>match M a with|some (.lst _)=>some .list|some (.dic _)=>some .dict|_=>none
 |_=>none
def isTy:Ty7->Ty7->Bool
 |.bool,.int=>true
 |a,b=>decide (a=b)
theorem Em(K:X4)(T c:Ty7)(hc:c≠.none):UY K (.type T.name) (.type c.name)=some (isTy T c):=by
 cases T<;>cases c<;>first|exact absurd rfl hc|with_unfolding_all rfl
theorem JN{K:X4}(rh:RH K M H)(r:RM K H m v)(e:tyM M m=some T):TyOf K H v (.type T.name):=by
 cases r with
 |non=>cases e;exact .non
 |bl b=>cases e;exact .bl b
 |int i=>cases e;exact .int i
 |str x=>cases e;exact .str x
 |tup h _=>cases e;exact .tup h
 |frl _ _=>cases e
 |ty _=>cases e
 |ref a=>
  unfold tyM at e;dsimp only at e;cases q:M a with
  |none=>rw[q]at e;cases e
  |some o=>
   rw[q]at e;cases o with
   |lst xs=>cases e;obtain⟨vs,h,_⟩:=rh.lst q;exact .lst h
   |dic kvs=>cases e;obtain⟨vs,h,_⟩:=rh.dic q;exact .dK h
   |ins _ _=>cases e
   |fdic _ _=>cases e
inductive BI where|len|isinst|max|min|sum|abs|int|list|tuple|dict|sorted|dictL|all
  deriving DecidableEq
def bLen(vs:List MV)(M:MH)(Q:QM):Prop:=match vs with
 |[.tup xs]=>Q (.int xs.length) M
 |[.frl xs]=>Q (.int xs.length) M
 |[.str z]=>z.length≤sizeLine/\Q (.int z.length) M
 |[.ref a]=>(∃xs,M a=some (.lst xs)/\Q (.int xs.length) M)\/∃kvs,M a=some (.dic kvs)/\Q (.int kvs.length) M
 |_=>False
def bIsi(vs:List MV)(M:MH)(Q:QM):Prop:=match vs with
 |[x,.ty c]=>∃T,tyM M x=some T/\c≠.none/\Q (.bl (isTy T c)) M
 |[x,.tup [.ty c,.ty d]]=>∃T,tyM M x=some T/\c≠.none/\d≠.none/\Q (.bl (isTy T c||isTy T d)) M
 |_=>False
def bMax(vs:List MV)(M:MH)(Q:QM):Prop:=match vs with
 |[.int i,.int j]=>Q (.int (if j>i then j else i)) M
 |[.ref a]=>∃ns:List Int,M a=some (.lst (ns.map MV.int))/\0<ns.length/\∀m,m∈ns->(∀x∈ns,x≤m)->Q (.int m) M
 |_=>False
def bMin(vs:List MV)(M:MH)(Q:QM):Prop:=match vs with
 |[.int i,.int j]=>Q (.int (if j<i then j else i)) M
 |[.ref a]=>∃ns:List Int,M a=some (.lst (ns.map MV.int))/\0<ns.length/\∀m,m∈ns->(∀x∈ns,m≤x)->Q (.int m) M
 |_=>False
def bAbs(vs:List MV)(M:MH)(Q:QM):Prop:=match vs with
 |[.int i]=>Q (.int (if i<0 then -i else i)) M
 |_=>False
def bInt(vs:List MV)(M:MH)(Q:QM):Prop:=match vs with
 |[.int i]=>Q (.int i) M
 |[.bl k]=>Q (.int (if k then 1 else 0)) M
 |_=>False
def bLst(vs:List MV)(M:MH)(Q:QM):Prop:=match vs with
 |[.tup xs]=>∀p,M p=none->Q (.ref p) (updM M p (.lst xs))
 |[.frl xs]=>∀p,M p=none->Q (.ref p) (updM M p (.lst xs))
 |[.ref a]=>∃xs,M a=some (.lst xs)/\∀p,M p=none->Q (.ref p) (updM M p (.lst xs))
 |_=>False
def bTup(vs:List MV)(M:MH)(Q:QM):Prop:=match vs with
 |[.tup xs]=>Q (.tup xs) M
 |[.frl xs]=>Q (.tup xs) M
 |[.ref a]=>∃xs,M a=some (.lst xs)/\Q (.tup xs) M
 |_=>False
def prM(p:Key×MV):MV:=.tup [match p.1 with|.inl i=>.int i|.inr x=>.str x,p.2]
def YM(ps:List (Key×MV)):List (Key×MV):=ps.foldl (λc z=>putM c z.1 z.2) []
def bDic(vs:List MV)(M:MH)(Q:QM):Prop:=match vs with
 |[.ref a]=>∃kvs,M a=some (.dic kvs)/\∀p,M p=none->Q (.ref p) (updM M p (.dic kvs))
 |[.tup xs]=>∃ps:List (Key×MV),xs=ps.map prM/\∀p,M p=none->Q (.ref p) (updM M p (.dic (YM ps)))
 |_=>False
def bDcl(vs:List MV)(M:MH)(Q:QM):Prop:=match vs with
 |[.ref a]=>∃ps:List (Key×MV),M a=some (.lst (ps.map prM))/\∀p,M p=none->Q (.ref p) (updM M p (.dic (YM ps)))
 |_=>False
set_option tactic.hygienic true in
theorem JO{K:X4}:∀{ps:List (Key×MV)} {vs:List V},RMs K H (ps.map prM) vs->∃ps':List (Key×V),Ej H ps' vs/\RKs K H ps ps':=by
 intro ps
 induction ps with
 |nil=>intro vs h;cases h;exact⟨[],.nil,.nil⟩
 |cons p r ih=>
  obtain⟨k,x⟩:=p;intro vs h;have h:RMs K H (prM (k,x)::r.map prM) vs:=h;cases h with
  |cons a u=>
   obtain⟨ps',h1,h2⟩:=ih u;cases a with
   |tup e t=>
    cases t with
    |cons t1 t2=>
     cases t2 with
     |cons t3 t4=>
      cases t4
      rename_i v1 v2
      refine⟨(k,v2)::ps',.cons ⟨_,rfl,?_⟩ h1,.cons t3 h2⟩;rw[e];cases k<;>cases t1<;>rfl
theorem En{K:X4}:∀{ps:List (Key×MV)} {ps':List (Key×V)} {c:List (Key×MV)} {c':List (Key×V)},RKs K H ps ps'->RKs K H c c'->(c.map (·.1)).Nodup->
  RKs K H (ps.foldl (λc z=>putM c z.1 z.2) c) (ps'.foldl (λc z=>putK c z.1 z.2) c')/\((ps.foldl (λc z=>putM c z.1 z.2) c).map (·.1)).Nodup
 |_,_,_,_,.nil,h,nd=>⟨h,nd⟩
 |_,_,_,_,.cons r t,h,nd=>by
  obtain⟨a,b⟩:=JD r nd h;have z:=En t a b;exact z
def bAll(vs:List MV)(M:MH)(Q:QM):Prop:=match vs with
 |[.ref a]=>∃bs:List Bool,M a=some (.lst (bs.map MV.bl))/\Q (.bl (bs.all id)) M
 |_=>False
theorem RMs.bls_of{K:X4}{H:Hp}{bs:List Bool}{vs:List V}(h:RMs K H (bs.map MV.bl) vs):vs=bs.map V.bl:=h.map_of λ_ _ x=>by cases x;rfl
def wBi(f:BI)(vs:List MV)(M:MH)(Q:QM):Prop:=match f with
 |.len=>bLen vs M Q
 |.isinst=>bIsi vs M Q
 |.max=>bMax vs M Q
 |.min=>bMin vs M Q
 |.sum=>False
 |.abs=>bAbs vs M Q
 |.int=>bInt vs M Q
 |.list=>bLst vs M Q
 |.tuple=>bTup vs M Q
 |.dict=>bDic vs M Q
 |.sorted=>False
 |.dictL=>bDcl vs M Q
 |.all=>bAll vs M Q
theorem _nr:MonW bLen:=by
 intro vs M Q Q' hq h;unfold bLen at h ⊢;split at h
 ·exact hq _ _ h
 ·exact hq _ _ h
 ·exact⟨h.1,hq _ _ h.2⟩
 ·rcases h with⟨xs,h1,h2⟩|⟨xs,h1,h2⟩
  ·exact .inl ⟨xs,h1,hq _ _ h2⟩
  ·exact .inr ⟨xs,h1,hq _ _ h2⟩
 ·exact h.elim
theorem JP(f:BI):MonW (wBi f):=by
 intro vs M Q Q' hq h;cases f
 ·exact _nr hq h
 ·have h:bIsi vs M Q:=h;show bIsi vs M Q';unfold bIsi at h ⊢;split at h
  ·obtain⟨T,h1,h2,h3⟩:=h;exact⟨T,h1,h2,hq _ _ h3⟩
  ·obtain⟨T,h1,h2,h3,h4⟩:=h;exact⟨T,h1,h2,h3,hq _ _ h4⟩
  ·exact h.elim
 ·have h:bMax vs M Q:=h;show bMax vs M Q';unfold bMax at h ⊢;split at h
  ·exact hq _ _ h
  ·obtain⟨ns,h1,h2,h3⟩:=h;exact⟨ns,h1,h2,λm a b=>hq _ _ (h3 m a b)⟩
  ·exact h.elim
 ·have h:bMin vs M Q:=h;show bMin vs M Q';unfold bMin at h ⊢;split at h
  ·exact hq _ _ h
  ·obtain⟨ns,h1,h2,h3⟩:=h;exact⟨ns,h1,h2,λm a b=>hq _ _ (h3 m a b)⟩
  ·exact h.elim
 ·exact Y7 h
 ·have h:bAbs vs M Q:=h;show bAbs vs M Q';unfold bAbs at h ⊢;split at h
  ·exact hq _ _ h
  ·exact h.elim
 ·have h:bInt vs M Q:=h;show bInt vs M Q';unfold bInt at h ⊢;split at h
  ·exact hq _ _ h
  ·exact hq _ _ h
  ·exact h.elim
 ·have h:bLst vs M Q:=h;show bLst vs M Q';unfold bLst at h ⊢;split at h
  ·exact λp hp=>hq _ _ (h p hp)
  ·exact λp hp=>hq _ _ (h p hp)
  ·obtain⟨xs,h1,h2⟩:=h;exact⟨xs,h1,λp hp=>hq _ _ (h2 p hp)⟩
  ·exact h.elim
 ·have h:bTup vs M Q:=h;show bTup vs M Q';unfold bTup at h ⊢;split at h
  ·exact hq _ _ h
  ·exact hq _ _ h
  ·obtain⟨xs,h1,h2⟩:=h;exact⟨xs,h1,hq _ _ h2⟩
  ·exact h.elim
 ·have h:bDic vs M Q:=h;show bDic vs M Q';unfold bDic at h ⊢;split at h
  ·obtain⟨xs,h1,h2⟩:=h;exact⟨xs,h1,λp hp=>hq _ _ (h2 p hp)⟩
  ·obtain⟨xs,h1,h2⟩:=h;exact⟨xs,h1,λp hp=>hq _ _ (h2 p hp)⟩
  ·exact h.elim
 ·exact Y7 h
 ·have h:bDcl vs M Q:=h;show bDcl vs M Q';unfold bDcl at h ⊢;split at h
  ·obtain⟨ps,h1,h2⟩:=h;exact⟨ps,h1,λp hp=>hq _ _ (h2 p hp)⟩
  ·exact h.elim
 ·have h:bAll vs M Q:=h;show bAll vs M Q';unfold bAll at h ⊢;split at h
  ·obtain⟨bs,h1,h2⟩:=h;exact⟨bs,h1,hq _ _ h2⟩
  ·exact h.elim
noncomputable def BI.val:BI->X0
 |.len=>.builtin "len"|.isinst=>.builtin "isinstance"|.max=>.builtin "max"|.min=>.builtin "min"|.sum=>.builtin "sum"|.abs=>.builtin "abs"
 |.int=>.type "int"|.list=>.type "list"|.tuple=>.type "tuple"|.dict=>.type "dict"|.sorted=>.builtin "sorted"|.dictL=>.type "dict"|.all=>.builtin "all"
section
variable{X:Cx}
theorem RMs.one{K:X4}(r:RMs K H [m] vs):∃v,vs=[v]/\RM K H m v:=by
 cases r with
 |cons a b=>cases b;exact⟨_,rfl,a⟩
theorem RMs.two{K:X4}(r:RMs K H [m,n] vs):∃v w,vs=[v,w]/\RM K H m v/\RM K H n w:=by
 cases r with
 |cons a b=>obtain⟨w,rfl,c⟩:=b.one;exact⟨_,_,rfl,a,c⟩
theorem _f6:Yg X (.type "dict") (fun xs H Q=>∃a kvs,xs=[.ref a]/\H a=some (.dK kvs)/\∀p,H p=none->Q (.ref p) (upd H p (.dK kvs))):=by
 intro pins s σ H xs us Q I r h;obtain⟨a,kvs,rfl,ha,q⟩:=h;obtain⟨u,rfl,ru⟩:=YX r;cases ru;exact _l7 I (.inl ha) λp s' hp I'=>⟨.ref p,_,I',rfl,q p hp⟩
theorem _oa(hc:X.calm=true)(f:BI):Yg X f.val (liW X.K (wBi f)):=by
 intro pins s σ H xs us Q I r h;obtain⟨ms,M,r1,rh,h⟩:=h;cases f with
 |len=>
  have h:bLen ms M (Dn X.K H Q):=h;unfold bLen at h;split at h
  ·obtain⟨v,rfl,a⟩:=r1.one;cases a with
   |tup h1 q1=>exact Ec pins s σ H _ us Q I r ⟨_,_,rfl,.inr (SqT.of h1),by rw[<- q1.length];exact h _ _ (Kp.refl _) (.int _) rh⟩
  ·obtain⟨v,rfl,a⟩:=r1.one;cases a with
   |frl h1 q1=>exact Ec pins s σ H _ us Q I r ⟨_,_,rfl,.inl h1.sq,by rw[<- q1.length];exact h _ _ (Kp.refl _) (.int _) rh⟩
  ·obtain⟨v,rfl,a⟩:=r1.one;cases a;exact _f3 pins s σ H _ us Q I r ⟨_,rfl,h.1,h.2 _ _ (Kp.refl _) (.int _) rh⟩
  ·obtain⟨v,rfl,a⟩:=r1.one;cases a;rcases h with⟨xs,h1,h⟩|⟨kvs,h1,h⟩
   ·obtain⟨vs,e,q1⟩:=rh.lst h1;exact Ec pins s σ H _ us Q I r ⟨_,_,rfl,.inl (SqL.of e),by rw[<- q1.length];exact h _ _ (Kp.refl _) (.int _) rh⟩
   ·obtain⟨vs,e,q1,_⟩:=rh.dic h1;exact _jF pins s σ H _ us Q I r ⟨_,_,rfl,e,by rw[<- q1.length];exact h _ _ (Kp.refl _) (.int _) rh⟩
  ·exact h.elim
 |isinst=>
  have h:bIsi ms M (Dn X.K H Q):=h;unfold bIsi at h;split at h
  ·obtain⟨v,w,rfl,a,b⟩:=r1.two;cases b;obtain⟨T,h1,h2,h3⟩:=h;exact _g8 pins s σ H _ us Q I r ⟨_,_,_,_,rfl,JN rh a h1,Em _ _ _ h2,h3 _ _ (Kp.refl _) (.bl _) rh⟩
  ·obtain⟨v,w,rfl,a,b⟩:=r1.two;obtain⟨T,h1,h2,h3,h4⟩:=h;cases b with
   |tup ht qt=>
    cases qt with
    |cons q1 q2=>
     cases q2 with
     |cons q3 q4=>
      cases q4;cases q1;cases q3;exact _f4 pins s σ H _ us Q I r ⟨_,_,_,_,_,_,_,rfl,ht,JN rh a h1,Em _ _ _ h2,Em _ _ _ h3,h4 _ _ (Kp.refl _) (.bl _) rh⟩
  ·exact h.elim
 |max=>
  have h:bMax ms M (Dn X.K H Q):=h;unfold bMax at h;split at h
  ·obtain⟨v,w,rfl,a,b⟩:=r1.two;cases a;cases b;exact Tb hc pins s σ H _ us Q I r ⟨_,_,rfl,h _ _ (Kp.refl _) (.int _) rh⟩
  ·obtain⟨v,rfl,a⟩:=r1.one;cases a;obtain⟨ns,h1,h2,h3⟩:=h;obtain⟨vs,e,q1⟩:=rh.lst h1;have:=q1.ints_of;subst this;exact _jC hc pins s σ H _ us Q I r ⟨_,ns,rfl,SqL.of e,h2,λm a b=>h3 m a b _ _ (Kp.refl _) (.int _) rh⟩
  ·exact h.elim
 |min=>
  have h:bMin ms M (Dn X.K H Q):=h;unfold bMin at h;split at h
  ·obtain⟨v,w,rfl,a,b⟩:=r1.two;cases a;cases b;exact Tc hc pins s σ H _ us Q I r ⟨_,_,rfl,h _ _ (Kp.refl _) (.int _) rh⟩
  ·obtain⟨v,rfl,a⟩:=r1.one;cases a;obtain⟨ns,h1,h2,h3⟩:=h;obtain⟨vs,e,q1⟩:=rh.lst h1;have:=q1.ints_of;subst this;exact _jA hc pins s σ H _ us Q I r ⟨_,ns,rfl,SqL.of e,h2,λm a b=>h3 m a b _ _ (Kp.refl _) (.int _) rh⟩
  ·exact h.elim
 |sum=>exact Y7 h
 |abs=>
  have h:bAbs ms M (Dn X.K H Q):=h;unfold bAbs at h;split at h
  ·obtain⟨v,rfl,a⟩:=r1.one;cases a;exact Ta pins s σ H _ us Q I r ⟨_,rfl,h _ _ (Kp.refl _) (.int _) rh⟩
  ·exact h.elim
 |int=>
  have h:bInt ms M (Dn X.K H Q):=h;unfold bInt at h;split at h
  ·obtain⟨v,rfl,a⟩:=r1.one;cases a;exact Ip pins s σ H _ us Q I r (.inl ⟨_,rfl,h _ _ (Kp.refl _) (.int _) rh⟩)
  ·obtain⟨v,rfl,a⟩:=r1.one;cases a;exact Ip pins s σ H _ us Q I r (.inr ⟨_,rfl,h _ _ (Kp.refl _) (.int _) rh⟩)
  ·exact h.elim
 |list=>
  have h:bLst ms M (Dn X.K H Q):=h;unfold bLst at h;split at h
  ·obtain⟨v,rfl,a⟩:=r1.one;cases a with
   |tup h1 q1=>
    refine Ed pins s σ H _ us Q I r ⟨_,_,rfl,.inr (SqT.of h1),λp hp=>?_⟩;have k:=λz=>Kp.new hp (.lst z);exact h p (rh.free hp) _ _ (k _) (.ref p) (rh.put (k _) (q1.mono (k _)))
  ·obtain⟨v,rfl,a⟩:=r1.one;cases a with
   |frl h1 q1=>
    refine Ed pins s σ H _ us Q I r ⟨_,_,rfl,.inl h1.sq,λp hp=>?_⟩;have k:=λz=>Kp.new hp (.lst z);exact h p (rh.free hp) _ _ (k _) (.ref p) (rh.put (k _) (q1.mono (k _)))
  ·obtain⟨v,rfl,a⟩:=r1.one;cases a;obtain⟨xs,h1,h⟩:=h;obtain⟨vs,e,q1⟩:=rh.lst h1;refine Ed pins s σ H _ us Q I r ⟨_,_,rfl,.inl (SqL.of e),λp hp=>?_⟩;have k:=Kp.new hp (.lst vs);exact h p (rh.free hp) _ _ k (.ref p) (rh.put k (q1.mono k))
  ·exact h.elim
 |tuple=>
  have h:bTup ms M (Dn X.K H Q):=h;unfold bTup at h;split at h
  ·obtain⟨v,rfl,a⟩:=r1.one;cases a with
   |tup h1 q1=>exact Ee pins s σ H _ us Q I r ⟨_,_,rfl,.inr ⟨SqT.of h1,h _ _ (Kp.refl _) (.tup h1 q1) rh⟩⟩
  ·obtain⟨v,rfl,a⟩:=r1.one;cases a with
   |frl h1 q1=>
    refine Ee pins s σ H _ us Q I r ⟨_,_,rfl,.inl ⟨h1.sq,λp hp=>?_⟩⟩;have k:=λz=>Kp.new hp (.tup z);exact h _ _ (k _) (.tup _c (q1.mono (k _))) (rh.kept hp _)
  ·obtain⟨v,rfl,a⟩:=r1.one;cases a;obtain⟨xs,h1,h⟩:=h;obtain⟨vs,e,q1⟩:=rh.lst h1;refine Ee pins s σ H _ us Q I r ⟨_,_,rfl,.inl ⟨SqL.of e,λp hp=>?_⟩⟩;have k:=Kp.new hp (.tup vs);exact h _ _ k (.tup _c (q1.mono k)) (rh.kept hp _)
  ·exact h.elim
 |dict=>
  have h:bDic ms M (Dn X.K H Q):=h;unfold bDic at h;split at h
  ·obtain⟨v,rfl,a⟩:=r1.one;cases a;obtain⟨kvs,h1,h⟩:=h;obtain⟨vs,e,q1,nd⟩:=rh.dic h1;refine _f6 pins s σ H _ us Q I r ⟨_,_,rfl,e,λp hp=>?_⟩;have k:=Kp.new hp (.dK vs);exact h p (rh.free hp) _ _ k (.ref p) (rh.put k ⟨q1.mono k,nd⟩)
  ·obtain⟨v,rfl,a⟩:=r1.one;obtain⟨ps,rfl,h2⟩:=h;cases a with
   |tup e q1=>
    obtain⟨ps',pv,rk⟩:=JO q1;refine _g9 hc pins s σ H _ us Q I r ⟨_,ps',_,rfl,e,pv,λp hp=>?_⟩;have k:=Kp.new hp (.dK (ZK ps'));obtain⟨z1,z2⟩:=En rk (.nil:RKs X.K H [] []) (by simp)
    exact h2 p (rh.free hp) _ _ k (.ref p) (rh.put k ⟨z1.mono k,z2⟩)
  ·exact h.elim
 |sorted=>exact Y7 h
 |dictL=>
  have h:bDcl ms M (Dn X.K H Q):=h;unfold bDcl at h;split at h
  ·obtain⟨v,rfl,a⟩:=r1.one;cases a;obtain⟨ps,h1,h2⟩:=h;obtain⟨vs,e,q1⟩:=rh.lst h1;obtain⟨ps',pv,rk⟩:=JO q1;refine _hJ hc pins s σ H _ us Q I r ⟨_,ps',vs,rfl,e,pv,λp hp=>?_⟩;have k:=Kp.new hp (.dK (ZK ps'));obtain⟨z1,z2⟩:=En rk (.nil:RKs X.K H [] []) (by simp)
   exact h2 p (rh.free hp) _ _ k (.ref p) (rh.put k ⟨z1.mono k,z2⟩)
  ·exact h.elim
 |all=>
  have h:bAll ms M (Dn X.K H Q):=h;unfold bAll at h;split at h
  ·obtain⟨v,rfl,a⟩:=r1.one;cases a;obtain⟨bs,h1,h2⟩:=h;obtain⟨vs,e,q1⟩:=rh.lst h1;have:=q1.bls_of;subst this;exact _jG hc pins s σ H _ us Q I r ⟨_,bs,rfl,SqL.of e,h2 _ _ (Kp.refl _) (.bl _) rh⟩
  ·exact h.elim
end
theorem RMs.strs{K:X4}:∀ns:List Str,RMs K H (ns.map MV.str) (ns.map V.str)
 |[]=>.nil
 |n::r=>.cons (.str n) (RMs.strs r)
theorem RMs.strs_of{K:X4}{H:Hp}{ns:List Str}{vs:List V}(h:RMs K H (ns.map MV.str) vs):vs=ns.map V.str:=h.map_of λ_ _ x=>by cases x;rfl
theorem JQ{K:X4}(f:Nat->Int):∀l:List Nat,RMs K H (l.map λi=>MV.int (f i)) (l.map λi=>V.int (f i))
 |[]=>.nil
 |_::r=>.cons (.int _) (JQ f r)
theorem _ih{K:X4}(n:Nat):RMs K H ((Xr n).map λi=>MV.int (i:Nat)) ((Xr n).map λi=>V.int (i:Nat)):=JQ (λi=>(i:Int)) _
inductive B2 where|ssrt|lset|tset|lrng
  deriving DecidableEq
noncomputable def B2.out:B2->String
 |.ssrt=>"sorted"
 |.lset=>"len"
 |.tset=>"len"
 |.lrng=>"list"
noncomputable def B2.inn:B2->String
 |.ssrt=>"set"
 |.lset=>"set"
 |.tset=>"set"
 |.lrng=>"range"
noncomputable def B2.outV:B2->X0
 |.ssrt=>.builtin "sorted"
 |.lset=>.builtin "len"
 |.tset=>.builtin "len"
 |.lrng=>.type "list"
def wB2(f:B2)(v:MV)(M:MH)(Q:QM):Prop:=match f with
 |.ssrt=>∃(a:Addr) (xs N:List Str),v=.ref a/\M a=some (.lst (xs.map MV.str))/\xs.length+1<scanBound/\(∀z∈xs,z∈N)/\N.length<64/\
   ∀p (ys:List Str),M p=none->ys.Nodup->(∀y,y∈ys↔y∈xs)->sortedS ys=true->Q (.ref p) (updM M p (.lst (ys.map MV.str)))
 |.lset=>False
 |.tset=>False
 |.lrng=>∃n:Nat,v=.int n/\n≤1000000/\∀p,M p=none->Q (.ref p) (updM M p (.lst ((Xr n).map λi=>MV.int (i:Nat))))
theorem JR(f:B2):Mon1 (wB2 f):=by
 intro v M Q Q' hq h;cases f with
 |ssrt=>
  obtain⟨a,xs,N,h1,h2,h3,h4,h5,h6⟩:=h;exact⟨a,xs,N,h1,h2,h3,h4,h5,λp ys a1 a2 a3 a4=>hq _ _ (h6 p ys a1 a2 a3 a4)⟩
 |lset=>exact Y7 h
 |tset=>exact Y7 h
 |lrng=>
  obtain⟨n,h1,h2,h3⟩:=h;exact⟨n,h1,h2,λp hp=>hq _ _ (h3 p hp)⟩
section
variable{X:Cx}
theorem _ob(hc:X.calm=true)(f:B2):WQ X f.outV (.type f.inn) (li1 X.K (wB2 f)):=by
 intro pins s σ H x u Q I r h;obtain⟨m,M,r1,rh,h⟩:=h;cases f with
 |ssrt=>
  obtain⟨a,xs,N,rfl,h2,h3,h4,h5,h6⟩:=h;cases r1;obtain⟨vs,e,q1⟩:=rh.lst h2;have:=q1.strs_of;subst this;refine _jy hc pins s σ H _ u Q I r ⟨_,xs,N,rfl,SqL.of e,h3,h4,h5,λp ys hp a1 a2 a3=>?_⟩;have k:=Kp.new hp (.lst (ys.map V.str));exact h6 p ys (rh.free hp) a1 a2 a3 _ _ k (.ref p) (rh.put k (RMs.strs ys))
 |lset=>exact Y7 h
 |tset=>exact Y7 h
 |lrng=>
  obtain⟨n,rfl,h2,h3⟩:=h;cases r1;refine _jE hc pins s σ H _ u Q I r ⟨n,rfl,h2,λp hp=>?_⟩;have k:=Kp.new hp (.lst ((Xr n).map λi=>V.int (i:Nat)));exact h3 p (rh.free hp) _ _ k (.ref p) (rh.put k (_ih n))
end
inductive MT where|append|extend|reverse|clear|pop|popAt|dclear|dget|dgetD|join|remove
  deriving DecidableEq
def wMt(m:MT)(a:Addr)(vs:List MV)(M:MH)(Q:QM):Prop:=∃xs,M a=some (.lst xs)/\match m,vs with
 |.append,[y]=>xs.length<sizeLine/\Q .non (updM M a (.lst (xs++[y])))
 |.extend,[.ref b]=>∃ys,M b=some (.lst ys)/\xs.length+ys.length≤sizeLine/\Q .non (updM M a (.lst (xs++ys)))
 |_,_=>False
def wMl(m:MT)(x:MV)(vs:List MV)(M:MH)(Q:QM):Prop:=match x with
 |.ref a=>wMt m a vs M Q
 |_=>False
def wMd(m:MT)(x:MV)(vs:List MV)(M:MH)(Q:QM):Prop:=match m with
 |_=>False
noncomputable def MT.isL:MT->Bool
 |.dclear=>false|.dget=>false|.dgetD=>false|.join=>false|_=>true
noncomputable def MT.ty:MT->String
 |.dclear=>"dict"|.dget=>"dict"|.dgetD=>"dict"|.join=>"str"|_=>"list"
def mtOk(m:MT)(x:MV)(M:MH):Prop:=match m with
 |.dclear=>∃a kvs,x=.ref a/\M a=some (.dic kvs)
 |.dget=>∃a kvs,x=.ref a/\M a=some (.dic kvs)
 |.dgetD=>∃a kvs,x=.ref a/\M a=some (.dic kvs)
 |.join=>∃z,x=.str z
 |_=>∃a xs,x=.ref a/\M a=some (.lst xs)
def wMts(m:MT)(x:MV)(vs:List MV)(M:MH)(Q:QM):Prop:=match m with
 |.dclear=>wMd .dclear x vs M Q
 |.dget=>wMd .dget x vs M Q
 |.dgetD=>wMd .dgetD x vs M Q
 |.join=>wMd .join x vs M Q
 |m=>wMl m x vs M Q
theorem JS(h:m.isL=true):wMts m x vs M Q=wMl m x vs M Q:=by cases m<;>first|rfl|cases h
theorem JT(h:m.isL=false):wMts m x vs M Q=wMd m x vs M Q:=by cases m<;>first|rfl|cases h
theorem _pP(hq:∀m M',Q m M'->Q' m M')(h:wMl m a vs M Q):wMl m a vs M Q':=by
 cases a<;>try exact h.elim
 obtain⟨xs,h1,h⟩:=h;refine⟨xs,h1,?_⟩;split at h
 ·exact⟨h.1,hq _ _ h.2⟩
 ·obtain⟨ys,a,b,c⟩:=h;exact⟨ys,a,b,hq _ _ c⟩
 ·exact h.elim
theorem _pQ(hq:∀m M',Q m M'->Q' m M')(h:wMd m x vs M Q):wMd m x vs M Q':=by
 cases m<;>try exact h.elim
theorem Eo{m:MT}{a:MV}{vs:List MV}{M:MH}{Q Q':QM}(hq:∀m M',Q m M'->Q' m M')(h:wMts m a vs M Q):wMts m a vs M Q':=by
 cases e:m.isL
 ·rw[JT e]at h ⊢;exact _pQ hq h
 ·rw[JS e]at h ⊢;exact _pP hq h
noncomputable def MT.id:MT->String
 |.dclear=>"dict.clear"|.dget=>"dict.get"|.dgetD=>"dict.get"|.join=>"str.join"
 |.append=>"list.append"|.extend=>"list.extend"|.reverse=>"list.reverse"|.clear=>"list.clear"|.pop=>"list.pop"|.popAt=>"list.pop"|.remove=>"list.remove"
def liM(K:X4)(w:MV->List MV->MH->QM->Prop):V->List V->Hp->VK->Prop:=λx xs H Q=>∃mx ms M,RM K H mx x/\RMs K H ms xs/\RH K M H/\w mx ms M (Dn K H Q)
section
variable{X:Cx}
theorem _nm(m:MT):MtR X m.id (liM X.K (wMl m)):=by
 intro pins s σ H x xs v us Q I rx rs h;obtain⟨mx,ms,M,r1,r2,rh,h⟩:=h;cases r1<;>try exact h.elim
 obtain⟨ys,h1,h⟩:=h;obtain⟨vs,e,q1⟩:=rh.lst h1;have ku:∀o,Kp H (upd H _ o):=λo=>Kp.upd e rfl o;split at h
 ·obtain⟨w,rfl,r3⟩:=r2.one;exact IQ pins s σ H _ _ v us Q I rx rs ⟨_,vs,w,rfl,rfl,e,by rw[<- q1.length];exact h.1,h.2 _ _ (ku _) .non (rh.put (ku _) ((q1.append (.cons r3 .nil)).mono (ku _)))⟩
 ·obtain⟨w,rfl,r3⟩:=r2.one;cases r3;obtain⟨zs,a,b,c⟩:=h;obtain⟨ws,e2,q2⟩:=rh.lst a;exact _iD pins s σ H _ _ v us Q I rx rs ⟨_,_,vs,ws,rfl,rfl,e,e2,by rw[<- q1.length,<- q2.length];exact b,c _ _ (ku _) .non (rh.put (ku _) ((q1.append q2).mono (ku _)))⟩
 ·exact h.elim
theorem _nn(hu:X.A.units+1<cLine)(m:MT):MtR X m.id (liM X.K (wMd m)):=by
 intro pins s σ H x xs v us Q I rx rs h;obtain⟨mx,ms,M,r1,r2,rh,h⟩:=h;cases m<;>try exact h.elim
theorem JU(hu:X.A.units+1<cLine)(m:MT):MtR X m.id (liM X.K (wMts m)):=by
 intro pins s σ H x xs v us Q I rx rs h;obtain⟨mx,ms,M,r1,r2,rh,h⟩:=h;cases e:m.isL
 ·rw[JT e]at h;exact _nn hu m pins s σ H x xs v us Q I rx rs ⟨mx,ms,M,r1,r2,rh,h⟩
 ·rw[JS e]at h;exact _nm m pins s σ H x xs v us Q I rx rs ⟨mx,ms,M,r1,r2,rh,h⟩
end
def wPut(o i v:MV)(M:MH)(Q:MH->Prop):Prop:=match o with
 |.ref a=>(∃xs k j,M a=some (.lst xs)/\i=.int k/\ixN xs.length k=some j/\Q (updM M a (.lst (xs.set j v))))\/∃kvs kk,M a=some (.dic kvs)/\keyM i=some kk/\kvs.length<sizeLine/\Q (updM M a (.dic (putM kvs kk v)))
 |_=>False
theorem JV{o i v:MV}{M:MH}{Q Q':MH->Prop}(hq:∀M',Q M'->Q' M')(h:wPut o i v M Q):wPut o i v M Q':=by
 cases o<;>try exact h.elim
 rcases h with⟨xs,k,j,h1,h2,h3,h4⟩|⟨kvs,kk,h1,h2,h3,h4⟩
 ·exact .inl ⟨xs,k,j,h1,h2,h3,hq _ h4⟩
 ·exact .inr ⟨kvs,kk,h1,h2,h3,hq _ h4⟩
def DnH(K:X4)(H:Hp)(Q:Hp->Prop):MH->Prop:=λM=>∀H',Kp H H'->RH K M H'->Q H'
def JW(K:X4):TSet:=λo i v H Q=>∃mo mi mv M,RM K H mo o/\RM K H mi i/\RM K H mv v/\RH K M H/\wPut mo mi mv M (DnH K H Q)
section
variable{X:Cx}
theorem _mu(hu:X.A.units+1<cLine):PSet X (JW X.K):=by
 intro pins s σ H o i v ov iv u Q I ro ri rv h;obtain⟨mo,mi,mv,M,r1,r2,r3,rh,h⟩:=h;cases r1<;>try exact h.elim
 rcases h with⟨xs,k,j,h1,rfl,h3,h4⟩|⟨kvs,kk,h1,h2,h3,h4⟩
 ·cases r2;obtain⟨vs,e,q1⟩:=rh.lst h1;have k:=Kp.upd e rfl (.lst (vs.set j v));exact _ke pins s σ H _ _ v ov iv u Q I ro ri rv ⟨_,vs,_,j,rfl,rfl,e,by rw[<- q1.length];exact h3,h4 _ k (rh.put k ((q1.set r3 j).mono k))⟩
 ·obtain⟨vs,e,q1,nd⟩:=rh.dic h1;have ek:=WT h2 r2;subst ek;obtain rfl:ov=Xn _:=ro;have k:=Kp.upd e rfl (.dK (putK vs kk v));obtain⟨q2,nd2⟩:=JD (k:=kk) r3 nd q1;exact _jr hu I (DPut.k (k:=kk) e (by rw[<- q1.length];exact h3)) ri rv λs4 I4=>⟨_,I4,h4 _ k (rh.put k ⟨q2.mono k,nd2⟩)⟩
end
end L2
namespace L2
set_option genInjectivity false
set_option genCtorIdx false
open PySem PySem.Spec PyProof.Rows
mutual
inductive ITg where|nm (i:Nat)|tup (ts:ITgs)
inductive ITgs where|nil|cons (t:ITg) (ts:ITgs)
end
mutual
inductive IE where
 |var (i:Nat)
 |int (i:Int)|str (x:Str)|bl (b:Bool)|non
 |glb (x:Str) (i:Int)
 |ty (c:Ty7)
 |bin (op:Uv) (a b:IE)
 |neg (a:IE)
 |not (a:IE)
 |cmp (op:CmpOp) (a b:IE)
 |chn (op op':CmpOp) (a b c:IE)
 |and (a b:IE)
 |or (a b:IE)
 |ife (c a b:IE)
 |tup (es:IEs)
 |lst (es:IEs)
 |dic
 |ix (a b:IE)
 |sl (a:IE) (lo hi:IO)
 |call (j:Nat) (e:IE) (es:IEs)
 |bi (f:BI) (e:IE) (es:IEs)
 |b2 (f:B2) (e:IE)
 |mt (m:MT) (o:IE) (es:IEs)
 |comp (own:List Str) (fr:List Nat) (src:ISr) (tg:ITg) (test:IO) (elt:IE)
 |fld (c:Str) (o:IE) (f:Str)
 |mcall (j:Nat) (c m:Str) (o:IE) (es:IEs)
 |make (j:Nat) (c:Str) (e:IE) (es:IEs)
 |disp (ps:IPs)
 |mxd (e:IE)
 |st3 (e:IE)
inductive IPs where|nil|cons (k v:IE) (r:IPs)
inductive IEs where|nil|cons (e:IE) (es:IEs)
inductive IO where|none|some (e:IE)
inductive ISr where|seq (e:IE)|rng (e:IE)|rng2 (a b:IE)|rng3 (a b c:IE)
end
def wSt3(v:MV)(M:MH)(Q:QM):Prop:=∃(a:Addr) (xs:List MV),v=.ref a/\M a=some (.lst xs)/\∀p,M p=none->Q (.ref p) (updM M p (.lst (st3 xs)))
theorem _no(hq:∀v M,Q v M->Q' v M)(h:wSt3 v M Q):wSt3 v M Q':=by
 obtain⟨a,xs,h1,h2,h3⟩:=h;exact⟨a,xs,h1,h2,λp hp=>hq _ _ (h3 p hp)⟩
def wMxd(v:MV)(M:MH)(Q:QM):Prop:=∃(a:Addr) (ns:List Int),v=.ref a/\M a=some (.lst (ns.map MV.int))/\∀m,(ns=[]/\m=0\/m∈ns/\∀i∈ns,i≤m)->Q (.int m) M
theorem _np(hq:∀v M,Q v M->Q' v M)(h:wMxd v M Q):wMxd v M Q':=by
 obtain⟨a,ns,h1,h2,h3⟩:=h;exact⟨a,ns,h1,h2,λm hm=>hq _ _ (h3 m hm)⟩
inductive Src where|tup (xs:List MV)|lst (a:Addr) (xs:List MV)|rng (lo:Int) (n:Nat)|rst (lo st:Int) (n:Nat)|dic (a:Addr) (o:Obj) (kvs:List (Key×MV))|str (x:Str)
def kM:Key->MV
 |.inl i=>.int i
 |.inr x=>.str x
def Src.items:Src->List MV
 |.tup xs=>xs
 |.lst _ xs=>xs
 |.rng lo n=>(Xr n).map λi=>.int (lo+(i:Nat))
 |.rst lo st n=>(Xr n).map λi=>.int (lo+(i:Nat)*st)
 |.dic _ _ kvs=>kvs.map λp=>kM p.1
 |.str x=>x.cps.toList.map λc=>.str ⟨#[c]⟩
def Src.ok(M:MH):Src->Prop
 |.lst a xs=>M a=some (.lst xs)
 |.dic a o kvs=>M a=some (.fdic o kvs)
 |_=>True
def Src.okF(M:MH):Src->Prop
 |.lst a xs=>M a=some (.lst xs)
 |.dic _ _ _=>False
 |_=>True
def Src.okT(M:MH):Src->Prop
 |.dic a o kvs=>M a=some (.fdic o kvs)
 |_=>True
def Src.thaw(M:MH):Src->MH
 |.dic a _ kvs=>updM M a (.dic kvs)
 |_=>M
noncomputable def Src.len:Src->Nat
 |.tup xs=>xs.length
 |.lst _ xs=>xs.length
 |.rng _ n=>n
 |.rst _ _ n=>n
 |.dic _ _ kvs=>kvs.length
 |.str x=>x.cps.size
theorem Src.items_len(S:Src):S.items.length=S.len:=by cases S<;>simp[Src.items,Src.len]
abbrev SpM:=List MV->MH->QM->Prop
abbrev TSm:=Sm->MH->(Src->MH->Prop)->Prop
mutual
def wTg:ITg->MV->Sm->(Sm->Prop)->Prop
 |.nm i,v,σ,Q=>Q (σ.set i (some v))
 |.tup ts,v,σ,Q=>∃xs,v=.tup xs/\wTgs ts xs σ Q
def wTgs:ITgs->List MV->Sm->(Sm->Prop)->Prop
 |.nil,xs,σ,Q=>xs=[]/\Q σ
 |.cons t ts,xs,σ,Q=>∃v r,xs=v::r/\wTg t v σ λσ'=>wTgs ts r σ' Q
end
noncomputable def sCm(own:List Str)(fr:List Nat)(σ:Sm):Sm:=own.map (λ_=>none)++fr.map (λi=>σ.getD i none)
def onV(o:Option (Option MV))(k:MV->Prop):Prop:=match o with
 |some (some v)=>k v
 |_=>False
theorem _pI{k:MV->Prop}:onV o k=∃v,o=some (some v)/\k v:=by
 refine propext ⟨λh=>?_,fun⟨v,e,h⟩=>by subst e;exact h⟩
 match o,h with
 |some (some v),h=>exact⟨v,rfl,h⟩
def onB(x:MV)(k:Bool->Prop):Prop:=match x with
 |.bl c=>k c
 |_=>False
theorem W9{k:Bool->Prop}:onB x k=∃c,x=.bl c/\k c:=by
 refine propext ⟨λh=>?_,fun⟨v,e,h⟩=>by subst e;exact h⟩
 cases x<;>first|exact⟨_,rfl,h⟩|exact h.elim
def onF(o:Option (Str×SpM))(k:SpM->Prop):Prop:=match o with
 |some p=>k p.2
 |none=>False
theorem _pJ{k:SpM->Prop}:onF o k=∃f sp,o=some (f,sp)/\k sp:=by
 refine propext ⟨λh=>?_,fun⟨f,v,e,h⟩=>by subst e;exact h⟩
 match o,h with
 |some (f,sp),h=>exact⟨f,sp,rfl,h⟩
mutual
def wE(Φ:List (Str×SpM)):IE->TEm
 |.var i,σ,M,Q=>onV σ[i]? λv=>Q v M
 |.int i,_,M,Q=>Q (.int i) M
 |.str x,_,M,Q=>Q (.str x) M
 |.bl b,_,M,Q=>Q (.bl b) M
 |.non,_,M,Q=>Q .non M
 |.glb _ i,_,M,Q=>Q (.int i) M
 |.ty c,_,M,Q=>Q (.ty c) M
 |.bin op a b,σ,M,Q=>wE Φ a σ M λx M1=>wE Φ b σ M1 λy M2=>wBin op x y M2 Q
 |.neg a,σ,M,Q=>wE Φ a σ M λx M1=>∃i,x=.int i/\Q (.int (-i)) M1
 |.not a,σ,M,Q=>wE Φ a σ M λx M1=>onB x λb=>Q (.bl (!b)) M1
 |.cmp op a b,σ,M,Q=>wE Φ a σ M λx M1=>wE Φ b σ M1 λy M2=>wCmp op x y M2 Q
 |.chn op op' a b c,σ,M,Q=>wE Φ a σ M λx M1=>wE Φ b σ M1 λy M2=>wCmp op x y M2 λz M3=>onB z λk=>(if k=true then wE Φ c σ M3 λw M4=>wCmp op' y w M4 Q else Q (.bl false) M3)
 |.and a b,σ,M,Q=>wE Φ a σ M λx M1=>onB x λc=>(if c=true then wE Φ b σ M1 Q else Q (.bl false) M1)
 |.or a b,σ,M,Q=>wE Φ a σ M λx M1=>onB x λc=>(if c=true then Q (.bl true) M1 else wE Φ b σ M1 Q)
 |.ife c a b,σ,M,Q=>wE Φ c σ M λx M1=>onB x λk=>(if k=true then wE Φ a σ M1 Q else wE Φ b σ M1 Q)
 |.tup es,σ,M,Q=>wEs Φ es σ M λvs M1=>vs.length≤sizeLine/\Q (.tup vs) M1
 |.lst es,σ,M,Q=>wEs Φ es σ M λvs M1=>vs.length≤sizeLine/\∀p,M1 p=none->Q (.ref p) (updM M1 p (.lst vs))
 |.dic,_,M,Q=>∀p,M p=none->Q (.ref p) (updM M p (.dic []))
 |.ix a b,σ,M,Q=>wE Φ a σ M λx M1=>wE Φ b σ M1 λy M2=>wIx x y M2 Q
 |.sl a lo hi,σ,M,Q=>wE Φ a σ M λx M1=>wO Φ lo σ M1 λl M2=>wO Φ hi σ M2 λh M3=>wSl x l h M3 Q
 |.call j e es,σ,M,Q=>wE Φ e σ M λv M1=>wEs Φ es σ M1 λvs M2=>onF Φ[j]? λsp=>sp (v::vs) M2 Q
 |.bi f e es,σ,M,Q=>wE Φ e σ M λv M1=>wEs Φ es σ M1 λvs M2=>wBi f (v::vs) M2 Q
 |.b2 f e,σ,M,Q=>wE Φ e σ M λv M1=>wB2 f v M1 Q
 |.mxd e,σ,M,Q=>wE Φ e σ M λv M1=>wMxd v M1 Q
 |.st3 e,σ,M,Q=>wE Φ e σ M λv M1=>wSt3 v M1 Q
 |.mt m o es,σ,M,Q=>wE Φ o σ M λx M1=>mtOk m x M1/\wEs Φ es σ M1 λvs M2=>wMts m x vs M2 Q
 |.comp own fr src tg test elt,σ,M,Q=>wSr Φ src σ M λS M1=>S.len<sizeLine/\∀D,M1 D=none->∃J:Nat->List MV->MH->Prop,J 0 [] (updM M1 D (.lst []))/\
   (∀i ys M2,J i ys M2->M2 D=some (.lst ys)/\ys.length≤i/\S.ok M2)/\
   (∀i x ys M2,S.items[i]?=some x->J i ys M2->wTg tg x (sCm own fr σ) λσ2=>wI Φ test σ2 M2 λb M4=>
    if b=true then wE Φ elt σ2 M4 λy M5=>M5 D=some (.lst ys)/\J (i+1) (ys++[y]) (updM M5 D (.lst (ys++[y])))else J (i+1) ys M4)/\
   ∀ys M2,J S.len ys M2->Q (.ref D) (S.thaw M2)
 |.fld c o f,σ,M,Q=>wE Φ o σ M λx M1=>∃a fs v,x=.ref a/\M1 a=some (.ins c fs)/\valM fs f=some v/\Q v M1
 |.mcall j c m o es,σ,M,Q=>wE Φ o σ M λx M1=>∃a fs,x=.ref a/\M1 a=some (.ins c fs)/\valM fs m=none/\wEs Φ es σ M1 λvs M2=>∃f sp,Φ[j]?=some (f,sp)/\sp (.ref a::vs) M2 Q
 |.make j c e es,σ,M,Q=>wE Φ e σ M λv M1=>wEs Φ es σ M1 λvs M2=>∃f sp,Φ[j]?=some (f,sp)/\∀p,M2 p=none->sp (.ref p::v::vs) (updM M2 p (.ins c [])) λu M3=>u=.non/\Q (.ref p) M3
 |.disp ps,σ,M,Q=>∀p,M p=none->wPs Φ ps σ (updM M p (.dic [])) λl M2=>M2 p=some (.dic [])/\l.length≤15/\Q (.ref p) (updM M2 p (.dic (YM l)))
def wPs(Φ:List (Str×SpM)):IPs->Sm->MH->(List (Key×MV)->MH->Prop)->Prop
 |.nil,_,M,Q=>Q [] M
 |.cons k v r,σ,M,Q=>wE Φ k σ M λx M1=>∃kk,keyM x=some kk/\wE Φ v σ M1 λy M2=>wPs Φ r σ M2 λl M3=>Q ((kk,y)::l) M3
def wEs(Φ:List (Str×SpM)):IEs->TAm
 |.nil,_,M,Q=>Q [] M
 |.cons e es,σ,M,Q=>wE Φ e σ M λv M1=>wEs Φ es σ M1 λvs M2=>Q (v::vs) M2
def wO(Φ:List (Str×SpM)):IO->Sm->MH->(Option Int->MH->Prop)->Prop
 |.none,_,M,Q=>Q none M
 |.some e,σ,M,Q=>wE Φ e σ M λv M1=>∃i,v=.int i/\Q (some i) M1
def wI(Φ:List (Str×SpM)):IO->Sm->MH->(Bool->MH->Prop)->Prop
 |.none,_,M,Q=>Q true M
 |.some e,σ,M,Q=>wE Φ e σ M λv M1=>∃b,v=.bl b/\Q b M1
def wSr(Φ:List (Str×SpM)):ISr->TSm
 |.seq e,σ,M,Q=>wE Φ e σ M λv M1=>(∃xs,(v=.tup xs\/v=.frl xs)/\Q (.tup xs) M1)\/(∃a xs,v=.ref a/\M1 a=some (.lst xs)/\Q (.lst a xs) M1)\/(∃a kvs,v=.ref a/\M1 a=some (.dic kvs)/\∀o,Q (.dic a o kvs) (updM M1 a (.fdic o kvs)))\/∃z,v=.str z/\Q (.str z) M1
 |.rng e,σ,M,Q=>wE Φ e σ M λv M1=>∃j,v=.int j/\ -(2^62)≤j/\j<2^62/\Q (.rng 0 j.toNat) M1
 |.rng2 a b,σ,M,Q=>wE Φ a σ M λx M1=>wE Φ b σ M1 λy M2=>∃i j,x=.int i/\y=.int j/\(-(2^62)≤i/\i<2^62/\ -(2^62)≤j/\j<2^62)/\Q (.rng i (j - i).toNat) M2
 |.rng3 a b c,σ,M,Q=>wE Φ a σ M λx M1=>wE Φ b σ M1 λy M2=>wE Φ c σ M2 λz M3=>∃i j,x=.int i/\y=.int j/\z=.int 2/\(0≤i/\i<2^60/\0≤j/\j<2^60)/\Q (.rst i 2 (len2 i j)) M3
end
section
variable{Φ:List (Str×SpM)}{σ:Sm}{M:MH}{Q:QM}
theorem JX{i:Nat}:wE Φ (.var i) σ M Q=∃v,σ[i]?=some (some v)/\Q v M:=_pI
theorem Ep{a:IE}:wE Φ (.not a) σ M Q=wE Φ a σ M λx M1=>∃b,x=.bl b/\Q (.bl (!b)) M1:=congrArg (wE Φ a σ M) (funext λ_=>funext λ_=>W9)
theorem JY:wE Φ (.chn op op' a b c) σ M Q=wE Φ a σ M λx M1=>wE Φ b σ M1 λy M2=>wCmp op x y M2 λz M3=>∃k,z=.bl k/\(if k=true then wE Φ c σ M3 λw M4=>wCmp op' y w M4 Q else Q (.bl false) M3):=congrArg (wE Φ a σ M) (funext λ_=>funext λ_=>congrArg (wE Φ b σ _) (funext λ_=>funext λ_=>congrArg (wCmp op _ _ _) (funext λ_=>funext λ_=>W9)))
theorem Er{a b:IE}:wE Φ (.and a b) σ M Q=wE Φ a σ M λx M1=>∃c,x=.bl c/\(if c=true then wE Φ b σ M1 Q else Q (.bl false) M1):=congrArg (wE Φ a σ M) (funext λ_=>funext λ_=>W9)
theorem x_or{a b:IE}:wE Φ (.or a b) σ M Q=wE Φ a σ M λx M1=>∃c,x=.bl c/\(if c=true then Q (.bl true) M1 else wE Φ b σ M1 Q):=congrArg (wE Φ a σ M) (funext λ_=>funext λ_=>W9)
theorem JZ{a b c:IE}:wE Φ (.ife c a b) σ M Q=wE Φ c σ M λx M1=>∃k,x=.bl k/\(if k=true then wE Φ a σ M1 Q else wE Φ b σ M1 Q):=congrArg (wE Φ c σ M) (funext λ_=>funext λ_=>W9)
theorem K0{j:Nat}{e:IE}{es:IEs}:wE Φ (.call j e es) σ M Q=wE Φ e σ M λv M1=>wEs Φ es σ M1 λvs M2=>∃f sp,Φ[j]?=some (f,sp)/\sp (v::vs) M2 Q:=congrArg (wE Φ e σ M) (funext λ_=>funext λ_=>congrArg (wEs Φ es σ _) (funext λ_=>funext λ_=>_pJ))
end
mutual
theorem UJ:∀(t:ITg) {v:MV} {σ:Sm} {Q Q':Sm->Prop},(∀σ,Q σ->Q' σ)->wTg t v σ Q->wTg t v σ Q'
 |.nm i,v,σ,Q,Q',hq,h=>by exact hq _ h
 |.tup ts,v,σ,Q,Q',hq,h=>by
  obtain⟨xs,e,h⟩:=h;exact⟨xs,e,mon_tgs ts hq h⟩
theorem mon_tgs:∀(t:ITgs) {v:List MV} {σ:Sm} {Q Q':Sm->Prop},(∀σ,Q σ->Q' σ)->wTgs t v σ Q->wTgs t v σ Q'
 |.nil,v,σ,Q,Q',hq,h=>by exact⟨h.1,hq _ h.2⟩
 |.cons t ts,v,σ,Q,Q',hq,h=>by
  obtain⟨x,r,e,h⟩:=h;exact⟨x,r,e,UJ t (λσ' h'=>mon_tgs ts hq h') h⟩
end
theorem YN{c:Prop} [Decidable c] {A B A' B':Prop}(ha:A->A')(hb:B->B')(h:if c then A else B):if c then A' else B':=by
 split at h
 ·rw[if_pos (by assumption)];exact ha h
 ·rw[if_neg (by assumption)];exact hb h
mutual
theorem X7{Φ:List (Str×SpM)}(hΦ:∀(j:Nat) f sp,Φ[j]?=some (f,sp)->MonW sp):∀e:IE,MonE (wE Φ e)
 |.var i,σ,M,Q,Q',hq,h=>by rw[JX]at h ⊢;obtain⟨v,e,h⟩:=h;exact⟨v,e,hq _ _ h⟩
 |.int _,σ,M,Q,Q',hq,h=>by exact hq _ _ h
 |.str _,σ,M,Q,Q',hq,h=>by exact hq _ _ h
 |.bl _,σ,M,Q,Q',hq,h=>by exact hq _ _ h
 |.non,σ,M,Q,Q',hq,h=>by exact hq _ _ h
 |.glb _ _,σ,M,Q,Q',hq,h=>by exact hq _ _ h
 |.ty _,σ,M,Q,Q',hq,h=>by exact hq _ _ h
 |.bin op a b,σ,M,Q,Q',hq,h=>by
  exact X7 hΦ a (λx M1 h1=>X7 hΦ b (λy M2 h2=>Jw op hq h2) h1) h
 |.neg a,σ,M,Q,Q',hq,h=>by
  exact X7 hΦ a (λx M1 ⟨i,e,h1⟩=>⟨i,e,hq _ _ h1⟩) h
 |.not a,σ,M,Q,Q',hq,h=>by
  rw[Ep]at h ⊢;exact X7 hΦ a (λx M1 ⟨i,e,h1⟩=>⟨i,e,hq _ _ h1⟩) h
 |.cmp op a b,σ,M,Q,Q',hq,h=>by
  exact X7 hΦ a (λx M1 h1=>X7 hΦ b (λy M2 h2=>W7 op hq h2) h1) h
 |.chn op op' a b c,σ,M,Q,Q',hq,h=>by
  rw[JY]at h ⊢;exact X7 hΦ a (λx M1 h1=>X7 hΦ b (λy M2 h2=>W7 op (λz M3 ⟨k,e,h3⟩=>⟨k,e,YN (X7 hΦ c λw M4 h4=>W7 op' hq h4) (hq _ _) h3⟩) h2) h1) h
 |.and a b,σ,M,Q,Q',hq,h=>by
  rw[Er]at h ⊢;exact X7 hΦ a (λx M1 ⟨c,e,h1⟩=>⟨c,e,YN (X7 hΦ b hq) (hq _ _) h1⟩) h
 |.or a b,σ,M,Q,Q',hq,h=>by
  rw[x_or]at h ⊢;exact X7 hΦ a (λx M1 ⟨c,e,h1⟩=>⟨c,e,YN (hq _ _) (X7 hΦ b hq) h1⟩) h
 |.ife c a b,σ,M,Q,Q',hq,h=>by
  rw[JZ]at h ⊢;exact X7 hΦ c (λx M1 ⟨k,e,h1⟩=>⟨k,e,YN (X7 hΦ a hq) (X7 hΦ b hq) h1⟩) h
 |.tup es,σ,M,Q,Q',hq,h=>by
  exact mon_es hΦ es (λvs M1 ⟨e,h1⟩=>⟨e,hq _ _ h1⟩) h
 |.lst es,σ,M,Q,Q',hq,h=>by
  exact mon_es hΦ es (λvs M1 ⟨e,h1⟩=>⟨e,λp hp=>hq _ _ (h1 p hp)⟩) h
 |.dic,σ,M,Q,Q',hq,h=>by
  exact λp hp=>hq _ _ (h p hp)
 |.ix a b,σ,M,Q,Q',hq,h=>by
  exact X7 hΦ a (λx M1 h1=>X7 hΦ b (λy M2 h2=>JK hq h2) h1) h
 |.sl a lo hi,σ,M,Q,Q',hq,h=>by
  exact X7 hΦ a (λx M1 h1=>mon_o hΦ lo (λy M2 h2=>mon_o hΦ hi (λz M3 h3=>JM hq h3) h2) h1) h
 |.call j e es,σ,M,Q,Q',hq,h=>by
  rw[K0]at h ⊢;exact X7 hΦ e (λx M1 h1=>mon_es hΦ es (λy M2 ⟨f,sp,e,h2⟩=>⟨f,sp,e,hΦ _ _ _ e hq h2⟩) h1) h
 |.bi f e es,σ,M,Q,Q',hq,h=>by
  exact X7 hΦ e (λx M1 h1=>mon_es hΦ es (λy M2 h2=>JP f hq h2) h1) h
 |.b2 f e,σ,M,Q,Q',hq,h=>by
  exact X7 hΦ e (λx M1 h1=>JR f hq h1) h
 |.mxd e,σ,M,Q,Q',hq,h=>by
  exact X7 hΦ e (λx M1 h1=>_np hq h1) h
 |.st3 e,σ,M,Q,Q',hq,h=>by
  exact X7 hΦ e (λx M1 h1=>_no hq h1) h
 |.mt m o es,σ,M,Q,Q',hq,h=>by
  exact X7 hΦ o (λx M1 ⟨h0,h1⟩=>⟨h0,mon_es hΦ es (λy M2 h2=>Eo hq h2) h1⟩) h
 |.comp own fr src tg test elt,σ,M,Q,Q',hq,h=>by
  exact mon_sr hΦ src (λS M1 ⟨hz,h1⟩=>⟨hz,λD hD=>by
   obtain⟨J,j0,j1,j2,j3⟩:=h1 D hD;exact⟨J,j0,j1,j2,λys M2 hj=>hq _ _ (j3 ys M2 hj)⟩⟩) h
 |.fld c o f,σ,M,Q,Q',hq,h=>by
  exact X7 hΦ o (λx M1 ⟨a,fs,v,e,e2,e3,h1⟩=>⟨a,fs,v,e,e2,e3,hq _ _ h1⟩) h
 |.mcall j c m o es,σ,M,Q,Q',hq,h=>by
  exact X7 hΦ o (λx M1 ⟨a,fs,e,e2,e3,h1⟩=>⟨a,fs,e,e2,e3,mon_es hΦ es (λy M2 ⟨f,sp,e,h2⟩=>⟨f,sp,e,hΦ _ _ _ e hq h2⟩) h1⟩) h
 |.make j c e es,σ,M,Q,Q',hq,h=>by
  exact X7 hΦ e (λx M1 h1=>mon_es hΦ es (λy M2 ⟨f,sp,e,h2⟩=>⟨f,sp,e,λp hp=>hΦ _ _ _ e (λm M' z=>⟨z.1,hq _ _ z.2⟩) (h2 p hp)⟩) h1) h
 |.disp ps,σ,M,Q,Q',hq,h=>by
  exact λp hp=>mon_ps hΦ ps (λl M2 ⟨e,e2,h1⟩=>⟨e,e2,hq _ _ h1⟩) (h p hp)
theorem mon_ps(hΦ:∀(j:Nat) f sp,Φ[j]?=some (f,sp)->MonW sp):∀(e:IPs) {σ M} {Q Q':List (Key×MV)->MH->Prop},(∀m M',Q m M'->Q' m M')->wPs Φ e σ M Q->wPs Φ e σ M Q'
 |.nil,σ,M,Q,Q',hq,h=>by exact hq _ _ h
 |.cons k v r,σ,M,Q,Q',hq,h=>by
  exact X7 hΦ k (λx M1 ⟨kk,e,h1⟩=>⟨kk,e,X7 hΦ v (λy M2 h2=>mon_ps hΦ r (λl M3 h3=>hq _ _ h3) h2) h1⟩) h
theorem mon_es{Φ:List (Str×SpM)}(hΦ:∀(j:Nat) f sp,Φ[j]?=some (f,sp)->MonW sp):∀e:IEs,MonA (wEs Φ e)
 |.nil,σ,M,Q,Q',hq,h=>by exact hq _ _ h
 |.cons e es,σ,M,Q,Q',hq,h=>by
  exact X7 hΦ e (λx M1 h1=>mon_es hΦ es (λy M2 h2=>hq _ _ h2) h1) h
theorem mon_o{Φ:List (Str×SpM)}(hΦ:∀(j:Nat) f sp,Φ[j]?=some (f,sp)->MonW sp):∀(e:IO) {σ M} {Q Q':Option Int->MH->Prop},(∀m M',Q m M'->Q' m M')->wO Φ e σ M Q->wO Φ e σ M Q'
 |.none,σ,M,Q,Q',hq,h=>by exact hq _ _ h
 |.some e,σ,M,Q,Q',hq,h=>by
  exact X7 hΦ e (λx M1 ⟨i,e,h1⟩=>⟨i,e,hq _ _ h1⟩) h
theorem mon_i(hΦ:∀(j:Nat) f sp,Φ[j]?=some (f,sp)->MonW sp):∀(e:IO) {σ M} {Q Q':Bool->MH->Prop},(∀m M',Q m M'->Q' m M')->wI Φ e σ M Q->wI Φ e σ M Q'
 |.none,σ,M,Q,Q',hq,h=>by exact hq _ _ h
 |.some e,σ,M,Q,Q',hq,h=>by
  exact X7 hΦ e (λx M1 ⟨i,e,h1⟩=>⟨i,e,hq _ _ h1⟩) h
theorem mon_sr{Φ:List (Str×SpM)}(hΦ:∀(j:Nat) f sp,Φ[j]?=some (f,sp)->MonW sp):∀(e:ISr) {σ M} {Q Q':Src->MH->Prop},(∀m M',Q m M'->Q' m M')->wSr Φ e σ M Q->wSr Φ e σ M Q'
 |.seq e,σ,M,Q,Q',hq,h=>by
  exact X7 hΦ e (λx M1 h1=>by
   rcases h1 with⟨xs,e,h1⟩|⟨a,xs,e,e2,h1⟩|⟨a,xs,e,e2,h1⟩|⟨z,e,h1⟩
   ·exact .inl ⟨xs,e,hq _ _ h1⟩
   ·exact .inr (.inl ⟨a,xs,e,e2,hq _ _ h1⟩)
   ·exact .inr (.inr (.inl ⟨a,xs,e,e2,λo=>hq _ _ (h1 o)⟩))
   ·exact .inr (.inr (.inr ⟨z,e,hq _ _ h1⟩))) h
 |.rng e,σ,M,Q,Q',hq,h=>by
  exact X7 hΦ e (λx M1 ⟨j,e,a,b,h1⟩=>⟨j,e,a,b,hq _ _ h1⟩) h
 |.rng2 a b,σ,M,Q,Q',hq,h=>by
  exact X7 hΦ a (λx M1 h1=>X7 hΦ b (λy M2 ⟨i,j,e,e2,c,h2⟩=>⟨i,j,e,e2,c,hq _ _ h2⟩) h1) h
 |.rng3 a b c,σ,M,Q,Q',hq,h=>by
  exact X7 hΦ a (λx M1 h1=>X7 hΦ b (λy M2 h2=>X7 hΦ c (λz M3 ⟨i,j,e,e2,e3,c,h3⟩=>⟨i,j,e,e2,e3,c,hq _ _ h3⟩) h2) h1) h
end
end L2
namespace L2
open PySem PySem.Spec PyProof.Rows
structure GI where
 bl:List Str
 gl:List (Str×Int)
 fns:List Str
 mts:List (Nat×Str×Str):=[]
 mks:List (Nat×Str):=[]
 cls:List (Str×Str):=[]
noncomputable def visB(sc:Scope)(x:Str):Bool:=match sc.names.lookup x with
 |some .local=>true|some .cell=>true|some .free=>true|_=>false
noncomputable def locB(sc:Scope)(x:Str):Bool:=match sc.names.lookup x with
 |some .local=>true|some .cell=>true|_=>false
noncomputable def glB(sc:Scope)(x:Str):Bool:=decide (sc.names.lookup x=some .globalImplicit)&& !(x==("__debug__":Str))&&decide (x≠"__name__")
noncomputable def Wa(scope osc:Scope):Scope:={scope with names:=scope.names.map fun(n,k)=>if(k==.free&&osc.kind==.function&&osc.names.lookup n==some .cell)then(n,.cell)else(n,k)}
noncomputable def BI.name:BI->String
 |.len=>"len"|.isinst=>"isinstance"|.max=>"max"|.min=>"min"|.sum=>"sum"|.abs=>"abs"|.int=>"int"|.list=>"list"|.tuple=>"tuple"|.dict=>"dict"|.sorted=>"sorted"|.dictL=>"dict"|.all=>"all"
noncomputable def MT.name:MT->String
 |.dclear=>"clear"|.dget=>"get"|.dgetD=>"get"|.join=>"join"
 |.append=>"append"|.extend=>"extend"|.reverse=>"reverse"|.clear=>"clear"|.pop=>"pop"|.popAt=>"pop"|.remove=>"remove"
def WU:Expr->Bool
 |.Slice ..=>false|_=>true
def WV:Expr->Bool
 |.Set ..=>false|_=>true
noncomputable def tok:IE->Bool
 |.ife ..=>false
 |.not a=>tok a
 |.and a b=>tok a&&tok b
 |.or a b=>tok a&&tok b
 |_=>true
def YO:Expr->Option Str|.Name x _=>some x|_=>none
def Wb:Expr->Option Const|.Constant c _ _=>some c|_=>none
def Es:Expr->Option (Expr×Uv×Expr)|.BinOp l o r _=>some (l,o,r)|_=>none
def asUn:Expr->Option (UnaryOp×Expr)|.UnaryOp o x _=>some (o,x)|_=>none
noncomputable def CA:Expr->Option (Expr×List CmpOp×List Expr)|.Compare l o r _=>some (l,o,r)|_=>none
noncomputable def CB:Expr->Option (BoolOp×List Expr×Pos)|.BoolOp o vs p=>some (o,vs,p)|_=>none
def asIf:Expr->Option (Expr×Expr×Expr)|.IfExp t x y _=>some (t,x,y)|_=>none
def WW:Expr->Option (List Expr)|.Tuple xs _ _=>some xs|_=>none
def Et:Expr->Option (List Expr)|.List xs _=>some xs|_=>none
noncomputable def K1:Expr->Option (List (Option Expr)×List Expr)|.Dict ks vs _=>some (ks,vs)|_=>none
def WX:Expr->Option (Expr×Expr)|.Subscript x y _=>some (x,y)|_=>none
noncomputable def asSl:Expr->Option (Option Expr×Option Expr×Option Expr)|.Slice l u s _=>some (l,u,s)|_=>none
noncomputable def Zd:Expr->Option (Expr×List Expr×List Z5×Pos)|.Call f xs ks p=>some (f,xs,ks,p)|_=>none
def Wc:Expr->Option (Expr×Str×Pos)|.Attribute o n p=>some (o,n,p)|_=>none
noncomputable def asLC:Expr->Option (Expr×List Comprehension×Scope)|.ListComp e gs sc _=>some (e,gs,sc)|_=>none
def the1{α:Type}:List α->Option α|[x]=>some x|_=>none
def the3{α:Type}:List α->Option (α×α×α)|[x,y,z]=>some (x,y,z)|_=>none
def the2{α:Type}:List α->Option (α×α)|[x,y]=>some (x,y)|_=>none
def hd1{α:Type}:List α->Option (α×List α)|x::r=>some (x,r)|_=>none
def hd2{α:Type}:List α->Option (α×α×List α)|x::y::r=>some (x,y,r)|_=>none
def non0{α:Type}:List α->Bool|[]=>true|_=>false
theorem nos{α:Type}{x:α}{C:Prop}(h:none=some x):C:=nomatch h
theorem nob{C:Prop}(h:false=true):C:=nomatch h
theorem Xf{α:Type}{o:Option α}{p:α->Bool}(h:o.any p=true):∃x,o=some x/\p x=true:=by
 cases o with
 |none=>cases h
 |some x=>exact⟨x,rfl,h⟩
section
variable{e:Expr}
theorem _3{x:Str}(h:YO e=some x):∃p,e=.Name x p:=by revert h;cases e<;>first|exact nos|(intro h;cases h;exact⟨_,rfl⟩)
theorem CC{x:Const}(h:Wb e=some x):∃k p,e=.Constant x k p:=by revert h;cases e<;>first|exact nos|(intro h;cases h;exact⟨_,_,rfl⟩)
theorem _ln{x:Expr×Uv×Expr}(h:Es e=some x):∃p,e=.BinOp x.1 x.2.1 x.2.2 p:=by revert h;cases e<;>first|exact nos|(intro h;cases h;exact⟨_,rfl⟩)
theorem K2{x:UnaryOp×Expr}(h:asUn e=some x):∃p,e=.UnaryOp x.1 x.2 p:=by revert h;cases e<;>first|exact nos|(intro h;cases h;exact⟨_,rfl⟩)
theorem K3{x:Expr×List CmpOp×List Expr}(h:CA e=some x):∃p,e=.Compare x.1 x.2.1 x.2.2 p:=by revert h;cases e<;>first|exact nos|(intro h;cases h;exact⟨_,rfl⟩)
theorem K4{x:BoolOp×List Expr×Pos}(h:CB e=some x):e=.BoolOp x.1 x.2.1 x.2.2:=by revert h;cases e<;>first|exact nos|(intro h;cases h;rfl)
theorem _ol{x:Expr×Expr×Expr}(h:asIf e=some x):∃p,e=.IfExp x.1 x.2.1 x.2.2 p:=by revert h;cases e<;>first|exact nos|(intro h;cases h;exact⟨_,rfl⟩)
theorem Eu{x:List Expr}(h:WW e=some x):∃k p,e=.Tuple x k p:=by revert h;cases e<;>first|exact nos|(intro h;cases h;exact⟨_,_,rfl⟩)
theorem _li{x:List Expr}(h:Et e=some x):∃p,e=.List x p:=by revert h;cases e<;>first|exact nos|(intro h;cases h;exact⟨_,rfl⟩)
theorem asDic_of{x:List (Option Expr)×List Expr}(h:K1 e=some x):∃p,e=.Dict x.1 x.2 p:=by revert h;cases e<;>first|exact nos|(intro h;cases h;exact⟨_,rfl⟩)
theorem Ev{x:Expr×Expr}(h:WX e=some x):∃p,e=.Subscript x.1 x.2 p:=by revert h;cases e<;>first|exact nos|(intro h;cases h;exact⟨_,rfl⟩)
theorem _oi{x:Option Expr×Option Expr×Option Expr}(h:asSl e=some x):∃p,e=.Slice x.1 x.2.1 x.2.2 p:=by revert h;cases e<;>first|exact nos|(intro h;cases h;exact⟨_,rfl⟩)
theorem _L{x:Expr×List Expr×List Z5×Pos}(h:Zd e=some x):e=.Call x.1 x.2.1 x.2.2.1 x.2.2.2:=by revert h;cases e<;>first|exact nos|(intro h;cases h;rfl)
theorem CD{x:Expr×Str×Pos}(h:Wc e=some x):e=.Attribute x.1 x.2.1 x.2.2:=by revert h;cases e<;>first|exact nos|(intro h;cases h;rfl)
theorem _ok{x:Expr×List Comprehension×Scope}(h:asLC e=some x):∃p,e=.ListComp x.1 x.2.1 x.2.2 p:=by revert h;cases e<;>first|exact nos|(intro h;cases h;exact⟨_,rfl⟩)
theorem _p{α:Type}{l:List α}{x:α}(h:the1 l=some x):l=[x]:=by
 match l,h with
 |[_],h=>cases h;rfl
theorem Ew{α:Type}{l:List α}{x:α×α}(h:the2 l=some x):l=[x.1,x.2]:=by
 match l,h with
 |[_,_],h=>cases h;rfl
theorem _mo{α:Type}{l:List α}{x:α×α×α}(h:the3 l=some x):l=[x.1,x.2.1,x.2.2]:=by
 match l,h with
 |[_,_,_],h=>cases h;rfl
theorem Ub{α:Type}{l:List α}{x:α×List α}(h:hd1 l=some x):l=x.1::x.2:=by
 match l,h with
 |_::_,h=>cases h;rfl
theorem K5{α:Type}{l:List α}{x:α×α×List α}(h:hd2 l=some x):l=x.1::x.2.1::x.2.2:=by
 match l,h with
 |_::_::_,h=>cases h;rfl
theorem Yn{α:Type}{l:List α}(h:non0 l=true):l=[]:=by
 match l,h with
 |[],_=>rfl
end
def K6(e:Expr):Bool:=(YO e).isSome||(Wb e).isSome||(Es e).isSome||(asUn e).isSome||(CA e).isSome||(CB e).isSome||(asIf e).isSome||(WW e).isSome||(Et e).isSome||(K1 e).isSome||(WX e).isSome||(Zd e).isSome||(asLC e).isSome||(Wc e).isSome
mutual
def Ze(sc:Scope)(N:List Str)(lim:Nat)(all:Bool):ITg->Expr->Bool
 |.nm i,e=>(YO e).any λx=>decide (N[i]?=some x)&&decide (i<lim)&&(if all then locB sc x else decide (sc.names.lookup x=some .local))
 |.tup ts,e=>(WW e).any λes=>chkTgs sc N lim all ts es
def chkTgs(sc:Scope)(N:List Str)(lim:Nat)(all:Bool):ITgs->List Expr->Bool
 |.nil,l=>non0 l
 |.cons t ts,l=>(hd1 l).any λq=>Ze sc N lim all t q.1&&chkTgs sc N lim all ts q.2
end
mutual
def chkE(G:GI):IE->Scope->List Str->Expr->Bool
 |.var i,sc,N,e=>(YO e).any fun x=>decide (N[i]?=some x)&&visB sc x&& !(x==("__debug__":Str))&& !(x==("__classdict__":Str))
 |.int i,_,_,e=>(Wb e).any λc=>decide (c=.int i)
 |.str x,_,_,e=>(Wb e).any λc=>decide (c=.str x)
 |.bl b,_,_,e=>(Wb e).any λc=>decide (c=.bool b)
 |.non,_,_,e=>(Wb e).any λc=>decide (c=.none)
 |.glb x i,sc,_,e=>(YO e).any λy=>decide (x=y)&&decide (G.gl.lookup x=some i)&&glB sc x
 |.ty c,sc,_,e=>(YO e).any λy=>decide (y=(c.name:Str))&&decide (c≠.none)&&G.bl.contains y&&glB sc y
 |.bin op a b,sc,N,e=>(Es e).any λq=>decide (op=q.2.1)&&chkE G a sc N q.1&&chkE G b sc N q.2.2
 |.neg a,sc,N,e=>(asUn e).any λq=>decide (q.1=.USub)&&chkE G a sc N q.2
 |.not a,sc,N,e=>(asUn e).any λq=>decide (q.1=.Not)&&chkE G a sc N q.2
 |.cmp op a b,sc,N,e=>(CA e).any λq=>(the1 q.2.1).any λo=>(the1 q.2.2).any λr=>decide (op=o)&&chkE G a sc N q.1&&chkE G b sc N r&& !behindInMarks op r
 |.chn op op' a b c,sc,N,e=>(CA e).any λq=>(the2 q.2.1).any λo=>(the2 q.2.2).any λr=>decide (op=o.1)&&decide (op'=o.2)&&chkE G a sc N q.1&&chkE G b sc N r.1&&chkE G c sc N r.2&& !lastMarks [op,op'] [r.1,r.2]
 |.and a b,sc,N,e=>(CB e).any λq=>(hd2 q.2.1).any λv=>decide (q.1=.And)&&chkE G a sc N v.1&&chkE G b sc N (if non0 v.2.2 then v.2.1 else .BoolOp .And (v.2.1::v.2.2) q.2.2)
 |.or a b,sc,N,e=>(CB e).any λq=>(hd2 q.2.1).any λv=>decide (q.1=.Or)&&chkE G a sc N v.1&&chkE G b sc N (if non0 v.2.2 then v.2.1 else .BoolOp .Or (v.2.1::v.2.2) q.2.2)
 |.ife c a b,sc,N,e=>(asIf e).any λq=>tok c&&chkE G c sc N q.1&&chkE G a sc N q.2.1&&chkE G b sc N q.2.2
 |.tup es,sc,N,e=>(WW e).any λxs=>chkEs G es sc N xs
 |.lst es,sc,N,e=>(Et e).any λxs=>chkEs G es sc N xs
 |.dic,_,_,_=>false
 |.ix a b,sc,N,e=>(WX e).any λq=>chkE G a sc N q.1&&chkE G b sc N q.2&&WU q.2
 |.sl a lo hi,sc,N,e=>(WX e).any λq=>(asSl q.2).any λs=>chkE G a sc N q.1&&chkO G lo sc N s.1&&chkO G hi sc N s.2.1&& !s.2.2.isSome
 |.call j f es,sc,N,e=>(Zd e).any λq=>(YO q.1).any λg=>(hd1 q.2.1).any λx=>non0 q.2.2.1&&decide (G.fns[j]?=some g)&&glB sc g&&chkE G f sc N x.1&&chkEs G es sc N x.2
 |.bi f a es,sc,N,e=>(Zd e).any λq=>(YO q.1).any λg=>(hd1 q.2.1).any λx=>non0 q.2.2.1&&decide (g=(f.name:Str))&&G.bl.contains g&&glB sc g&&chkE G a sc N x.1&&chkEs G es sc N x.2
 |.b2 f a,sc,N,e=>(Zd e).any λq=>(YO q.1).any λg=>(the1 q.2.1).any λy=>(Zd y).any λr=>(YO r.1).any λk=>(the1 r.2.1).any λx=>non0 q.2.2.1&&non0 r.2.2.1&&decide (g=(f.out:Str))&&decide (k=(f.inn:Str))&&G.bl.contains g&&G.bl.contains k&&glB sc g&&glB sc k&&chkE G a sc N x
 |.st3 a,_,_,_=>false
 |.mxd a,_,_,_=>false
 |.mt m o es,sc,N,e=>(Zd e).any λq=>(Wc q.1).any λa=>non0 q.2.2.1&&decide (a.2.1=(m.name:Str))&&(a.2.2.endLine==q.2.2.2.line)&&chkE G o sc N a.1&&chkEs G es sc N q.2.1&&decide (q.2.1.length<20)
 |.comp own fr src tg test elt,sc,N,e=>(asLC e).any λq=>(the1 q.2.1).any λg=>W3 sc q.2.2 N own fr&&WV g.iter&&decide (nC own fr N).Nodup&&chkSr G src sc N g.iter&&Ze (Wa q.2.2 sc) (nC own fr N) own.length false tg g.target&&
   chkI G test (Wa q.2.2 sc) (nC own fr N) g.ifs&&chkE G elt (Wa q.2.2 sc) (nC own fr N) q.1&&decide (g.is_async=0)
 |.fld c o f,sc,N,e=>(Wc e).any λa=>decide (a.2.1=f)&&G.cls.contains (c,f)&&chkE G o sc N a.1
 |.mcall j c m o es,sc,N,e=>(Zd e).any λq=>(Wc q.1).any λa=>non0 q.2.2.1&&decide (a.2.1=m)&&G.mts.contains (j,c,m)&&chkE G o sc N a.1&&chkEs G es sc N q.2.1&&(a.2.2.endLine==q.2.2.2.line)&&decide (q.2.1.length<20)
 |.make j c a es,sc,N,e=>(Zd e).any λq=>(YO q.1).any λg=>(hd1 q.2.1).any λx=>non0 q.2.2.1&&decide (g=c)&&G.mks.contains (j,c)&&glB sc g&&chkE G a sc N x.1&&chkEs G es sc N x.2
 |.disp ps,_,_,_=>false
def WY(G:GI):IPs->Scope->List Str->List (Option Expr)->List Expr->Bool
 |.nil,_,_,l,r=>non0 l&&non0 r
 |.cons k v ps,sc,N,l,r=>(hd1 l).any λq=>(hd1 r).any λs=>q.1.any λx=>chkE G k sc N x&&chkE G v sc N s.1&&WY G ps sc N q.2 s.2
def chkEs(G:GI):IEs->Scope->List Str->List Expr->Bool
 |.nil,_,_,l=>non0 l
 |.cons e es,sc,N,l=>(hd1 l).any λq=>chkE G e sc N q.1&&chkEs G es sc N q.2
def chkO(G:GI):IO->Scope->List Str->Option Expr->Bool
 |.none,_,_,o=>!o.isSome
 |.some e,sc,N,o=>o.any λx=>chkE G e sc N x
def chkI(G:GI):IO->Scope->List Str->List Expr->Bool
 |.none,_,_,l=>non0 l
 |.some e,sc,N,l=>(the1 l).any λx=>tok e&&chkE G e sc N x
def chkSr(G:GI):ISr->Scope->List Str->Expr->Bool
 |.seq a,sc,N,e=>chkE G a sc N e
 |.rng a,sc,N,e=>(Zd e).any fun q=>(YO q.1).any fun f=>(the1 q.2.1).any fun x=>non0 q.2.2.1&&decide (f=("range":Str))&&G.bl.contains f&&glB sc f&&chkE G a sc N x
 |.rng2 a b,sc,N,e=>(Zd e).any fun q=>(YO q.1).any fun f=>(the2 q.2.1).any fun x=>non0 q.2.2.1&&decide (f=("range":Str))&&G.bl.contains f&&glB sc f&&chkE G a sc N x.1&&chkE G b sc N x.2
 |.rng3 a b c,sc,N,e=>(Zd e).any fun q=>(YO q.1).any fun f=>(the3 q.2.1).any fun x=>non0 q.2.2.1&&decide (f=("range":Str))&&G.bl.contains f&&glB sc f&&chkE G a sc N x.1&&chkE G b sc N x.2.1&&chkE G c sc N x.2.2
end
def liSp(K:X4)(sp:SpM):Sp:=λvs H Q _=>∃ms M,RMs K H ms vs/\RH K M H/\sp ms M (Dn K H Q)
structure Cok (X:Cx) (G:GI) (Φ:List (Str×SpM)):Prop where
 room:X.A.units+70<cLine
 calm:X.calm=true
 nox:X.xe=λ_ _=>False
 blk:X.env.blockKind=.function
 nd:X.N.Nodup
 bls:∀x,G.bl.contains x=true->X.mg x=none
 gls:∀x i,G.gl.lookup x=some i->∃tk,X.mg x=some (.int i tk)
 fnn:∀(j:Nat) f,G.fns[j]?=some f->∃sp,Φ[j]?=some (f,sp)
 mon:∀(j:Nat) f sp,Φ[j]?=some (f,sp)->MonW sp
 fns:∀(j:Nat) f sp,G.fns[j]?=some f->Φ[j]?=some (f,sp)->∃k fa fd ps,Room k X.A/\FnOk X.prog X.w X.K X.mg X.base CX0 k fa fd ps (liSp X.K sp)/\X.mg f=some (.ref fa)/\XW X.K (.ref fa)=true/\Binds X.K fd ps []
 mts:∀(j:Nat) c m,G.mts.contains (j,c,m)=true->∃f sp,Φ[j]?=some (f,sp)/\∃k C fa fd ps,Room k X.A/\FnOk X.prog X.w X.K X.mg X.base CX0 k fa fd ps (liSp X.K sp)/\XA X.K Xo c=some (some (.ref C))/\Cls X.K C/\Meth X.K C m fa/\Binds X.K fd ps []
 mks:∀(j:Nat) c,G.mks.contains (j,c)=true->∃f sp,Φ[j]?=some (f,sp)/\∃k C fa fd ps,Room (k+1) X.A/\FnOk X.prog X.w X.K X.mg X.base CX0 k fa fd ps (liSp X.K sp)/\XA X.K Xo c=some (some (.ref C))/\X.mg c=some (.ref C)/\Mk X.K C fa/\Binds X.K fd ps []
 cls:∀c f,G.cls.contains (c,f)=true->∃C,XA X.K Xo c=some (some (.ref C))/\Cls X.K C/\NoAttr X.K C f
section
variable{X:Cx}{G:GI}{Φ:List (Str×SpM)}
theorem _oz{sc:Scope}{x:Str}(h:visB sc x=true):Vis sc x:=by
 unfold visB at h;unfold Vis;cases e:sc.names.lookup x with
 |none=>rw[e]at h;cases h
 |some k=>rw[e]at h;cases k<;>first|exact .inl rfl|exact .inr (.inl rfl)|exact .inr (.inr rfl)|cases h
theorem CF{sc:Scope}{x:Str}(h:locB sc x=true):Loc sc x:=by
 unfold locB at h;unfold Loc;cases e:sc.names.lookup x with
 |none=>rw[e]at h;cases h
 |some k=>rw[e]at h;cases k<;>first|exact .inl rfl|exact .inr rfl|cases h
theorem _M{x:Str}(h:glB X.env.scope x=true):Gl X x/\(x==("__debug__":Str))=false/\x≠"__name__":=by
 unfold glB at h;simp only[XX,decide_eq_true_eq,Bool.not_eq_true']at h;exact⟨h.1.1,h.1.2,h.2⟩
theorem _od(f:BI):YA (f.name:Str)=some f.val:=by cases f<;>(show YA _=some _;decide+kernel)
theorem _oc{c:Ty7}(h:c≠.none):YA (c.name:Str)=some (.type c.name):=by cases c<;>first|exact absurd rfl h|decide+kernel
theorem boot_range:YA ("range":Str)=some (.type "range"):=by decide+kernel
theorem _hH:∀{ie:IE} {sc:Scope} {N:List Str} {e:Expr},chkE G ie sc N e=true->K6 e=true:=by
 intro ie sc N e h;cases ie
 all_goals
  first
   |exact absurd h Xx
   |(replace h:=Xf h
     obtain⟨x,hx,_⟩:=h;simp only[K6,hx,DZ,BV,BU])
theorem XT:∀{ie:IE} {sc:Scope} {N:List Str} {e:Expr} {es:List Expr} {env:Env},chkE G ie sc N e=true->Xw (e::es) env=(false,eval e env)::Xw es env:=by
 intro ie sc N e es env h;cases e<;>first|rfl|cases _hH h
theorem Uc:∀{ies:IEs} {sc:Scope} {N:List Str} {es:List Expr} {env:Env} {pos:Pos},chkEs G ies sc N es=true->(Xw es env).all (λx=>!x.1)=true
 |.nil,sc,N,es,_,_,h=>by
  cases Yn h
  rfl
 |.cons e es,sc,N,xs,env,pos,h=>by
  replace h:=Xf h;obtain⟨q,h1,h2⟩:=h;cases Ub h1;rw[XX]at h2;rw[XT h2.1,UW];exact Uc (pos:=pos) h2.2
theorem _kI:∀{ie:IE} {sc:Scope} {N:List Str} {x:Str} {px p:Pos} {ks:List Z5},chkE G ie sc N (.Call (.Name x px) [] ks p)=true->False:=by
 intro ie sc N x px p ks h;cases ie
 all_goals exact absurd h Xx
set_option tactic.hygienic true in
theorem WZ{ie:IE}{sc:Scope}{N:List Str}{o:Expr}{nm:Str}{env:Env}(h:chkE G ie sc N o=true):Uw o nm env (eval o env)=eval o env:=by
 cases o<;>try rfl
 rename_i fn args kw pos
 cases fn<;>try rfl
 cases args with
 |cons a r=>rfl
 |nil=>exact(_kI h).elim
theorem UK{pos:Pos}{l:List (Bool×Sem X0)}(h:l.all (λx=>!x.1)=true):(XZ pos l).all (λx=>!x.1)=true/\(XZ pos l).any (·.1)=false:=by
 induction l with
 |nil=>exact⟨rfl,rfl⟩
 |cons a r ih=>
  rw[UW,XX]at h;obtain⟨h1,h2⟩:=ih h.2;have e:a.1=false:=by simpa using h.1
  unfold XZ at h1 h2 ⊢;rw[Xy,UW,ZB,h1,h2];obtain⟨b,t⟩:=a;cases e;exact⟨rfl,rfl⟩
end
def tCW2(own:List Str)(fr:List Nat)(g:TG)(tt:TT)(te:TE)(σ:St)(H1:Hp)(Q:VK)(J:It)(D:Addr):Prop:=∃W:Nat->Nat->List V->Hp->Prop,
 (∃m,W 0 m [] (upd H1 D (.lst [])))/\∀i m ys H2,W i m ys H2->
  ((J.stop i H2/\Q (.ref D) H2)\/(J.go i H2/\∃N:List V->Hp->Prop,(∀ys' H',N ys' H'->∃m',m'<m/\W (i+1) m' ys' H')/\∀x H3,J.yld i H2 x H3->g x (sC own fr σ) H3 λσ2 H4=>Keep (sC own fr σ) σ2/\tt σ2 H4 λb H5=>
   if b=true then te σ2 H5 λy H6=>∃zs,H6 D=some (.lst zs)/\zs.length<sizeLine/\N (zs++[y]) (upd H6 D (.lst (zs++[y])))else N ys H5))
def Ex(own:List Str)(fr:List Nat)(wi:TI)(g:TG)(tt:TT)(te:TE):TE:=λσ H Q=>wi σ H λJ H1=>∀D,H1 D=none->tCW2 own fr g tt te σ H1 Q J D
section
variable{X:Cx}{pins:List (Addr×Obj)}{σ:St}{H1:Hp}{s2:X2}{tg elt iter:Expr}{ifs:List Expr}{scope:Scope}{pos:Pos}{own:List Str}{fr:List Nat}{g:TG}{tt:TT}{te:TE}
theorem K7{J:It}{fp:List Addr}{it:Addr}{tn:Nat->Heap->Prop}{RR:X0->Addr->Result->X2->Prop}{Q:VK}{E:X0->X2->Prop}(hc:X.calm=true)(ok:CompOk X.env.scope scope X.N fr)
  (hg:∀C fp s₃ H₃,PG (cxC X scope own fr C fp s₃ H₃) tg g) (ht:∀C fp s₃ H₃,PTs (cxC X scope own fr C fp s₃ H₃) ifs tt) (he:∀C fp s₃ H₃,PE (cxC X scope own fr C fp s₃ H₃) elt te)
  (I2:Inv X pins σ H1 s2) (T:Turn X.prog X.w X.K tg J fp it tn) (st:tn 0 s2.heap) (hf:∀b∈fp,FpOk X pins H1 b)
  (h:∀D,H1 D=none->tCW2 own fr g tt te σ H1 Q J D)
  (hRR:∀D C H' s',Inv X pins σ H' s'->(∃m,s'.heap.Ns C m)->H' C=none->C≠X.env.locals->X.s₀.heap.objs.size≤C->(∀x c,X.env.cells.lookup x=some c->c≠C)->(∀p∈X.pn++pins,p.1≠C)->Q (.ref D) H'->RR (.ref D) C (.ok .next) s'):
  X3 (X6 X.prog X.w) X.A (newList []) (λacc s₃=>X3 (X6 X.prog X.w) X.A (newFunctionEnv scope X.env.globals (clOf X.env.cells scope.names []) [] X.env.qual none .none (some X.env)) (λcenv s₄=>
   YU (X6 X.prog X.w) X.A (.compStart (.ListComp elt [⟨tg,iter,ifs,0⟩] scope pos) 0 (.ref it) acc {cenv with scope:=relabel scope X.env}) (RR acc cenv.locals) s₄) E s₃) E s2:=by
 have hD:H1 s2.heap.objs.size=none:=I2.hok.fresh (Xg _);obtain⟨W,⟨m0,w0⟩,step⟩:=h _ hD;refine U0 (wpAny_newFunctionEnv ok.nocell (by intro y hy;simp at hy) (λh4 ns4 sb4=>?_) ok.kind)
 dsimp only at ns4 sb4 ⊢;have I3:Inv X pins σ (upd H1 s2.heap.objs.size (.lst [])) {s2 with heap:=s2.heap.push {cls:=.type "list",dict:=none,data:=.seq ([]:List X0).toArray},toks:=s2.toks}:=
  I2.laid (λb u e=>Xp _ e) (Xg _) ⟨YK _,[],0,.nil,XM _ rfl⟩
 have fpo:∀b∈fp,∃o,s2.heap.get? b=some o:=λb hb=>let⟨o,e,_⟩:=T.obj 0 _ st b hb;⟨o,e⟩
 have fpD:∀b∈fp,b≠s2.heap.objs.size:=λb hb=>let⟨o,e⟩:=fpo b hb;XC (Xu e)
 have hf3:∀b∈fp,FpOk X pins (upd H1 s2.heap.objs.size (.lst [])) b:=λb hb=>⟨by rw[XG (fpD b hb)];exact(hf b hb).1,(hf b hb).2⟩
 generalize hs3:({s2 with heap:=s2.heap.push {cls:=.type "list",dict:=none,data:=.seq ([]:List X0).toArray},toks:=s2.toks}:X2)=s3 at*;have e3:s2.heap.push {cls:=.type "list",dict:=none,data:=.seq ([]:List X0).toArray}=s3.heap:=by rw[<- hs3]
 rw[e3]at ns4 sb4 ⊢;have kp:∀b o,s3.heap.get? b=some o->h4.get? b=some o:=λb o e=>(sb4.2 b (XC (Xu e))).trans (Xp _ e);have fpo3:∀b∈fp,∃o,s3.heap.get? b=some o:=λb hb=>let⟨o,e⟩:=fpo b hb;⟨o,by rw[<- e3];exact Xp _ e⟩
 have I4:=_hB (own:=own) (scope:=scope) (fr:=fr) (tk:=s2.toks+0) ok I3 rfl hf3 fpo3 ns4 kp;have st4:tn 0 h4:=T.keep _ _ _ st λb hb o e=>kp b o (by rw[<- e3];exact Xp _ e)
 have fpC:∀b∈fp,b≠s3.heap.objs.size:=λb hb=>let⟨o,e⟩:=fpo3 b hb;XC (Xu e)
 have stat:∀{H':Hp},(∀b∈fp,H' b=none)->∀b∈fp,FpOk (cxC X scope own fr s3.heap.objs.size fp s3 (upd H1 s2.heap.objs.size (.lst []))) pins H' b:=λhn b hb=>by
  refine⟨hn b hb,fpC b hb,λz=>?_,.inl hb,λx c e=>?_,(hf b hb).2.2.2.2.2⟩
  ·rcases Xl.mp (I3.stkSub b z)with z|z
   ·exact(hf b hb).2.1 z
   ·exact(hf b hb).2.2.1 z
  ·exact(hf b hb).2.2.2.2.1 x c ((WN _ _ _ _ _ e).elim (λz=>by simp at z) id)
 have loop:YU (X6 X.prog X.w) X.A (.compLoop (.ListComp elt [⟨tg,iter,ifs,0⟩] scope pos) 0 (.ref it) (.ref s2.heap.objs.size) (compEnvC scope (clOf X.env.cells scope.names []) s3.heap.objs.size X.env))
   (RR (.ref s2.heap.objs.size) s3.heap.objs.size) {s3 with heap:=h4,toks:=s2.toks+0}:=by
  refine _eQ (λn s'=>∃i ys H',Inv (cxC X scope own fr s3.heap.objs.size fp s3 (upd H1 s2.heap.objs.size (.lst []))) pins (sC own fr σ) H' s'/\tn i s'.heap/\(∀b∈fp,H' b=none)/\W i n ys H') ?_ m0
   ⟨0,[],_,I4,st4,λb hb=>(hf3 b hb).1,w0⟩
  rintro n s5 ⟨i,ys,H5,I5,st5,fr5,w5⟩;have way:=step i n ys H5 w5;rcases way with⟨stop,q⟩|⟨go,N,hN,turn⟩
  ·refine thn (T.done (cxC X scope own fr s3.heap.objs.size fp s3 (upd H1 s2.heap.objs.size (.lst []))) rfl rfl rfl hc i pins s5 _ H5 _ I5 (stat fr5) st5 stop) λr s6 ⟨hr,I6⟩=>?_;subst hr;have J6:Inv X pins σ H5 s6:=I3.call' I6.os I6.base I6.hok I6.bare λb hb=>⟨(hf b hb).2.2.2.1,(hf b hb).2.1,(hf b hb).2.2.2.2.1,(hf b hb).2.2.2.2.2⟩;obtain⟨m6,ns6,_⟩:=I6.loc;refine hRR _ _ H5 s6 J6 ⟨m6,ns6⟩ I6.free (V3 I3.lt) I3.sz (λx c e=>?_) (λp hp=>?_) q
   ·obtain⟨v,z⟩:=I3.cell x c e;exact XC z.lt
   ·exact XC (Xu (I3.pin p hp).1)
  ·refine thn (T.item (cxC X scope own fr s3.heap.objs.size fp s3 (upd H1 s2.heap.objs.size (.lst []))) rfl rfl rfl hc i pins s5 _ H5 _ I5 (stat fr5) st5 go) λr s6 ⟨u,hr,h6⟩=>?_;subst hr;refine thn h6 λ_ s7 ⟨x,H7,I7,r7,y7,st7,fr7⟩=>?_;have I7':=I7.pinned (stat fr7) (T.obj _ _ st7);refine thn (hg _ _ _ _ _ s7 _ H7 x u _ I7' r7 (turn x H7 y7)) λ_ s8 ⟨σ8,H8,I8,kp8,q8⟩=>?_;have again:∀{H9:Hp} {s9:X2},Inv (cxC X scope own fr s3.heap.objs.size fp s3 (upd H1 s2.heap.objs.size (.lst []))) (pins++VX fp s7.heap) σ8 H9 s9->∀{ys'},(∃m',m'<n/\W (i+1) m' ys' H9)->
     ∃m,m<n/\∃i ys H',Inv (cxC X scope own fr s3.heap.objs.size fp s3 (upd H1 s2.heap.objs.size (.lst []))) pins (sC own fr σ) H' s9/\tn i s9.heap/\(∀b∈fp,H' b=none)/\W i m ys H':=fun{H9 s9} I9 {ys'} ⟨m',hm,w9⟩=>by
    refine⟨m',hm,i+1,ys',H9,(I9.unpinned).weak kp8.1 kp8.2,T.keep _ _ _ st7 λb hb o e=>(I9.pin (b,o) (Zz _ (Zz _ (Cn hb e)))).1,λb hb=>?_,w9⟩;obtain⟨o,e,d⟩:=T.obj _ _ st7 b hb;exact(I9.pin (b,o) (Zz _ (Zz _ (Cn hb e)))).2.1
   have fin:∀{ok:Bool} {s9:X2} {H9:Hp},Inv (cxC X scope own fr s3.heap.objs.size fp s3 (upd H1 s2.heap.objs.size (.lst []))) (pins++VX fp s7.heap) σ8 H9 s9->
     (if ok=true then te σ8 H9 λy H6=>∃zs,H6 s2.heap.objs.size=some (.lst zs)/\zs.length<sizeLine/\N (zs++[y]) (upd H6 s2.heap.objs.size (.lst (zs++[y])))else N ys H9)->
     (if ok=true then X3 (X6 X.prog X.w) X.A (eval elt (compEnvC scope (clOf X.env.cells scope.names []) s3.heap.objs.size X.env)) (λx s₄=>
      X3 (X6 X.prog X.w) X.A (call (.builtin "list.append") [.ref s2.heap.objs.size,x]) (fun _ s₅=>∃m,m<n/\∃i ys H',Inv (cxC X scope own fr s3.heap.objs.size fp s3 (upd H1 s2.heap.objs.size (.lst []))) pins (sC own fr σ) H' s₅/\tn i s₅.heap/\(∀b∈fp,H' b=none)/\W i m ys H') (fun _ _=>False) s₄) (fun _ _=>False) s9
      else∃m,m<n/\∃i ys H',Inv (cxC X scope own fr s3.heap.objs.size fp s3 (upd H1 s2.heap.objs.size (.lst []))) pins (sC own fr σ) H' s9/\tn i s9.heap/\(∀b∈fp,H' b=none)/\W i m ys H'):=fun{ok s9 H9} I9 q9=>by
    cases ok with
    |false=>
     rw[if_neg Xx]at q9 ⊢;exact again I9 (hN _ _ q9)
    |true=>
     rw[if_pos rfl]at q9 ⊢;refine thn (he _ _ _ _ _ s9 σ8 H9 _ I9 q9) λv s10 ⟨y,H10,I10,r10,zs,hl10,hz5,w10⟩=>?_;refine thn (IQ (X:=cxC X scope own fr s3.heap.objs.size fp s3 (upd H1 s2.heap.objs.size (.lst []))) _ s10 σ8 H10 (.ref s2.heap.objs.size) [y] (.ref s2.heap.objs.size) [v] (λ_ H'=>H'=upd H10 s2.heap.objs.size (.lst (zs++[y]))) I10 rfl (.cons r10 .nil) ⟨_,zs,y,rfl,rfl,hl10,hz5,rfl⟩) λ_ s11 ⟨_,H11,I11,_,e11⟩=>?_;subst e11;exact again I11 (hN _ _ w10)
   rcases ht s3.heap.objs.size fp s3 (upd H1 s2.heap.objs.size (.lst []))with⟨e,et⟩|⟨c,e,hcT⟩
   ·subst e et;exact wpAny_tests_nil (fin (ok:=true) I8 q8)
   ·subst e;exact wpAny_tests_one (thn (hcT _ s8 σ8 H8 _ I8 q8) λb s9 ⟨H9,I9,q9⟩=>fin I9 q9)
 subst hs3;exact codeAny_compStart_list loop (T.self _ 0 _ _ _ st4 loop)
theorem _ky(own:List Str)(fr:List Nat){wi:TI}(hx:∀e s,¬X.xe e s)(hc:X.calm=true)(ok:W3 X.env.scope scope X.N own fr=true)(hi:PI X tg iter wi)
  (hg:∀C fp s₃ H₃,PG (cxC X scope own fr C fp s₃ H₃) tg g) (ht:∀C fp s₃ H₃,PTs (cxC X scope own fr C fp s₃ H₃) ifs tt) (he:∀C fp s₃ H₃,PE (cxC X scope own fr C fp s₃ H₃) elt te)
  (hs:∀x,Bu iter X.env x=pure x:=by intro _;rfl):
  PE X (.ListComp elt [⟨tg,iter,ifs,0⟩] scope pos) (Ex own fr wi g tt te):=by
 have ok':=W4 ok;intro pins s σ H Q I h;rw[eval_ListComp];refine wpAny_comprehension_free (use:=none) (cl:=clOf X.env.cells scope.names []) rfl hs (J1 λy hy hk=>I.ok.has y.1 (ok'.has y hy hk)) ok'.kind ok'.names (thn (hi pins s σ H _ I h) λv s1 h1=>thn h1 λitv s2 h2=>?_);obtain⟨it,fp,tn,J,H2,e,I2,T,st2,f2,R⟩:=h2;subst e;refine K7 (RR:=λacc C=>compPost (X6 X.prog X.w) X.A X.xe none (EP X pins σ Q) acc C) (Q:=Q) hc ok' hg ht he I2 T st2 f2 R ?_;rintro D C H' s' I' ⟨m,ns⟩ c1 c2 c3 c4 c5 q;refine⟨m,ns,λh' sb=>⟨.ref D,H',?_,rfl,q⟩⟩;exact I'.turned (t':=s'.toks) (λb o hb e=>(sb.2 b hb).trans e) c1 c2 (.inr c3) c4 c5
theorem _fw(own:List Str)(fr:List Nat){i:Nat}{y:Str}{py spos:Pos}{wi:TI}(hN:X.N.Nodup)(hi:X.N[i]?=some y) (hy:Loc X.env.scope y) (hx:∀e s,¬X.xe e s) (hc:X.calm=true) (ok:W3 X.env.scope scope X.N own fr=true) (hit:PI X tg iter wi)
  (hg:∀C fp s₃ H₃,PG (cxC X scope own fr C fp s₃ H₃) tg g) (ht:∀C fp s₃ H₃,PTs (cxC X scope own fr C fp s₃ H₃) ifs tt) (he:∀C fp s₃ H₃,PE (cxC X scope own fr C fp s₃ H₃) elt te)
  (hsw:Zv (.ListComp elt [⟨tg,iter,ifs,0⟩] scope pos) (some (.Name y py)) spos.line X.env=pure true:=by rfl) (hs:∀x,Bu iter X.env x=pure x:=by intro _;rfl)
  (hf:X.fn y=true\/X.env.scope.names.lookup y=some .local:=by first|exact .inl rfl|exact .inr rfl|assumption):
  PS X (.Assign [.Name y py] (.ListComp elt [⟨tg,iter,ifs,0⟩] scope pos) spos) (tAsg (Ex own fr wi g tt te) (Cm i)):=by
 have ok':=W4 ok;intro pins s σ H D I h;rw[exec_Assign_Name_used _ _ _ _ hsw];refine X1 (wpAny_standAt (X1 ?_));show X3 _ X.A (do let _<- comprehension (.ListComp elt [⟨tg,iter,ifs,0⟩] scope pos) scope X.env _ (newList []) false (eval iter X.env) (some (assign (.Name y py) X.env))) _ _ s
 refine X1 (Zt (wpAny_comprehension_free (use:=some (assign (.Name y py) X.env)) (cl:=clOf X.env.cells scope.names []) (Q:=λ_ s'=>SP X pins D .next s') rfl hs (J1 λy hy hk=>I.ok.has y.1 (ok'.has y hy hk)) ok'.kind ok'.names
  (thn (hit pins s σ H _ I h) λv s1 h1=>thn h1 λitv s2 h2=>?_)) (λ_ s' hq=>X8 (X8 hq)) λ_ _ e=>e)
 obtain⟨it,fp,tn,J,H2,e,I2,T,st2,f2,R⟩:=h2;subst e;refine K7 (RR:=λacc C=>compPost (X6 X.prog X.w) X.A X.xe (some (assign (.Name y py) X.env)) (λ_ s'=>SP X pins D .next s') acc C) (Q:=λv H'=>D.nx (σ.set i (some v)) H') hc ok' hg ht he I2 T st2 f2 R ?_;rintro E C H' s' I' ⟨m,ns⟩ c1 c2 c3 c4 c5 q;show X3 _ X.A (assign (.Name y py) X.env (.ref E)) _ _ _;refine wpAny_assign_Name (I0 I' hN hi hy (v:=.ref E) (u:=.ref E) rfl (λs'' I'' sb=>?_) hf);obtain⟨a,sb,ha⟩:=sb;have hCa:C≠a:=by
  rcases ha with z|z
  ·rw[z];exact c2
  ·exact λe=>c4 _ _ z e.symm
 refine⟨m,ns.sameBut sb hCa,λh' sb'=>⟨_,H',?_,q⟩⟩;exact I''.turned (t':=s''.toks) (λb o hb e=>(sb'.2 b hb).trans e) c1 c2 (.inr c3) c4 c5
end
section
variable{G:GI}{sc:Scope}{N:List Str}{e:Expr}
theorem Xd{a b:Bool}(h:(a&&b)=true):a=true/\b=true:=by rwa [XX]at h
theorem XJ{p:Prop} [Decidable p] (h:decide p=true):p:=of_decide_eq_true h
theorem not_of{b:Bool}(h:(!b)=true):b=false:=by cases b with|false=>rfl|true=>cases h
theorem _nB{i:Nat}(h:chkE G (.var i) sc N e=true):∃x p,e=.Name x p/\N[i]?=some x/\visB sc x=true/\(x==("__debug__":Str))=false/\(x==("__classdict__":Str))=false:=by
 replace h:=Xf h;obtain⟨x,h1,h⟩:=h;obtain⟨p,rfl⟩:=_3 h1;replace h:=Xd h;obtain⟨h,h5⟩:=h;replace h:=Xd h;obtain⟨h,h4⟩:=h;replace h:=Xd h;obtain⟨h2,h3⟩:=h;exact⟨x,p,rfl,XJ h2,h3,not_of h4,not_of h5⟩
theorem _nJ{i:Int}(h:chkE G (.int i) sc N e=true):∃k p,e=.Constant (.int i) k p:=by
 replace h:=Xf h;obtain⟨x,h1,h⟩:=h;obtain⟨k,p,rfl⟩:=CC h1;exact⟨k,p,by rw[XJ h]⟩
theorem _nD{i:Str}(h:chkE G (.str i) sc N e=true):∃k p,e=.Constant (.str i) k p:=by
 replace h:=Xf h;obtain⟨x,h1,h⟩:=h;obtain⟨k,p,rfl⟩:=CC h1;exact⟨k,p,by rw[XJ h]⟩
theorem _qb{i:Bool}(h:chkE G (.bl i) sc N e=true):∃k p,e=.Constant (.bool i) k p:=by
 replace h:=Xf h;obtain⟨x,h1,h⟩:=h;obtain⟨k,p,rfl⟩:=CC h1;exact⟨k,p,by rw[XJ h]⟩
theorem _nG(h:chkE G .non sc N e=true):∃k p,e=.Constant .none k p:=by
 replace h:=Xf h;obtain⟨x,h1,h⟩:=h;obtain⟨k,p,rfl⟩:=CC h1;exact⟨k,p,by rw[XJ h]⟩
theorem _nL{x:Str}{i:Int}(h:chkE G (.glb x i) sc N e=true):∃p,e=.Name x p/\G.gl.lookup x=some i/\glB sc x=true:=by
 replace h:=Xf h;obtain⟨y,h1,h⟩:=h;obtain⟨p,rfl⟩:=_3 h1;replace h:=Xd h;obtain⟨h,h4⟩:=h;replace h:=Xd h;obtain⟨h2,h3⟩:=h;obtain rfl:=XJ h2;exact⟨p,rfl,XJ h3,h4⟩
theorem _q6{c:Ty7}(h:chkE G (.ty c) sc N e=true):∃p,e=.Name (c.name:Str) p/\c≠.none/\G.bl.contains (c.name:Str)=true/\glB sc (c.name:Str)=true:=by
 replace h:=Xf h;obtain⟨y,h1,h⟩:=h;obtain⟨p,rfl⟩:=_3 h1;replace h:=Xd h;obtain⟨h,h5⟩:=h;replace h:=Xd h;obtain⟨h,h4⟩:=h;replace h:=Xd h;obtain⟨h2,h3⟩:=h;obtain rfl:=XJ h2;exact⟨p,rfl,XJ h3,h4,h5⟩
theorem _nP{op:Uv}{a b:IE}(h:chkE G (.bin op a b) sc N e=true):∃l r p,e=.BinOp l op r p/\chkE G a sc N l=true/\chkE G b sc N r=true:=by
 replace h:=Xf h;obtain⟨⟨l,o,r⟩,h1,h⟩:=h;obtain⟨p,rfl⟩:=_ln h1;replace h:=Xd h;obtain⟨h,h4⟩:=h;replace h:=Xd h;obtain⟨h2,h3⟩:=h;obtain rfl:=XJ h2;exact⟨l,r,p,rfl,h3,h4⟩
theorem _nH{a:IE}(h:chkE G (.neg a) sc N e=true):∃l p,e=.UnaryOp .USub l p/\chkE G a sc N l=true:=by
 replace h:=Xf h;obtain⟨⟨o,l⟩,h1,h⟩:=h;obtain⟨p,rfl⟩:=K2 h1;replace h:=Xd h;obtain⟨h2,h3⟩:=h;obtain rfl:=XJ h2;exact⟨l,p,rfl,h3⟩
theorem _nF{a:IE}(h:chkE G (.not a) sc N e=true):∃l p,e=.UnaryOp .Not l p/\chkE G a sc N l=true:=by
 replace h:=Xf h;obtain⟨⟨o,l⟩,h1,h⟩:=h;obtain⟨p,rfl⟩:=K2 h1;replace h:=Xd h;obtain⟨h2,h3⟩:=h;obtain rfl:=XJ h2;exact⟨l,p,rfl,h3⟩
theorem _nN{op:CmpOp}{a b:IE}(h:chkE G (.cmp op a b) sc N e=true):∃l r p,e=.Compare l [op] [r] p/\chkE G a sc N l=true/\chkE G b sc N r=true/\behindInMarks op r=false:=by
 replace h:=Xf h;obtain⟨⟨l,os,rs⟩,h1,h⟩:=h;obtain⟨p,rfl⟩:=K3 h1;replace h:=Xf h;obtain⟨o,h2,h⟩:=h;replace h:=Xf h;obtain⟨r,h3,h⟩:=h;obtain rfl:=_p h2;obtain rfl:=_p h3;replace h:=Xd h;obtain⟨h,h7⟩:=h;replace h:=Xd h;obtain⟨h,h6⟩:=h;replace h:=Xd h;obtain⟨h4,h5⟩:=h;obtain rfl:=XJ h4;exact⟨l,r,p,rfl,h5,h6,not_of h7⟩
theorem _nO{op op':CmpOp}{a b c:IE}(h:chkE G (.chn op op' a b c) sc N e=true):∃l m r p,e=.Compare l [op,op'] [m,r] p/\chkE G a sc N l=true/\chkE G b sc N m=true/\chkE G c sc N r=true/\lastMarks [op,op'] [m,r]=false:=by
 replace h:=Xf h;obtain⟨⟨l,os,rs⟩,h1,h⟩:=h;obtain⟨p,rfl⟩:=K3 h1;replace h:=Xf h;obtain⟨⟨o,o'⟩,h2,h⟩:=h;replace h:=Xf h;obtain⟨⟨m,r⟩,h3,h⟩:=h;obtain rfl:=Ew h2;obtain rfl:=Ew h3;replace h:=Xd h;obtain⟨h,h9⟩:=h;replace h:=Xd h;obtain⟨h,h8⟩:=h;replace h:=Xd h;obtain⟨h,h7⟩:=h;replace h:=Xd h;obtain⟨h,h6⟩:=h;replace h:=Xd h;obtain⟨h4,h5⟩:=h;obtain rfl:=XJ h4;obtain rfl:=XJ h5;exact⟨l,m,r,p,rfl,h6,h7,h8,not_of h9⟩
theorem _nQ{a b:IE}(h:chkE G (.and a b) sc N e=true):∃l r rest p,e=.BoolOp .And (l::r::rest) p/\chkE G a sc N l=true/\((rest=[]/\chkE G b sc N r=true)\/chkE G b sc N (.BoolOp .And (r::rest) p)=true):=by
 replace h:=Xf h;obtain⟨⟨o,vs,p⟩,h1,h⟩:=h;obtain rfl:=K4 h1;replace h:=Xf h;obtain⟨⟨l,r,rest⟩,h2,h⟩:=h;obtain rfl:=K5 h2;replace h:=Xd h;obtain⟨h,h4⟩:=h;replace h:=Xd h;obtain⟨h2,h3⟩:=h;obtain rfl:=XJ h2;refine⟨l,r,rest,p,rfl,h3,?_⟩;cases rest with
 |nil=>exact .inl ⟨rfl,h4⟩
 |cons _ _=>exact .inr h4
theorem _q8{a b:IE}(h:chkE G (.or a b) sc N e=true):∃l r rest p,e=.BoolOp .Or (l::r::rest) p/\chkE G a sc N l=true/\((rest=[]/\chkE G b sc N r=true)\/chkE G b sc N (.BoolOp .Or (r::rest) p)=true):=by
 replace h:=Xf h;obtain⟨⟨o,vs,p⟩,h1,h⟩:=h;obtain rfl:=K4 h1;replace h:=Xf h;obtain⟨⟨l,r,rest⟩,h2,h⟩:=h;obtain rfl:=K5 h2;replace h:=Xd h;obtain⟨h,h4⟩:=h;replace h:=Xd h;obtain⟨h2,h3⟩:=h;obtain rfl:=XJ h2;refine⟨l,r,rest,p,rfl,h3,?_⟩;cases rest with
 |nil=>exact .inl ⟨rfl,h4⟩
 |cons _ _=>exact .inr h4
theorem _nK{a b c:IE}(h:chkE G (.ife c a b) sc N e=true):∃t x y p,e=.IfExp t x y p/\tok c=true/\chkE G c sc N t=true/\chkE G a sc N x=true/\chkE G b sc N y=true:=by
 replace h:=Xf h;obtain⟨⟨t,x,y⟩,h1,h⟩:=h;obtain⟨p,rfl⟩:=_ol h1;replace h:=Xd h;obtain⟨h,h5⟩:=h;replace h:=Xd h;obtain⟨h,h4⟩:=h;replace h:=Xd h;obtain⟨h2,h3⟩:=h;exact⟨t,x,y,p,rfl,h2,h3,h4,h5⟩
theorem _nC{es:IEs}(h:chkE G (.tup es) sc N e=true):∃xs k p,e=.Tuple xs k p/\chkEs G es sc N xs=true:=by
 replace h:=Xf h;obtain⟨xs,h1,h⟩:=h;obtain⟨k,p,rfl⟩:=Eu h1;exact⟨xs,k,p,rfl,h⟩
theorem _nI{es:IEs}(h:chkE G (.lst es) sc N e=true):∃xs p,e=.List xs p/\chkEs G es sc N xs=true:=by
 replace h:=Xf h;obtain⟨xs,h1,h⟩:=h;obtain⟨p,rfl⟩:=_li h1;exact⟨xs,p,rfl,h⟩
theorem _qa{a b:IE}(h:chkE G (.ix a b) sc N e=true):∃x y p,e=.Subscript x y p/\chkE G a sc N x=true/\chkE G b sc N y=true/\WU y=true:=by
 replace h:=Xf h;obtain⟨⟨x,y⟩,h1,h⟩:=h;obtain⟨p,rfl⟩:=Ev h1;replace h:=Xd h;obtain⟨h,h4⟩:=h;replace h:=Xd h;obtain⟨h2,h3⟩:=h;exact⟨x,y,p,rfl,h2,h3,h4⟩
theorem _q7{a:IE}{lo hi:IO}(h:chkE G (.sl a lo hi) sc N e=true):∃x l u p p2,e=.Subscript x (.Slice l u none p2) p/\chkE G a sc N x=true/\chkO G lo sc N l=true/\chkO G hi sc N u=true:=by
 replace h:=Xf h;obtain⟨⟨x,y⟩,h1,h⟩:=h;obtain⟨p,rfl⟩:=Ev h1;replace h:=Xf h;obtain⟨⟨l,u,st⟩,h2,h⟩:=h;obtain⟨p2,rfl⟩:=_oi h2;replace h:=Xd h;obtain⟨h,h6⟩:=h;replace h:=Xd h;obtain⟨h,h5⟩:=h;replace h:=Xd h;obtain⟨h3,h4⟩:=h;cases st with
 |some _=>cases h6
 |none=>exact⟨x,l,u,p,p2,rfl,h3,h4,h5⟩
theorem _kV{j:Nat}{a:IE}{es:IEs}(h:chkE G (.call j a es) sc N e=true):∃f p x xs p2,e=.Call (.Name f p) (x::xs) [] p2/\G.fns[j]?=some f/\glB sc f=true/\chkE G a sc N x=true/\chkEs G es sc N xs=true:=by
 replace h:=Xf h;obtain⟨⟨f,l,ks,p2⟩,h1,h⟩:=h;obtain rfl:=_L h1;replace h:=Xf h;obtain⟨g,h2,h⟩:=h;obtain⟨p,rfl⟩:=_3 h2;replace h:=Xf h;obtain⟨⟨x,xs⟩,h3,h⟩:=h;obtain rfl:=Ub h3;replace h:=Xd h;obtain⟨h,h8⟩:=h;replace h:=Xd h;obtain⟨h,h7⟩:=h;replace h:=Xd h;obtain⟨h,h6⟩:=h;replace h:=Xd h;obtain⟨h4,h5⟩:=h;obtain rfl:=Yn h4;exact⟨g,p,x,xs,p2,rfl,XJ h5,h6,h7,h8⟩
theorem _qc{f:BI}{a:IE}{es:IEs}(h:chkE G (.bi f a es) sc N e=true):∃p x xs p2,e=.Call (.Name (f.name:Str) p) (x::xs) [] p2/\G.bl.contains (f.name:Str)=true/\glB sc (f.name:Str)=true/\chkE G a sc N x=true/\chkEs G es sc N xs=true:=by
 replace h:=Xf h;obtain⟨⟨f',l,ks,p2⟩,h1,h⟩:=h;obtain rfl:=_L h1;replace h:=Xf h;obtain⟨g,h2,h⟩:=h;obtain⟨p,rfl⟩:=_3 h2;replace h:=Xf h;obtain⟨⟨x,xs⟩,h3,h⟩:=h;obtain rfl:=Ub h3;replace h:=Xd h;obtain⟨h,h9⟩:=h;replace h:=Xd h;obtain⟨h,h8⟩:=h;replace h:=Xd h;obtain⟨h,h7⟩:=h;replace h:=Xd h;obtain⟨h,h6⟩:=h;replace h:=Xd h;obtain⟨h4,h5⟩:=h;obtain rfl:=Yn h4;obtain rfl:=XJ h5;exact⟨p,x,xs,p2,rfl,h6,h7,h8,h9⟩
theorem _qd{f:B2}{a:IE}(h:chkE G (.b2 f a) sc N e=true):∃p p' x p2 p2',e=.Call (.Name (f.out:Str) p) [.Call (.Name (f.inn:Str) p') [x] [] p2'] [] p2/\G.bl.contains (f.out:Str)=true/\G.bl.contains (f.inn:Str)=true/\glB sc (f.out:Str)=true/\glB sc (f.inn:Str)=true/\chkE G a sc N x=true:=by
 replace h:=Xf h;obtain⟨⟨f',l,ks,p2⟩,h1,h⟩:=h;obtain rfl:=_L h1;replace h:=Xf h;obtain⟨g,h2,h⟩:=h;obtain⟨p,rfl⟩:=_3 h2;replace h:=Xf h;obtain⟨y,h3,h⟩:=h;obtain rfl:=_p h3;replace h:=Xf h;obtain⟨⟨f'',l',ks',p2'⟩,h4,h⟩:=h;obtain rfl:=_L h4;replace h:=Xf h;obtain⟨k,h5,h⟩:=h;obtain⟨p',rfl⟩:=_3 h5;replace h:=Xf h;obtain⟨x,h6,h⟩:=h;obtain rfl:=_p h6;simp only[XX]at h;obtain⟨⟨⟨⟨⟨⟨⟨⟨a1,a2⟩,a3⟩,a4⟩,a5⟩,a6⟩,a7⟩,a8⟩,a9⟩:=h;obtain rfl:=Yn a1;obtain rfl:=Yn a2;obtain rfl:=XJ a3;obtain rfl:=XJ a4;exact⟨p,p',x,p2,p2',rfl,a5,a6,a7,a8,a9⟩
theorem _q9{m:MT}{o:IE}{es:IEs}(h:chkE G (.mt m o es) sc N e=true):∃ob ap args cp,e=.Call (.Attribute ob (m.name:Str) ap) args [] cp/\(ap.endLine==cp.line)=true/\chkE G o sc N ob=true/\chkEs G es sc N args=true/\args.length<20:=by
 replace h:=Xf h;obtain⟨⟨f',args,ks,cp⟩,h1,h⟩:=h;obtain rfl:=_L h1;replace h:=Xf h;obtain⟨⟨ob,nm,ap⟩,h2,h⟩:=h;obtain rfl:=CD h2;replace h:=Xd h;obtain⟨h,h8⟩:=h;replace h:=Xd h;obtain⟨h,h7⟩:=h;replace h:=Xd h;obtain⟨h,h6⟩:=h;replace h:=Xd h;obtain⟨h,h5⟩:=h;replace h:=Xd h;obtain⟨h3,h4⟩:=h;obtain rfl:=Yn h3;obtain rfl:=XJ h4;exact⟨ob,ap,args,cp,rfl,h5,h6,h7,XJ h8⟩
theorem K8{own:List Str}{fr:List Nat}{src:ISr}{tg:ITg}{test:IO}{elt:IE}(h:chkE G (.comp own fr src tg test elt) sc N e=true):∃x t it ifs scope p,e=.ListComp x [⟨t,it,ifs,0⟩] scope p/\W3 sc scope N own fr=true/\WV it=true/\
  (nC own fr N).Nodup/\chkSr G src sc N it=true/\Ze (Wa scope sc) (nC own fr N) own.length false tg t=true/\chkI G test (Wa scope sc) (nC own fr N) ifs=true/\chkE G elt (Wa scope sc) (nC own fr N) x=true:=by
 replace h:=Xf h;obtain⟨⟨x,gs,scope⟩,h1,h⟩:=h;obtain⟨p,rfl⟩:=_ok h1;replace h:=Xf h;obtain⟨⟨t,it,ifs,k⟩,h2,h⟩:=h;obtain rfl:=_p h2;replace h:=Xd h;obtain⟨h,h9⟩:=h;replace h:=Xd h;obtain⟨h,h8⟩:=h;replace h:=Xd h;obtain⟨h,h7⟩:=h;replace h:=Xd h;obtain⟨h,h6⟩:=h;replace h:=Xd h;obtain⟨h,h5⟩:=h;replace h:=Xd h;obtain⟨h,h4⟩:=h;replace h:=Xd h;obtain⟨h2,h3⟩:=h;obtain rfl:=XJ h9;exact⟨x,t,it,ifs,scope,p,rfl,h2,h3,XJ h4,h5,h6,h7,h8⟩
theorem _nM{c f:Str}{o:IE}(h:chkE G (.fld c o f) sc N e=true):∃ob p,e=.Attribute ob f p/\G.cls.contains (c,f)=true/\chkE G o sc N ob=true:=by
 replace h:=Xf h;obtain⟨⟨ob,nm,p⟩,h1,h⟩:=h;obtain rfl:=CD h1;replace h:=Xd h;obtain⟨h,h4⟩:=h;replace h:=Xd h;obtain⟨h2,h3⟩:=h;obtain rfl:=XJ h2;exact⟨ob,p,rfl,h3,h4⟩
theorem _j1{j:Nat}{c m:Str}{o:IE}{es:IEs}(h:chkE G (.mcall j c m o es) sc N e=true):∃ob ap args cp,e=.Call (.Attribute ob m ap) args [] cp/\G.mts.contains (j,c,m)=true/\chkE G o sc N ob=true/\chkEs G es sc N args=true/\(ap.endLine==cp.line)=true/\args.length<20:=by
 replace h:=Xf h;obtain⟨⟨f',args,ks,cp⟩,h1,h⟩:=h;obtain rfl:=_L h1;replace h:=Xf h;obtain⟨⟨ob,nm,ap⟩,h2,h⟩:=h;obtain rfl:=CD h2;simp only[XX]at h;obtain⟨⟨⟨⟨⟨⟨a1,a2⟩,a3⟩,a4⟩,a5⟩,a6⟩,a7⟩:=h;obtain rfl:=Yn a1;obtain rfl:=XJ a2;exact⟨ob,ap,args,cp,rfl,a3,a4,a5,a6,XJ a7⟩
theorem _kU{j:Nat}{c:Str}{a:IE}{es:IEs}(h:chkE G (.make j c a es) sc N e=true):∃p x xs p2,e=.Call (.Name c p) (x::xs) [] p2/\G.mks.contains (j,c)=true/\glB sc c=true/\chkE G a sc N x=true/\chkEs G es sc N xs=true:=by
 replace h:=Xf h;obtain⟨⟨f',l,ks,p2⟩,h1,h⟩:=h;obtain rfl:=_L h1;replace h:=Xf h;obtain⟨g,h2,h⟩:=h;obtain⟨p,rfl⟩:=_3 h2;replace h:=Xf h;obtain⟨⟨x,xs⟩,h3,h⟩:=h;obtain rfl:=Ub h3;simp only[XX]at h;obtain⟨⟨⟨⟨⟨a1,a2⟩,a3⟩,a4⟩,a5⟩,a6⟩:=h;obtain rfl:=Yn a1;obtain rfl:=XJ a2;exact⟨p,x,xs,p2,rfl,a3,a4,a5,a6⟩
theorem _hq{ks:List (Option Expr)}{vs:List Expr}(h:WY G .nil sc N ks vs=true):ks=[]/\vs=[]:=by
 replace h:=Xd h;exact⟨Yn h.1,Yn h.2⟩
theorem _fX{k v:IE}{ps:IPs}{ks:List (Option Expr)}{vs:List Expr}(h:WY G (.cons k v ps) sc N ks vs=true):∃x ks' y vs',ks=some x::ks'/\vs=y::vs'/\chkE G k sc N x=true/\chkE G v sc N y=true/\WY G ps sc N ks' vs'=true:=by
 replace h:=Xf h;obtain⟨⟨o,ks'⟩,h1,h⟩:=h;replace h:=Xf h;obtain⟨⟨y,vs'⟩,h2,h⟩:=h;replace h:=Xf h;obtain⟨x,h3,h⟩:=h;replace h:=Xd h;obtain⟨h,h6⟩:=h;replace h:=Xd h;obtain⟨h4,h5⟩:=h;dsimp only at h3;subst h3;exact⟨x,ks',y,vs',Ub h1,Ub h2,h4,h5,h6⟩
theorem Ey{l:List Expr}(h:chkEs G .nil sc N l=true):l=[]:=by
 exact Yn h
theorem Ez{a:IE}{es:IEs}{l:List Expr}(h:chkEs G (.cons a es) sc N l=true):∃x xs,l=x::xs/\chkE G a sc N x=true/\chkEs G es sc N xs=true:=by
 replace h:=Xf h;obtain⟨⟨x,xs⟩,h1,h⟩:=h;exact⟨x,xs,Ub h1,Xd h⟩
theorem _hs(h:chkO G .none sc N o=true):o=none:=by
 cases o with
 |none=>rfl
 |some _=>cases h
theorem _hr{a:IE}{o:Option Expr}(h:chkO G (.some a) sc N o=true):∃x,o=some x/\chkE G a sc N x=true:=by
 exact Xf h
theorem _hu{l:List Expr}(h:chkI G .none sc N l=true):l=[]:=by
 exact Yn h
theorem _ht{a:IE}{l:List Expr}(h:chkI G (.some a) sc N l=true):∃x,l=[x]/\tok a=true/\chkE G a sc N x=true:=by
 replace h:=Xf h;obtain⟨x,h1,h⟩:=h;exact⟨x,_p h1,Xd h⟩
theorem _nE{a:IE}(h:chkSr G (.rng a) sc N e=true):∃p x p2,e=.Call (.Name ("range":Str) p) [x] [] p2/\G.bl.contains ("range":Str)=true/\glB sc ("range":Str)=true/\chkE G a sc N x=true:=by
 replace h:=Xf h;obtain⟨⟨f',l,ks,p2⟩,h1,h⟩:=h;obtain rfl:=_L h1;replace h:=Xf h;obtain⟨g,h2,h⟩:=h;obtain⟨p,rfl⟩:=_3 h2;replace h:=Xf h;obtain⟨x,h3,h⟩:=h;obtain rfl:=_p h3;replace h:=Xd h;obtain⟨h,h8⟩:=h;replace h:=Xd h;obtain⟨h,h7⟩:=h;replace h:=Xd h;obtain⟨h,h6⟩:=h;replace h:=Xd h;obtain⟨h4,h5⟩:=h;obtain rfl:=Yn h4;obtain rfl:=XJ h5;exact⟨p,x,p2,rfl,h6,h7,h8⟩
theorem _kT{a b:IE}(h:chkSr G (.rng2 a b) sc N e=true):∃p x y p2,e=.Call (.Name ("range":Str) p) [x,y] [] p2/\G.bl.contains ("range":Str)=true/\glB sc ("range":Str)=true/\chkE G a sc N x=true/\chkE G b sc N y=true:=by
 replace h:=Xf h;obtain⟨⟨f',l,ks,p2⟩,h1,h⟩:=h;obtain rfl:=_L h1;replace h:=Xf h;obtain⟨g,h2,h⟩:=h;obtain⟨p,rfl⟩:=_3 h2;replace h:=Xf h;obtain⟨⟨x,y⟩,h3,h⟩:=h;obtain rfl:=Ew h3;replace h:=Xd h;obtain⟨h,h9⟩:=h;replace h:=Xd h;obtain⟨h,h8⟩:=h;replace h:=Xd h;obtain⟨h,h7⟩:=h;replace h:=Xd h;obtain⟨h,h6⟩:=h;replace h:=Xd h;obtain⟨h4,h5⟩:=h;obtain rfl:=Yn h4;obtain rfl:=XJ h5;exact⟨p,x,y,p2,rfl,h6,h7,h8,h9⟩
theorem _kS{a b c:IE}(h:chkSr G (.rng3 a b c) sc N e=true):∃p x y z p2,e=.Call (.Name ("range":Str) p) [x,y,z] [] p2/\G.bl.contains ("range":Str)=true/\glB sc ("range":Str)=true/\chkE G a sc N x=true/\chkE G b sc N y=true/\chkE G c sc N z=true:=by
 replace h:=Xf h;obtain⟨⟨f',l,ks,p2⟩,h1,h⟩:=h;obtain rfl:=_L h1;replace h:=Xf h;obtain⟨g,h2,h⟩:=h;obtain⟨p,rfl⟩:=_3 h2;replace h:=Xf h;obtain⟨⟨x,y,z⟩,h3,h⟩:=h;obtain rfl:=_mo h3;replace h:=Xd h;obtain⟨h,h10⟩:=h;replace h:=Xd h;obtain⟨h,h9⟩:=h;replace h:=Xd h;obtain⟨h,h8⟩:=h;replace h:=Xd h;obtain⟨h,h7⟩:=h;replace h:=Xd h;obtain⟨h,h6⟩:=h;replace h:=Xd h;obtain⟨h4,h5⟩:=h;obtain rfl:=Yn h4;obtain rfl:=XJ h5;exact⟨p,x,y,z,p2,rfl,h6,h7,h8,h9,h10⟩
theorem EA{lim:Nat}{all:Bool}{i:Nat}(h:Ze sc N lim all (.nm i) e=true):∃x p,e=.Name x p/\N[i]?=some x/\i<lim/\(if all then locB sc x else decide (sc.names.lookup x=some .local))=true:=by
 replace h:=Xf h;obtain⟨x,h1,h⟩:=h;obtain⟨p,rfl⟩:=_3 h1;replace h:=Xd h;obtain⟨h,h4⟩:=h;replace h:=Xd h;obtain⟨h2,h3⟩:=h;exact⟨x,p,rfl,XJ h2,XJ h3,h4⟩
theorem EB{lim:Nat}{all:Bool}{ts:ITgs}(h:Ze sc N lim all (.tup ts) e=true):∃es k p,e=.Tuple es k p/\chkTgs sc N lim all ts es=true:=by
 replace h:=Xf h;obtain⟨es,h1,h⟩:=h;obtain⟨k,p,rfl⟩:=Eu h1;exact⟨es,k,p,rfl,h⟩
theorem _fW{lim:Nat}{all:Bool}{l:List Expr}(h:chkTgs sc N lim all .nil l=true):l=[]:=by
 exact Yn h
theorem K9{lim:Nat}{all:Bool}{t:ITg}{ts:ITgs}{l:List Expr}(h:chkTgs sc N lim all (.cons t ts) l=true):∃x xs,l=x::xs/\Ze sc N lim all t x=true/\chkTgs sc N lim all ts xs=true:=by
 replace h:=Xf h;obtain⟨⟨x,xs⟩,h1,h⟩:=h;exact⟨x,xs,Ub h1,Xd h⟩
end
def liT(K:X4)(t:TEm):TT:=λσ H Q=>∃σm M,RS K H σm σ/\RH K M H/\t σm M (λm M'=>∃b,m=.bl b/\∀H',Kp H H'->RH K M' H'->Q b H')
def liO(K:X4)(t:Sm->MH->(Option Int->MH->Prop)->Prop):TO:=λσ H Q=>∃σm M,RS K H σm σ/\RH K M H/\t σm M (λo M'=>∀H',Kp H H'->RH K M' H'->Q o H')
section
variable{K:X4}
theorem EC{t:TEm}(m:MonE t){σ:St}{H:Hp}{Q:Bool->Hp->Prop}(h:liT K t σ H Q):liE K t σ H λx H'=>∃c,x=.bl c/\Q c H':=by
 obtain⟨σm,M,rs,rh,h⟩:=h;refine⟨σm,M,rs,rh,m (λx M1 ⟨b,e,h1⟩=>?_) h⟩;subst e;intro v H1 k1 r1 rh1;cases r1;exact⟨b,rfl,h1 H1 k1 rh1⟩
theorem Ka{t:TEm}(m:MonE t){σm:Sm}{M:MH}{H H1:Hp}{Q:Bool->Hp->Prop}(k:Kp H H1)(h:t σm M λx M'=>∃b,x=.bl b/\∀H',Kp H H'->RH K M' H'->Q b H'):
  t σm M λx M'=>∃b,x=.bl b/\∀H',Kp H1 H'->RH K M' H'->Q b H':=
 m (λx M' ⟨b,e,q⟩=>⟨b,e,λH' k'=>q H' (k.trans k')⟩) h
theorem _nv{t:TAm}(me:MonE te)(mt:MonA t)(h:liA K (λσ M Q=>te σ M λv M1=>t σ M1 λvs M2=>Q (v::vs) M2) σ H Q):W0 (liE K te) (liA K t) σ H Q:=by
 obtain⟨σm,M,rs,rh,h⟩:=h;refine⟨σm,M,rs,rh,me (λx M1 h1=>?_) h⟩;intro v H1 k1 r1 rh1;refine⟨σm,M1,rs.mono k1,rh1,mt (λms M2 h2=>?_) h1⟩;intro vs H2 k2 r2 rh2;exact h2 (v::vs) H2 (k1.trans k2) (.cons (r1.mono k2) r2) rh2
end
def ED(X:Cx)(H:Hp):Src->It->Prop
 |.tup xs,J=>(∃a vs,H a=some (.tup vs)/\RMs X.K H xs vs/\J=Itt X.K a)\/∃a vs,FrL X.K H a vs/\RMs X.K H xs vs/\J=Itl X.K a
 |.lst a _,J=>J=Itl X.K a
 |.rng lo n,J=>J=Itr lo n
 |.rst lo st n,J=>J=Itrs lo st n
 |.dic a o _,J=>J=Itd a o/\∀o' u',X.H₀ a≠some (.frz o' u')
 |.str x,J=>J=Its x
theorem CG{X:Cx}{H0 H:Hp}{M:MH}{S:Src}{J:It}(s:ED X H0 S J)(rh:RH X.K M H)(ok:S.okT M):∃H',Thw X H H'/\Kp H H'/\RH X.K (S.thaw M) H':=by
 cases S with
 |tup xs=>exact⟨H,.inl rfl,Kp.refl _,rh⟩
 |lst a xs=>exact⟨H,.inl rfl,Kp.refl _,rh⟩
 |rng a xs=>exact⟨H,.inl rfl,Kp.refl _,rh⟩
 |rst a b xs=>exact⟨H,.inl rfl,Kp.refl _,rh⟩
 |str x=>exact⟨H,.inl rfl,Kp.refl _,rh⟩
 |dic a o kvs=>
  obtain⟨vs,e,r,nd⟩:=rh.fdic ok;have k:=Kp.upd e rfl (.dK vs);exact⟨_,.inr ⟨a,o,.dK vs,e,trivial,s.2,rfl⟩,k,rh.put k (o:=.dic kvs) ⟨r.mono k,nd⟩⟩
theorem Kb{M:MH}{S:Src}(ok:S.ok M):S.okT M:=by
 cases S<;>first|trivial|exact ok
theorem Kc{K:X4}{k:Key}:∀{m:List (Key×MV)} {vs:List (Key×V)} {i:Nat},RKs K H m vs->vs[i]?=some (k,v)->∃x,m[i]?=some (k,x)/\RM K H x v
 |_,_,_,.nil,h=>by cases h
 |_,_,0,.cons r _,h=>by cases h;exact⟨_,rfl,r⟩
 |_,_,i+1,.cons _ t,h=>Kc (i:=i) t h
theorem Kd{X:Cx}{H0 H:Hp}{M:MH}{S:Src}{J:It}(s:ED X H0 S J)(k:Kp H0 H)(rh:RH X.K M H)(ok:S.ok M):
  (∀i,i<S.len->J.go i H/\∀x H',J.yld i H x H'->H'=H/\∃m,S.items[i]?=some m/\RM X.K H m x)/\∀i,S.len≤i->J.stop i H:=by
 have seqL:∀{a:Addr} {xs:List MV} {vs:List V},SqL X.K H a vs->RMs X.K H xs vs->(∀i,i<xs.length->(Itl X.K a).go i H/\∀x H',(Itl X.K a).yld i H x H'->H'=H/\∃m,xs[i]?=some m/\RM X.K H m x)/\∀i,xs.length≤i->(Itl X.K a).stop i H:=by
  intro a xs vs hs r;refine⟨λi hi=>⟨⟨vs,_,hs,Xc (by rw[<- r.length];exact hi)⟩,λx H' y=>?_⟩,λi hi=>⟨vs,hs,by rw[<- r.length];exact hi⟩⟩
  exact⟨y.1,r.get' (y.2 vs hs)⟩
 cases S with
 |tup xs=>
  rcases s with⟨a,vs,h,r,rfl⟩|⟨a,vs,h,r,rfl⟩
  ·have h:=SqT.of (K:=X.K) (k _ _ h rfl);have r:=r.mono k;refine⟨λi hi=>⟨⟨vs,_,h,Xc (by rw[<- r.length];exact hi)⟩,λx H' y=>?_⟩,λi hi=>⟨vs,h,by rw[<- r.length];exact hi⟩⟩
   exact⟨y.1,r.get' (y.2 vs h)⟩
  ·refine seqL (FrL.sq ?_) (r.mono k);rcases h with⟨o,h⟩|h
   ·exact .inl ⟨o,k _ _ h rfl⟩
   ·exact .inr h
 |lst a xs=>
  cases s;obtain⟨vs,h,r⟩:=rh.lst ok;exact seqL (SqL.of h) r
 |rng lo n=>
  cases s;refine⟨λi hi=>⟨hi,λx H' y=>⟨y.1,.int (lo+(i:Nat)),?_,?_⟩⟩,λi hi=>hi⟩
  ·show((Xr n).map _)[i]?=_;rw[Xq,Xc (by simpa using(show i<n from hi))]
   simp
  ·rw[y.2];exact .int _
 |rst lo st n=>
  cases s;refine⟨λi hi=>⟨hi,λx H' y=>⟨y.1,.int (lo+(i:Nat)*st),?_,?_⟩⟩,λi hi=>hi⟩
  ·show((Xr n).map _)[i]?=_;rw[Xq,Xc (by simpa using(show i<n from hi))]
   simp
  ·rw[y.2];exact .int _
 |str z=>
  cases s;refine⟨λi hi=>⟨hi,λx H' y=>?_⟩,λi hi=>hi⟩;obtain⟨e,c,hc,rfl⟩:=y;refine⟨e,.str ⟨#[c]⟩,?_,.str _⟩;show(z.cps.toList.map _)[i]?=_;rw[Xq,Hi,hc]
  rfl
 |dic a o kvs=>
  obtain⟨rfl,_⟩:=s;obtain⟨vs,e,r,nd⟩:=rh.fdic ok;refine⟨λi hi=>⟨⟨vs,e,by rw[<- r.length];exact hi⟩,λx H' y=>?_⟩,λi hi=>⟨vs,e,by rw[<- r.length];exact hi⟩⟩
  obtain⟨rfl,y⟩:=y;obtain⟨kk,v,hv,rfl⟩:=y vs e;obtain⟨x,hx,_⟩:=Kc r hv;refine⟨rfl,kM kk,?_,?_⟩
  ·show(kvs.map λp=>kM p.1)[i]?=_;rw[Xq,hx];rfl
  ·cases kk with
   |inl i=>exact .int i
   |inr x=>exact .str x
def liSr(X:Cx)(t:TSm):TI:=λσ H R=>∃σm M,RS X.K H σm σ/\RH X.K M H/\t σm M (λS M'=>∀J H',Kp H H'->RH X.K M' H'->ED X H' S J->R J H')
section
variable{X:Cx}{tg:Expr}
theorem PI.weak{t:TI}(h:PI X tg e t)(i:∀σ H R,t' σ H R->t σ H R):PI X tg e t':=λpins s σ H R I q=>h pins s σ H R I (i _ _ _ q)
end
mutual
def gOf(K:X4):ITg->TG
 |.nm i=>Cm i
 |.tup ts=>gTup K (ITgs.len ts) (gsOf K ts)
def gsOf(K:X4):ITgs->TGs
 |.nil=>gNil
 |.cons t ts=>Ie (gOf K t) (gsOf K ts)
def ITgs.len:ITgs->Nat
 |.nil=>0
 |.cons _ ts=>ts.len+1
end
mutual
theorem sTg{X:Cx}{lim:Nat}{all:Bool}(hc:X.calm=true)(hN:X.N.Nodup)(hf:all=true->∀x,X.fn x=true):∀(t:ITg) {e:Expr},Ze X.env.scope X.N lim all t e=true->PG X e (gOf X.K t)
 |.nm i,e,h=>by
  obtain⟨x,p,rfl,h1,h2,h3⟩:=EA h;cases all with
  |true=>
   rw[if_pos rfl]at h3;exact Id hN h1 (CF h3) (.inl (hf rfl _))
  |false=>
   rw[if_neg Xx,decide_eq_true_eq]at h3;exact Id hN h1 (.inl h3) (.inr h3)
 |.tup ts,e,h=>by
  obtain⟨es,k,p,rfl,h⟩:=EB h;obtain⟨h1,h2,h3⟩:=sTgs hc hN hf ts h;exact Sx hc h1 h2 h3
theorem sTgs{all:Bool}(hc:X.calm=true)(hN:X.N.Nodup)(hf:all=true->∀x,X.fn x=true):∀(t:ITgs) {es:List Expr},chkTgs X.env.scope X.N lim all t es=true->PGs X es (gsOf X.K t)/\(Zw es X.env).length=t.len/\(Zw es X.env).findIdx? (·.1)=none
 |.nil,l,h=>by
  cases _fW h;rw[gsOf,ITgs.len];exact⟨Sv,rfl,rfl⟩
 |.cons t ts,l,h=>by
  obtain⟨e,es,rfl,ha,hb⟩:=K9 h;obtain⟨h1,h2,h3⟩:=sTgs hc hN hf ts hb;have h4:=sTg hc hN hf t ha;have e1:Zw (e::es) X.env=(false,assign e X.env)::Zw es X.env:=by
   cases t with
   |nm i=>obtain⟨x,p,rfl,_⟩:=EA ha;rfl
   |tup ts=>obtain⟨x,k,p,rfl,_⟩:=EB ha;rfl
  rw[gsOf,ITgs.len];refine⟨Sw h4 h1 (by rw[e1];rfl),by rw[e1,Yr,h2],?_⟩
  rw[e1,List.findIdx?_cons,if_neg Xx,h3]
  rfl
end
theorem RMs.len_tgs{K:X4}:∀{ts:ITgs} {xs:List MV} {σ:Sm} {P:Sm->Prop},wTgs ts xs σ P->xs.length=ts.len
 |.nil,xs,σ,P,h=>by rw[h.1,ITgs.len];rfl
 |.cons t ts,xs,σ,P,h=>by
  obtain⟨v,r,rfl,h⟩:=h;rw[Yr,ITgs.len];have aux:∀(t:ITg) {v:MV} {σ:Sm},wTg t v σ (λσ'=>wTgs ts r σ' P)->∃σ',wTgs ts r σ' P:=by
   have both:(∀(t:ITg) {v:MV} {σ:Sm} {P:Sm->Prop},wTg t v σ P->∃σ',P σ')/\(∀(t:ITgs) {v:List MV} {σ:Sm} {P:Sm->Prop},wTgs t v σ P->∃σ',P σ'):=by
    refine⟨λt=>?_,λt=>?_⟩
    ·exact ITg.rec (motive_1:=λt=>∀{v:MV} {σ:Sm} {P:Sm->Prop},wTg t v σ P->∃σ',P σ') (motive_2:=λt=>∀{v:List MV} {σ:Sm} {P:Sm->Prop},wTgs t v σ P->∃σ',P σ')
      (λi v σ P h=>⟨_,h⟩) (λts ih v σ P h=>by obtain⟨xs,_,h⟩:=h;exact ih h)
      (fun{v σ P} h=>⟨_,h.2⟩) (λt ts i1 i2 v σ P h=>by obtain⟨x,r,_,h⟩:=h;obtain⟨σ',h⟩:=i1 h;exact i2 h) t
    ·exact ITgs.rec (motive_1:=λt=>∀{v:MV} {σ:Sm} {P:Sm->Prop},wTg t v σ P->∃σ',P σ') (motive_2:=λt=>∀{v:List MV} {σ:Sm} {P:Sm->Prop},wTgs t v σ P->∃σ',P σ')
      (λi v σ P h=>⟨_,h⟩) (λts ih v σ P h=>by obtain⟨xs,_,h⟩:=h;exact ih h)
      (fun{v σ P} h=>⟨_,h.2⟩) (λt ts i1 i2 v σ P h=>by obtain⟨x,r,_,h⟩:=h;obtain⟨σ',h⟩:=i1 h;exact i2 h) t
   exact λt {v σ} h=>both.1 t h
  obtain⟨σ',h'⟩:=aux t h;rw[RMs.len_tgs (K:=K) h']
mutual
theorem CH{K:X4}{H:Hp}{lim:Nat}{sc:Scope}{N:List Str}{all:Bool}{Ψ:St->Prop}(hΨ:∀σ i v,i<lim->Ψ σ->Ψ (σ.set i (some v))):∀(t:ITg) {e:Expr} {mv:MV} {v:V} {σm:Sm} {σ:St} {P:Sm->Prop} {Q:St->Hp->Prop},Ze sc N lim all t e=true->
  RM K H mv v->RS K H σm σ->Ψ σ->wTg t mv σm P->(∀σm' σ',P σm'->RS K H σm' σ'->Ψ σ'->Q σ' H)->gOf K t v σ H Q
 |.nm i,e,mv,v,σm,σ,P,Q,hc,r,rs,ps,h,hq=>by
  obtain⟨x,p,rfl,_,hl,_⟩:=EA hc;exact hq _ _ h (rs.set r i) (hΨ _ _ _ hl ps)
 |.tup ts,e,mv,v,σm,σ,P,Q,hc,r,rs,ps,h,hq=>by
  obtain⟨es,k,p,rfl,hc⟩:=EB hc;obtain⟨xs,rfl,h⟩:=h;cases r with
  |tup h1 q1=>
   exact⟨_,_,rfl,SqT.of h1,by rw[<- q1.length];exact RMs.len_tgs (K:=K) h,tgs_ok hΨ ts hc q1 rs ps h hq⟩
theorem tgs_ok{K:X4}{H:Hp}{lim:Nat}{sc:Scope}{N:List Str}{all:Bool}{Ψ:St->Prop}(hΨ:∀σ i v,i<lim->Ψ σ->Ψ (σ.set i (some v))):∀(t:ITgs) {es:List Expr} {mvs:List MV} {vs:List V} {σm:Sm} {σ:St} {P:Sm->Prop} {Q:St->Hp->Prop},chkTgs sc N lim all t es=true->
  RMs K H mvs vs->RS K H σm σ->Ψ σ->wTgs t mvs σm P->(∀σm' σ',P σm'->RS K H σm' σ'->Ψ σ'->Q σ' H)->gsOf K t vs σ H Q
 |.nil,es,mvs,vs,σm,σ,P,Q,hc,r,rs,ps,h,hq=>by
  obtain⟨rfl,h⟩:=h;cases r;rw[gsOf];exact⟨rfl,hq _ _ h rs ps⟩
 |.cons t ts,es,mvs,vs,σm,σ,P,Q,hc,r,rs,ps,h,hq=>by
  obtain⟨e,es,rfl,hc1,hc2⟩:=K9 hc;obtain⟨x,rr,rfl,h⟩:=h;cases r with
  |cons r1 r2=>
   rw[gsOf];exact⟨_,_,rfl,CH hΨ t hc1 r1 rs ps h λσm' σ' h' rs' ps'=>tgs_ok hΨ ts hc2 r2 rs' ps' h' hq⟩
end
theorem _qN{K:X4}{own:List Str}{fr:List Nat}(rs:RS K H σm σ):RS K H (sCm own fr σm) (sC own fr σ):=by
 refine⟨by simp[sCm,sC],λi m e=>?_⟩
 unfold sCm at e;unfold sC;by_cases hi:i<own.length
 ·rw[U1 (by simpa using hi),Xq]at e
  cases q:own[i]? with
  |none=>rw[q]at e;cases e
  |some z=>rw[q]at e;cases e
 ·rw[Zy (by simpa using hi),Xa,Xq]at e
  rw[Zy (by simpa using hi),Xa,Xq]
  cases q:fr[i - own.length]? with
  |none=>rw[q]at e;cases e
  |some j=>
   rw[q]at e;have e':σm.getD j none=some m:=Yb e;have e2:σm[j]?=some (some m):=by
    rw[Yo]at e';cases q2:σm[j]? with
    |none=>rw[q2]at e';cases e'
    |some o=>rw[q2]at e';rw[show o=some m from e']
   obtain⟨v,hv,r⟩:=rs.2 j m e2;refine⟨v,?_,r⟩;show some (σ.getD j none)=_;rw[Yo,hv]
   rfl
theorem _kQ{own:List Str}{fr:List Nat}(hi:i<own.length)(k:Keep (sC own fr σ) σ'):Keep (sC own fr σ) (σ'.set i (some v)):=by
 refine⟨by rw[UC];exact k.1,λj w h=>?_⟩
 by_cases hij:i=j
 ·subst hij;exfalso;unfold sC at h;rw[U1 (by simpa using hi),Xq]at h
  cases q:own[i]? with
  |none=>rw[q]at h;cases h
  |some z=>rw[q]at h;cases h
 ·rw[Vz,if_neg hij];exact k.2 j w h
theorem _kr{y:Expr}(h:WU y=true):II y:=by
 intro o i;cases y<;>first|rfl|cases h
theorem EE{it:Expr}(h:WV it=true)(env:Env):∀x,Bu it env x=pure x:=by
 intro x;cases it<;>first|rfl|cases h
theorem Cok.comp(c:Cok X G Φ){own:List Str}{fr:List Nat}(hk:scope.kind=.function)(nd:(nC own fr X.N).Nodup):Cok (cxC X scope own fr C fp s₃ H₃) G Φ:=
 ⟨c.room,c.calm,rfl,(by show(if scope.kind.isAnnotationScope then HV else scope.kind)=.function;rw[hk];rfl),nd,c.bls,c.gls,c.fnn,c.mon,c.fns,c.mts,c.mks,c.cls⟩
def ttOf(K:X4)(Φ:List (Str×SpM)):IO->TT
 |.none=>tAll
 |.some e=>liT K (wE Φ e)
theorem Ke{X:Cx}{Φ:List (Str×SpM)}(hΦ:∀(j:Nat) f sp,Φ[j]?=some (f,sp)->MonW sp) {own:List Str} {fr:List Nat} {src:ISr} {tg:ITg} {test:IO} {elt:IE} {sc:Scope} {N:List Str} {t:Expr}
  (h5:Ze sc N own.length false tg t=true) {σ:St} {H:Hp} {Q:VK} (hw:liE X.K (wE Φ (.comp own fr src tg test elt)) σ H Q):Ex own fr (liSr X (wSr Φ src)) (gOf X.K tg) (ttOf X.K Φ test) (liE X.K (wE Φ elt)) σ H (λv H'=>∃H2,Thw X H' H2/\Q v H2):=by
 obtain⟨σm,M,rs,rh,hw⟩:=hw;refine⟨σm,M,rs,rh,mon_sr hΦ src (λS M1 ⟨hz,q⟩=>?_) hw⟩;intro J H1 k1 rh1 sit D hD;obtain⟨Jm,j0,j1,j2,j3⟩:=q D (rh1.free hD);refine⟨λi m ys H2=>m=S.len - i/\i≤S.len/\Kp H1 H2/\∃mys M2,RH X.K M2 H2/\Jm i mys M2,⟨S.len,rfl,YK _,Kp.new hD _,[],_,rh1.put (Kp.new hD (.lst [])) (o:=.lst []) RMs.nil,j0⟩,?_⟩;rintro i m ys H2 ⟨rfl,hi,k2,mys,M2,rh2,hj⟩;obtain⟨d1,d2,d3⟩:=j1 i mys M2 hj;obtain⟨goes,stops⟩:=Kd sit k2 rh2 d3;by_cases hlt:i<S.len
 ·obtain⟨go,yld⟩:=goes i hlt;refine .inr ⟨go,λys' H'=>Kp H1 H'/\∃mys M',RH X.K M' H'/\Jm (i+1) mys M',λys' H' ⟨a,mys',M',b,c⟩=>⟨S.len - (i+1),by lia,rfl,hlt,a,mys',M',b,c⟩,λx H3 y=>?_⟩
  obtain⟨e3,m,hm,rm⟩:=yld x H3 y;subst e3;have ht:=j2 i m mys M2 hm hj;refine CH (Ψ:=Keep (sC own fr σ)) (lim:=own.length) (λσ' i v hi k=>_kQ hi k) tg h5 rm (_qN (rs.mono (k1.trans k2))) ⟨rfl,λ_ _ h=>h⟩ ht λσm' σ' hP rs' keep=>⟨keep,?_⟩;have eltp:∀{M4:MH} {H5:Hp},Kp H3 H5->RH X.K M4 H5->(wE Φ elt σm' M4 λy M5=>M5 D=some (.lst mys)/\Jm (i+1) (mys++[y]) (updM M5 D (.lst (mys++[y]))))->
    liE X.K (wE Φ elt) σ' H5 λy H6=>∃zs,H6 D=some (.lst zs)/\zs.length<sizeLine/\Kp H1 (upd H6 D (.lst (zs++[y])))/\∃mys M',RH X.K M' (upd H6 D (.lst (zs++[y])))/\Jm (i+1) mys M':=fun{M4 H5} k5 rh5 q=>by
   refine⟨σm',M4,rs'.mono k5,rh5,X7 hΦ elt (λy M5 ⟨hd,hj'⟩=>?_) q⟩;intro v H6 k6 r6 rh6;obtain⟨zs,e,rz⟩:=rh6.lst hd;have ku:=Kp.upd e rfl (.lst (zs++[v]));exact⟨zs,e,by rw[<- rz.length];lia,k2.trans (k5.trans (k6.trans ku)),_,_,rh6.put ku (o:=.lst (mys++[y])) ((rz.append (.cons r6 .nil)).mono ku),hj'⟩
  cases test with
  |none=>
   rw[wI]at hP;rw[if_pos rfl]at hP;rw[ttOf];refine _qt ?_;dsimp only;rw[if_pos rfl];exact eltp (Kp.refl _) rh2 hP
  |some e=>
   refine⟨σm',M2,rs',rh2,X7 hΦ e (λv M4 ⟨b,eb,q⟩=>⟨b,eb,λH5 k5 rh5=>YN (λq=>eltp k5 rh5 q) (λq=>⟨k2.trans k5,_,_,rh5,q⟩) q⟩) hP⟩
 ·refine .inl ⟨stops i (by lia),?_⟩
  have e:i=S.len:=by lia
  subst e;obtain⟨H',th,k3,rh3⟩:=CG sit rh2 (Kb d3);exact⟨H',th,j3 mys M2 hj _ _ (k1.trans (k2.trans k3)) (.ref D) rh3⟩
theorem Kf{K:X4}{Φ:List (Str×SpM)}(hΦ:∀(j:Nat) f sp,Φ[j]?=some (f,sp)->MonW sp) {op op':CmpOp} {a b d:IE} {σ:St} {H:Hp} {Q:VK} (hw:liE K (wE Φ (.chn op op' a b d)) σ H Q):
  E5 (li2 K (wCmp op)) (li2 K (wCmp op')) (liE K (wE Φ a)) (liE K (wE Φ b)) (liE K (wE Φ d)) σ H Q:=by
 obtain⟨σm,M,rs,rh,hw⟩:=hw;rw[JY]at hw;refine⟨σm,M,rs,rh,X7 hΦ a (λx M1 q1=>?_) hw⟩;intro v H1 k1 r1 rh1;refine⟨σm,M1,rs.mono k1,rh1,X7 hΦ b (λy M2 q2=>?_) q1⟩;intro u H2 k2 r2 rh2;refine⟨x,y,M2,r1.mono k2,r2,rh2,W7 op (λz M3 ⟨k,e,q3⟩=>?_) q2⟩;subst e;intro z H3 k3 r3 rh3;cases r3;refine⟨k,rfl,YN (λq=>?_) (λq=>?_) q3⟩
 ·refine⟨σm,M3,rs.mono (k1.trans (k2.trans k3)),rh3,X7 hΦ d (λw M4 q4=>?_) q⟩;intro w' H4 k4 r4 rh4;exact⟨y,w,M4,r2.mono (k3.trans k4),r4,rh4,W7 op' (λm M' hq=>hq.on (k1.trans (k2.trans (k3.trans k4)))) q4⟩
 ·exact q _ _ (k1.trans (k2.trans k3)) (.bl _) rh3
theorem Kg{o:Expr}{m:Str}{apos pos:Pos}{args:List Expr}{env:Env}(hb:Uw o m env (eval o env)=eval o env)(hf:methodCallForm (args.length+([]:List Z5).length) (XZ pos (Xw args env)) (ZY pos (ZZ [] env))=true)(hl:(apos.endLine==pos.line)=true):
  eval (.Call (.Attribute o m apos) args [] pos) env=(do
   let ov<- eval o env
   standAt apos.atName
   let(f,first)<- Z4 [ov] (getMethod ov m (do return(<- importBound o env).getD true))
   callWith pos f first (XZ pos (Xw args env)) (ZY pos (ZZ [] env))):=by
 rw[arm_eval_Call,hb];unfold methodCall calleeOf methodCallPos;rw[hf,hl];simp only[if_true,VI,DI,pure_bind]
def trOf(K:X4)(Φ:List (Str×SpM)):IPs->List (TE×TE)
 |.nil=>[]
 |.cons k v r=>(liE K (wE Φ k),liE K (wE Φ v))::trOf K Φ r
def aob:IE->Bool
 |.and ..=>true
 |.or ..=>true
 |_=>false
structure Snd (X:Cx) (Φ:List (Str×SpM)) (ie:IE) (e:Expr):Prop where
 pe:PE X e (liE X.K (wE Φ ie))
 pt:tok ie=true->PT X e (liT X.K (wE Φ ie))
 pw:tok ie=true->aob ie=true->PW X e (liT X.K (wE Φ ie))
theorem Snd.plain(c:Cok X G Φ)(pe:PE X e (liE X.K (wE Φ ie)))(he:∀whole,isTrue e X.env whole=(do let v<- whole;standAt e.pos;Z4 [v] (truthy v)))(na:aob ie=false):Snd X Φ ie e:=
 ⟨pe,λ_=>(Sc pe he).weak λσ H Q h=>EC (t:=wE Φ ie) (X7 c.mon ie) h,λ_ h=>by rw[na]at h;cases h⟩
mutual
theorem sE{G:GI}{Φ:List (Str×SpM)}:∀(ie:IE) {X:Cx} {e:Expr},Cok X G Φ->chkE G ie X.env.scope X.N e=true->Snd X Φ ie e
 |.var i,X,e,c,h=>by
  obtain⟨x,p,rfl,h1,h2,h3,h4⟩:=_nB h;refine .plain c ?_ (λ_=>rfl) rfl;refine(Ib h1 (_oz h2) h3 h4).weak λσ H Q hw=>?_;obtain⟨σm,M,rs,rh,hw⟩:=hw;rw[JX]at hw;obtain⟨v,e,q⟩:=hw;obtain⟨u,hu,r⟩:=rs.2 i v e;exact⟨u,hu,q _ _ (Kp.refl _) r rh⟩
 |.int i,X,e,c,h=>by
  obtain⟨k,p,rfl⟩:=_nJ h;refine .plain c ?_ (λ_=>rfl) rfl;refine pe_int.weak λσ H Q hw=>?_;obtain⟨σm,M,rs,rh,hw⟩:=hw;exact hw _ _ (Kp.refl _) (.int i) rh
 |.str i,X,e,c,h=>by
  obtain⟨k,p,rfl⟩:=_nD h;refine .plain c ?_ (λ_=>rfl) rfl;refine pe_str.weak λσ H Q hw=>?_;obtain⟨σm,M,rs,rh,hw⟩:=hw;exact hw _ _ (Kp.refl _) (.str i) rh
 |.bl i,X,e,c,h=>by
  obtain⟨k,p,rfl⟩:=_qb h;refine .plain c ?_ (λ_=>rfl) rfl;refine pe_bl.weak λσ H Q hw=>?_;obtain⟨σm,M,rs,rh,hw⟩:=hw;exact hw _ _ (Kp.refl _) (.bl i) rh
 |.non,X,e,c,h=>by
  obtain⟨k,p,rfl⟩:=_nG h;refine .plain c ?_ (λ_=>rfl) rfl;refine pe_non.weak λσ H Q hw=>?_;obtain⟨σm,M,rs,rh,hw⟩:=hw;exact hw _ _ (Kp.refl _) .non rh
 |.glb x i,X,e,c,h=>by
  obtain⟨p,rfl,h1,h2⟩:=_nL h;obtain⟨g1,g2,g3⟩:=_M h2;obtain⟨tk,hm⟩:=c.gls x i h1;refine .plain c ?_ (λ_=>rfl) rfl;refine(Sa (v:=.int i) g1 hm ⟨tk,rfl⟩ g2).weak λσ H Q hw=>?_;obtain⟨σm,M,rs,rh,hw⟩:=hw;exact hw _ _ (Kp.refl _) (.int i) rh
 |.ty t,X,e,c,h=>by
  obtain⟨p,rfl,h0,h1,h2⟩:=_q6 h;obtain⟨g1,g2,g3⟩:=_M h2;refine .plain c ?_ (λ_=>rfl) rfl;refine(Sb (v:=.ty t.name) g1 (c.bls _ h1) (_oc h0) rfl g3 g2).weak λσ H Q hw=>?_;obtain⟨σm,M,rs,rh,hw⟩:=hw;exact hw _ _ (Kp.refl _) (.ty t) rh
 |.bin op a b,X,e,c,h=>by
  obtain⟨l,r,p,rfl,h1,h2⟩:=_nP h;refine .plain c ?_ (λ_=>rfl) rfl;refine(SL (_pF op) (sE a c h1).pe (sE b c h2).pe).weak λσ H Q hw=>?_;have:wE Φ (.bin op a b)=λσ M Q=>wE Φ a σ M λx M1=>wE Φ b σ M1 λy M2=>wBin op x y M2 Q:=rfl;rw[this]at hw;exact Ek (ta:=wE Φ a) (tb:=wE Φ b) (w:=wBin op) (X7 c.mon a) (X7 c.mon b) (Jw op) hw
 |.neg a,X,e,c,h=>by
  obtain⟨l,p,rfl,h1⟩:=_nH h;refine .plain c ?_ (λ_=>rfl) rfl;refine(SM SW (sE a c h1).pe).weak λσ H Q hw=>?_;obtain⟨σm,M,rs,rh,hw⟩:=hw;refine⟨σm,M,rs,rh,X7 c.mon a (λx M1 ⟨i,e,q⟩=>?_) hw⟩;subst e;intro v H1 k1 r1 rh1;cases r1;exact⟨i,rfl,q _ _ k1 (.int _) rh1⟩
 |.not a,X,e,c,h=>by
  obtain⟨l,p,rfl,h1⟩:=_nF h;have ih:=sE a c h1;refine⟨(Si ih.pe).weak λσ H Q hw=>?_,λht=>(Sd (ih.pt ht)).weak λσ H Q hw=>?_,λ_ z=>by cases z⟩
  ·obtain⟨σm,M,rs,rh,hw⟩:=hw;rw[Ep]at hw;refine⟨σm,M,rs,rh,X7 c.mon a (λx M1 ⟨i,e,q⟩=>?_) hw⟩;subst e;intro v H1 k1 r1 rh1;cases r1;exact⟨i,rfl,q _ _ k1 (.bl _) rh1⟩
  ·obtain⟨σm,M,rs,rh,hw⟩:=hw;rw[Ep]at hw;refine⟨σm,M,rs,rh,X7 c.mon a (λx M1 ⟨i,e,b,e2,q⟩=>⟨i,e,λH' k rh'=>?_⟩) hw⟩;cases e2;exact q H' k rh'
 |.cmp op a b,X,e,c,h=>by
  obtain⟨l,r,p,rfl,h1,h2,h3⟩:=_nN h;have rd:∀σ H Q,liE X.K (wE Φ (.cmp op a b)) σ H Q->tOp (li2 X.K (wCmp op)) (liE X.K (wE Φ a)) (liE X.K (wE Φ b)) σ H Q:=λσ H Q hw=>by
   have:wE Φ (.cmp op a b)=λσ M Q=>wE Φ a σ M λx M1=>wE Φ b σ M1 λy M2=>wCmp op x y M2 Q:=rfl;rw[this]at hw;exact Ek (ta:=wE Φ a) (tb:=wE Φ b) (w:=wCmp op) (X7 c.mon a) (X7 c.mon b) (W7 op) hw
  refine⟨(T5 (W8 c.room op) (sE a c h1).pe (sE b c h2).pe h3).weak rd,λ_=>(T6 (W8 c.room op) (sE a c h1).pe (sE b c h2).pe h3).weak λσ H Q hw=>?_,λ_ z=>by cases z⟩
  exact rd σ H _ (EC (t:=wE Φ (.cmp op a b)) (X7 c.mon _) hw)
 |.chn op op' a b d,X,e,c,h=>by
  obtain⟨l,m,r,p,rfl,h1,h2,h3,h4⟩:=_nO h;refine⟨(T7 (W8 c.room op) (W8 c.room op') (sE a c h1).pe (sE b c h2).pe (sE d c h3).pe h4).weak λσ H Q hw=>Kf c.mon hw,
   λ_=>(T8 (W8 c.room op) (W8 c.room op') (sE a c h1).pe (sE b c h2).pe (sE d c h3).pe h4).weak λσ H Q hw=>?_,λ_ z=>by cases z⟩
  exact Kf c.mon (EC (t:=wE Φ (.chn op op' a b d)) (X7 c.mon _) hw)
 |.and a b,X,e,c,h=>by
  obtain⟨l,r,rest,p,rfl,h1,h2⟩:=_nQ h;have ih:=sE a c h1;have hb:PE X (.BoolOp .And (r::rest) p) (liE X.K (wE Φ b)):=by
   rcases h2 with⟨rfl,h2⟩|h2
   ·exact Ic (sE b c h2).pe
   ·exact(sE b c h2).pe
  have hw':tok (.and a b)=true->PW X (.BoolOp .And (l::r::rest) p) (liT X.K (wE Φ (.and a b))):=λht=>by
   have ht:(tok a&&tok b)=true:=ht;rw[XX]at ht;have hb2:PW X (.BoolOp .And (r::rest) p) (liT X.K (wE Φ b)):=by
    rcases h2 with⟨rfl,h2⟩|h2
    ·exact pw_and1 ((sE b c h2).pt ht.2)
    ·refine(sE b c h2).pw ht.2 ?_;cases b<;>first|rfl|exact absurd h2 Xx
   refine(pw_and (ih.pt ht.1) hb2).weak λσ H Q hw=>?_;obtain⟨σm,M,rs,rh,hw⟩:=hw;rw[Er]at hw;refine⟨σm,M,rs,rh,X7 c.mon a (λx M1 ⟨k,e,q⟩=>⟨k,e,λH1 k1 rh1=>?_⟩) hw⟩;refine YN (λq=>⟨σm,M1,rs.mono k1,rh1,Ka (t:=wE Φ b) (X7 c.mon b) k1 q⟩) (λq=>let⟨b,e,q⟩:=q;MV.noConfusion e λeb=>eb▸q H1 k1 rh1) q
  refine⟨(Sg ih.pe hb).weak λσ H Q hw=>?_,λht=>(hw' ht).pt,λht _=>hw' ht⟩;obtain⟨σm,M,rs,rh,hw⟩:=hw;rw[Er]at hw;refine⟨σm,M,rs,rh,X7 c.mon a (λx M1 ⟨k,e,q⟩=>?_) hw⟩;subst e;intro v H1 k1 r1 rh1;cases r1;refine⟨k,rfl,YN (λq=>⟨σm,M1,rs.mono k1,rh1,X7 c.mon b (λm M' hq=>hq.on k1) q⟩) (λq=>q _ _ k1 (.bl _) rh1) q⟩
 |.or a b,X,e,c,h=>by
  obtain⟨l,r,rest,p,rfl,h1,h2⟩:=_q8 h;have ih:=sE a c h1;have hb:PE X (.BoolOp .Or (r::rest) p) (liE X.K (wE Φ b)):=by
   rcases h2 with⟨rfl,h2⟩|h2
   ·exact Ic (sE b c h2).pe
   ·exact(sE b c h2).pe
  have hw':tok (.or a b)=true->PW X (.BoolOp .Or (l::r::rest) p) (liT X.K (wE Φ (.or a b))):=λht=>by
   have ht:(tok a&&tok b)=true:=ht;rw[XX]at ht;have hb2:PW X (.BoolOp .Or (r::rest) p) (liT X.K (wE Φ b)):=by
    rcases h2 with⟨rfl,h2⟩|h2
    ·exact pw_or1 ((sE b c h2).pt ht.2)
    ·refine(sE b c h2).pw ht.2 ?_;cases b<;>first|rfl|exact absurd h2 Xx
   refine(pw_or (ih.pt ht.1) hb2).weak λσ H Q hw=>?_;obtain⟨σm,M,rs,rh,hw⟩:=hw;rw[x_or]at hw;refine⟨σm,M,rs,rh,X7 c.mon a (λx M1 ⟨k,e,q⟩=>⟨k,e,λH1 k1 rh1=>?_⟩) hw⟩;refine YN (λq=>let⟨b,e,q⟩:=q;MV.noConfusion e λeb=>eb▸q H1 k1 rh1) (λq=>⟨σm,M1,rs.mono k1,rh1,Ka (t:=wE Φ b) (X7 c.mon b) k1 q⟩) q
  refine⟨(Sh ih.pe hb).weak λσ H Q hw=>?_,λht=>(hw' ht).pt,λht _=>hw' ht⟩;obtain⟨σm,M,rs,rh,hw⟩:=hw;rw[x_or]at hw;refine⟨σm,M,rs,rh,X7 c.mon a (λx M1 ⟨k,e,q⟩=>?_) hw⟩;subst e;intro v H1 k1 r1 rh1;cases r1;refine⟨k,rfl,YN (λq=>q _ _ k1 (.bl _) rh1) (λq=>⟨σm,M1,rs.mono k1,rh1,X7 c.mon b (λm M' hq=>hq.on k1) q⟩) q⟩
 |.ife d a b,X,e,c,h=>by
  obtain⟨t,x,y,p,rfl,h0,h1,h2,h3⟩:=_nK h;refine⟨(Sj ((sE d c h1).pt h0) (sE a c h2).pe (sE b c h3).pe).weak λσ H Q hw=>?_,λz=>(by cases z),λz _=>(by cases z)⟩
  obtain⟨σm,M,rs,rh,hw⟩:=hw;rw[JZ]at hw;refine⟨σm,M,rs,rh,X7 c.mon d (λx M1 ⟨k,e,q⟩=>⟨k,e,λH1 k1 rh1=>?_⟩) hw⟩;exact YN (λq=>⟨σm,M1,rs.mono k1,rh1,X7 c.mon a (λm M' hq=>hq.on k1) q⟩) (λq=>⟨σm,M1,rs.mono k1,rh1,X7 c.mon b (λm M' hq=>hq.on k1) q⟩) q
 |.tup es,X,e,c,h=>by
  obtain⟨xs,k,p,rfl,h1⟩:=_nC h;refine .plain c ?_ (λ_=>rfl) rfl;refine(Ts (sA es c h1)).weak λσ H Q hw=>?_;obtain⟨σm,M,rs,rh,hw⟩:=hw;refine⟨σm,M,rs,rh,mon_es c.mon es (λms M1 ⟨hz,q⟩=>?_) hw⟩;intro vs H1 k1 r1 rh1;refine⟨by rw[<- r1.length];exact hz,λp hp=>?_⟩
  have k2:=Kp.new hp (.tup vs);exact q _ _ (k1.trans k2) (.tup _c (r1.mono k2)) (rh1.kept hp _)
 |.lst es,X,e,c,h=>by
  obtain⟨xs,p,rfl,h1⟩:=_nI h;refine .plain c ?_ (λ_=>rfl) rfl;refine(Tt (sA es c h1)).weak λσ H Q hw=>?_;obtain⟨σm,M,rs,rh,hw⟩:=hw;refine⟨σm,M,rs,rh,mon_es c.mon es (λms M1 ⟨hz,q⟩=>?_) hw⟩;intro vs H1 k1 r1 rh1;refine⟨by rw[<- r1.length];exact hz,λp hp=>?_⟩
  have k2:=Kp.new hp (.lst vs);exact q p (rh1.free hp) _ _ (k1.trans k2) (.ref p) (rh1.put k2 (r1.mono k2))
 |.dic,X,e,c,h=>absurd h Xx
 |.ix a b,X,e,c,h=>by
  obtain⟨l,r,p,rfl,h1,h2,h3⟩:=_qa h;refine .plain c ?_ (λ_=>rfl) rfl;refine(TZ (_q3 (by have:=c.room;lia)) (sE a c h1).pe (sE b c h2).pe (_kr h3)).weak λσ H Q hw=>?_
  have:wE Φ (.ix a b)=λσ M Q=>wE Φ a σ M λx M1=>wE Φ b σ M1 λy M2=>wIx x y M2 Q:=rfl;rw[this]at hw;exact Ek (ta:=wE Φ a) (tb:=wE Φ b) (w:=wIx) (X7 c.mon a) (X7 c.mon b) JK hw
 |.sl a lo hi,X,e,c,h=>by
  obtain⟨x,l,u,p,p2,rfl,h1,h2,h3⟩:=_q7 h;refine .plain c ?_ (λ_=>rfl) rfl;refine(TV _oI (sE a c h1).pe (sO lo c h2) (sO hi c h3)).weak λσ H Q hw=>?_;obtain⟨σm,M,rs,rh,hw⟩:=hw;refine⟨σm,M,rs,rh,X7 c.mon a (λx M1 q1=>?_) hw⟩;intro v H1 k1 r1 rh1;refine⟨σm,M1,rs.mono k1,rh1,mon_o c.mon lo (λl M2 q2=>?_) q1⟩;intro H2 k2 rh2;refine⟨σm,M2,rs.mono (k1.trans k2),rh2,mon_o c.mon hi (λu M3 q3=>?_) q2⟩;intro H3 k3 rh3;exact⟨x,M3,r1.mono (k2.trans k3),rh3,JM (λm M' hq=>hq.on (k1.trans (k2.trans k3))) q3⟩
 |.call j a es,X,e,c,h=>by
  obtain⟨f,p,x,xs,p2,rfl,h1,h2,h3,h4⟩:=_kV h;obtain⟨g1,g2,g3⟩:=_M h2;obtain⟨sp,hj⟩:=c.fnn j f h1;obtain⟨k,fa,fd,ps,hr,F,hm,hk,hb⟩:=c.fns j f sp h1 hj;have ha:PA X (x::xs) (W0 (liE X.K (wE Φ a)) (liA X.K (wEs Φ es))):=_G (sE a c h3).pe (sA es c h4) (XT h3);refine .plain c ?_ (λ_=>rfl) rfl;refine(Tw (E:=E0) F hr g1 hm hk hb .nil Cr ha g2 (XT h3) (UK (Uc (pos:=p2) h4)).2).weak λσ H Q hw=>?_;obtain⟨σm,M,rs,rh,hw⟩:=hw;rw[K0]at hw;refine⟨σm,M,rs,rh,X7 c.mon a (λv M1 q1=>?_) hw⟩;intro u H1 k1 r1 rh1;refine⟨σm,M1,rs.mono k1,rh1,mon_es c.mon es (λvs M2 ⟨f',sp',e,q2⟩=>?_) q1⟩;rw[hj]at e;cases e;intro us H2 k2 r2 rh2;refine⟨v::vs,M2,?_,rh2,c.mon j f sp hj (λm M' hq=>hq.on (k1.trans k2)) q2⟩;rw[VC];exact .cons (r1.mono k2) r2
 |.bi f a es,X,e,c,h=>by
  obtain⟨p,x,xs,p2,rfl,h1,h2,h3,h4⟩:=_qc h;obtain⟨g1,g2,g3⟩:=_M h2;have ha:PA X (x::xs) (W0 (liE X.K (wE Φ a)) (liA X.K (wEs Φ es))):=_G (sE a c h3).pe (sA es c h4) (XT h3);have hv:=_od f;have hcall:=_oa (X:=X) c.calm f;have hp:PE X (.Call (.Name (f.name:Str) p) (x::xs) [] p2) (tCB (liW X.K (wBi f)) (W0 (liE X.K (wE Φ a)) (liA X.K (wEs Φ es)))):=by
   cases hf:f.val<;>rw[hf]at hv hcall<;>first
    |exact TF hcall g1 (c.bls _ h1) hv ha g3 g2 (XT h3) (UK (Uc (pos:=p2) h4)).2
    |exact TH hcall g1 (c.bls _ h1) hv ha g3 g2 (XT h3) (UK (Uc (pos:=p2) h4)).2
    |(cases f<;>cases hf)
  refine .plain c ?_ (λ_=>rfl) rfl;refine hp.weak λσ H Q hw=>?_;obtain⟨σm,M,rs,rh,hw⟩:=hw;refine⟨σm,M,rs,rh,X7 c.mon a (λv M1 q1=>?_) hw⟩;intro u H1 k1 r1 rh1;refine⟨σm,M1,rs.mono k1,rh1,mon_es c.mon es (λvs M2 q2=>?_) q1⟩;intro us H2 k2 r2 rh2;exact⟨v::vs,M2,.cons (r1.mono k2) r2,rh2,JP f (λm M' hq=>hq.on (k1.trans k2)) q2⟩
 |.b2 f a,X,e,c,h=>by
  obtain⟨p,p',x,p2,p2',rfl,h1,h2,h3,h4,h5⟩:=_qd h;obtain⟨g1,g2,g3⟩:=_M h3;obtain⟨k1,k2,k3⟩:=_M h4;have hv:YA (f.out:Str)=some f.outV:=by cases f<;>decide+kernel
  have hv':YA (f.inn:Str)=some (.type f.inn):=by cases f<;>decide+kernel
  have hp:PE X (.Call (.Name (f.out:Str) p) [.Call (.Name (f.inn:Str) p') [x] [] p2'] [] p2) (λσ H Q=>liE X.K (wE Φ a) σ H λv H1=>li1 X.K (wB2 f) v H1 Q):=by
   have hc:=_ob (X:=X) c.calm f;cases f with
   |lrng=>exact _ix (p:=p) (p':=p') (pos:=p2) (pos':=p2') hc g1 (c.bls _ h1) hv k1 (c.bls _ h2) hv' (sE a c h5).pe g3 g2 k3 k2 (XT h5)
   |ssrt=>exact Ei (p:=p) (p':=p') (pos:=p2) (pos':=p2') hc g1 (c.bls _ h1) hv k1 (c.bls _ h2) hv' (sE a c h5).pe g3 g2 k3 k2 (XT h5)
   |lset=>exact Ei (p:=p) (p':=p') (pos:=p2) (pos':=p2') hc g1 (c.bls _ h1) hv k1 (c.bls _ h2) hv' (sE a c h5).pe g3 g2 k3 k2 (XT h5)
   |tset=>exact Ei (p:=p) (p':=p') (pos:=p2) (pos':=p2') hc g1 (c.bls _ h1) hv k1 (c.bls _ h2) hv' (sE a c h5).pe g3 g2 k3 k2 (XT h5)
  refine .plain c ?_ (λ_=>rfl) rfl;refine hp.weak λσ H Q hw=>?_;obtain⟨σm,M,rs,rh,hw⟩:=hw;refine⟨σm,M,rs,rh,X7 c.mon a (λv M1 q1=>?_) hw⟩;intro u H1 k1 r1 rh1;exact⟨v,M1,r1,rh1,JR f (λm M' hq=>hq.on k1) q1⟩
 |.st3 a,X,e,c,h=>absurd h Xx
 |.mxd a,X,e,c,h=>absurd h Xx
 |.mt m o es,X,e,c,h=>by
  obtain⟨ob,ap,args,cp,rfl,h1,h2,h3,h4⟩:=_q9 h;have slot:PySem.Slot m.ty (m.name:Str) m.id/\typeOf (.builtin m.id)=pure (.type "method_descriptor"):=by
   cases m
   ·exact⟨PySem.F.slot_list_append,PySem.F.type_list_append⟩
   ·exact⟨PySem.F.slot_list_extend,PySem.F.type_list_extend⟩
   ·exact⟨PySem.F.slot_list_reverse,PySem.F.type_list_reverse⟩
   ·exact⟨PySem.F.slot_list_clear,PySem.F.type_list_clear⟩
   ·exact⟨HF,HG⟩
   ·exact⟨HF,HG⟩
   ·exact⟨PySem.F.slot_dict_clear,PySem.F.type_dict_clear⟩
   ·exact⟨HH,HI⟩
   ·exact⟨HH,HI⟩
   ·exact⟨PySem.F.slot_str_join,PySem.F.type_str_join⟩
   ·exact⟨PySem.F.slot_list_remove,PySem.F.type_list_remove⟩
  have plain:PlainAttrs m.ty:=by
   cases m<;>first|exact PySem.F.plainAttrs_list|exact PySem.F.plainAttrs_dict|exact PySem.F.plainAttrs_str
  have hu1:X.A.units+1<cLine:=by have:=c.room;lia
  have tyL:∀{H1:Hp} {M1:MH} {mx:MV} {v:V},RH X.K M1 H1->RM X.K H1 mx v->mtOk m mx M1->tyV X.K m.ty v H1:=by
   intro H1 M1 mx v rh r hm;cases m
   case join=>
    obtain⟨z,rfl⟩:=hm;cases r;exact rfl
   case dclear|dget|dgetD=>
    obtain⟨a,kvs,rfl,hm⟩:=hm;cases r;obtain⟨vs,e,_⟩:=rh.dic hm;exact .inr (.inr (.inl ⟨rfl,.inl ⟨vs,e⟩⟩))
   all_goals
    obtain⟨a,xs,rfl,hm⟩:=hm;cases r;obtain⟨vs,e,_⟩:=rh.lst hm;exact .inl ⟨rfl,vs,SqL.of e⟩
  refine .plain c ?_ (λ_=>rfl) rfl;cases args with
  |nil=>
   refine(_pv plain slot.1 slot.2 (JU hu1 m) (sE o c h2).pe (WZ h2) h1).weak λσ H Q hw=>?_;obtain⟨σm,M,rs,rh,hw⟩:=hw;refine⟨σm,M,rs,rh,X7 c.mon o (λv M1 ⟨q0,q1⟩=>?_) hw⟩;intro u H1 k1 r1 rh1;cases es with
   |cons _ _=>exact absurd h3 Xx
   |nil=>
    exact⟨tyL rh1 r1 q0,v,[],M1,r1,.nil,rh1,Eo (λm M' hq=>hq.on k1) q1⟩
  |cons x xs=>
   cases es with
   |nil=>cases Ey h3
   |cons a es=>
    have h3':=h3;obtain⟨x',xs',e',h3⟩:=Ez h3;cases e';have ha:=sA (.cons a es) c h3';have hall:=UK (pos:=cp) (Uc (env:=X.env) (pos:=cp) h3');refine(_rE plain slot.1 slot.2 (JU hu1 m) (sE o c h2).pe ha (WZ h2) ?_ h1 (XT h3.1) (UK (Uc (pos:=cp) h3.2)).2).weak λσ H Q hw=>?_
    ·rw[hall.1];simp only[BT,XX,decide_eq_true_eq];refine⟨rfl,?_⟩;simp at h4 ⊢;lia
    obtain⟨σm,M,rs,rh,hw⟩:=hw;refine⟨σm,M,rs,rh,X7 c.mon o (λv M1 ⟨q0,q1⟩=>?_) hw⟩;intro u H1 k1 r1 rh1;refine⟨tyL rh1 r1 q0,σm,M1,rs.mono k1,rh1,mon_es c.mon (.cons a es) (λvs M2 q2=>?_) q1⟩;intro us H2 k2 r2 rh2;exact⟨v,vs,M2,r1.mono k2,r2,rh2,Eo (λm M' hq=>hq.on (k1.trans k2)) q2⟩
 |.comp own fr src tg test elt,X,e,c,h=>by
  obtain⟨x,t,it,ifs,scope,p,rfl,h1,h2,h3,h4,h5,h6,h7⟩:=K8 h;refine .plain c ?_ (λ_=>rfl) rfl;refine(_ky own fr (g:=gOf X.K tg) (te:=liE X.K (wE Φ elt)) (λe s h=>by rw[c.nox]at h;exact h) c.calm h1 (sSr src (tg:=t) c h4) (λC fp s₃ H₃=>sTg (X:=cxC X scope own fr C fp s₃ H₃) (lim:=own.length) (all:=false) c.calm h3 (λz=>by cases z) tg h5) (tt:=ttOf X.K Φ test) (λC fp s₃ H₃=>sI (X:=cxC X scope own fr C fp s₃ H₃) test (c.comp (W4 h1).kind h3) h6)
   (λC fp s₃ H₃=>(sE (X:=cxC X scope own fr C fp s₃ H₃) elt (c.comp (W4 h1).kind h3) h7).pe) (EE h2 _)).thaw.weak λσ H Q hw=>?_
  exact Ke c.mon h5 hw
 |.fld cn o f,X,e,c,h=>by
  obtain⟨ob,p,rfl,h1,h2⟩:=_nM h;obtain⟨C,hC,cl,na⟩:=c.cls cn f h1;refine .plain c ?_ (λ_=>rfl) rfl;refine(Tn (sE o c h2).pe (WZ h2)).weak λσ H Q hw=>?_;obtain⟨σm,M,rs,rh,hw⟩:=hw;refine⟨σm,M,rs,rh,X7 c.mon o (λv M1 ⟨a,fs,y,e,e2,e3,q⟩=>?_) hw⟩;subst e;intro u H1 k1 r1 rh1;cases r1;obtain⟨C',dx,vs,g1,g2,g3⟩:=rh1.ins e2;rw[hC]at g2;cases g2;rcases Cy (f:=f) g3 with⟨z1,z2⟩|⟨x',u',z1,z2,r'⟩
  ·rw[e3]at z1;cases z1
  ·rw[e3]at z1;cases z1;exact⟨a,C,dx,vs,u',rfl,g1,cl,na,z2,q _ _ k1 r' rh1⟩
 |.mcall j cn m o es,X,e,c,h=>by
  obtain⟨ob,ap,args,cp,rfl,h1,h2,h3,h8,h9⟩:=_j1 h;have hform:methodCallForm (args.length+([]:List Z5).length) (XZ cp (Xw args X.env)) (ZY cp (ZZ [] X.env))=true:=by
   unfold methodCallForm;have e0:ZY cp (ZZ [] X.env)=[]:=rfl;rw[(UK (Uc (pos:=cp) h3)).1,e0];simp only[BT,XX,decide_eq_true_eq];refine⟨rfl,?_⟩;simp at h9 ⊢;lia
  obtain⟨fn,sp,hj,k,C,fa,fd,ps,hr,F,hC,cl,hm,hb⟩:=c.mts j cn m h1;refine .plain c ?_ (λ_=>rfl) rfl;cases args with
  |nil=>
   refine(Ty (E:=E0) (sE o c h2).pe cl hm F hr hb .nil Cr (Kg (WZ h2) hform h8)).weak λσ H Q hw=>?_;obtain⟨σm,M,rs,rh,hw⟩:=hw;refine⟨σm,M,rs,rh,X7 c.mon o (λv M1 ⟨a,fs,e,e2,e3,q⟩=>?_) hw⟩;subst e;intro u H1 k1 r1 rh1;cases r1;obtain⟨C',dx,vs,g1,g2,g3⟩:=rh1.ins e2;rw[hC]at g2;cases g2;have hn:vs.lookup m=none:=by
    rcases Cy (f:=m) g3 with⟨_,z2⟩|⟨x',u',z1,_⟩
    ·exact z2
    ·rw[e3]at z1;cases z1
   cases es with
   |cons _ _=>exact absurd h3 Xx
   |nil=>
    obtain⟨f',sp',e4,q2⟩:=q;rw[hj]at e4;cases e4;exact⟨a,dx,vs,rfl,g1,hn,[.ref a],M1,.cons (.ref a) .nil,rh1,c.mon j fn sp hj (λm M' hq=>hq.on k1) q2⟩
  |cons x xs=>
   cases es with
   |nil=>cases Ey h3
   |cons a0 es=>
    have h3':=h3;obtain⟨x',xs',e',h4,h5⟩:=Ez h3;cases e';refine(Tx (E:=E0) (sE o c h2).pe cl hm F hr hb .nil Cr (sA (.cons a0 es) c h3') (XT h4) (UK (Uc (pos:=cp) h5)).2 (Kg (WZ h2) hform h8)).weak λσ H Q hw=>?_;obtain⟨σm,M,rs,rh,hw⟩:=hw;refine⟨σm,M,rs,rh,X7 c.mon o (λv M1 ⟨a,fs,e,e2,e3,q⟩=>?_) hw⟩;subst e;intro u H1 k1 r1 rh1;cases r1;obtain⟨C',dx,vs,g1,g2,g3⟩:=rh1.ins e2;rw[hC]at g2;cases g2;have hn:vs.lookup m=none:=by
     rcases Cy (f:=m) g3 with⟨_,z2⟩|⟨x',u',z1,_⟩
     ·exact z2
     ·rw[e3]at z1;cases z1
    refine⟨a,dx,vs,rfl,g1,hn,σm,M1,rs.mono k1,rh1,mon_es c.mon (.cons a0 es) (λws M2 ⟨f',sp',e4,q2⟩=>?_) q⟩;rw[hj]at e4;cases e4;intro us H2 k2 r2 rh2;refine⟨.ref a::ws,M2,?_,rh2,c.mon j fn sp hj (λm M' hq=>hq.on (k1.trans k2)) q2⟩;rw[VC];exact .cons (.ref a) r2
 |.make j cn a es,X,e,c,h=>by
  obtain⟨p,x,xs,p2,rfl,h1,h2,h3,h4⟩:=_kU h;obtain⟨g1,g2,g3⟩:=_M h2;obtain⟨fn,sp,hj,k,C,fa,fd,ps,hr,F,hC,hm,mk,hb⟩:=c.mks j cn h1;have ha:PA X (x::xs) (W0 (liE X.K (wE Φ a)) (liA X.K (wEs Φ es))):=_G (sE a c h3).pe (sA es c h4) (XT h3);refine .plain c ?_ (λ_=>rfl) rfl;refine(TB (E:=E0) mk F hr g1 hm hb .nil Cr ha g2 (XT h3) (UK (Uc (pos:=p2) h4)).2).weak λσ H Q hw=>?_;obtain⟨σm,M,rs,rh,hw⟩:=hw;refine⟨σm,M,rs,rh,X7 c.mon a (λv M1 q1=>?_) hw⟩;intro u H1 k1 r1 rh1;refine⟨σm,M1,rs.mono k1,rh1,mon_es c.mon es (λvs M2 ⟨f',sp',e,q2⟩=>?_) q1⟩;rw[hj]at e;cases e;intro us H2 k2 r2 rh2;intro q dx hq hdx ne;have kk:Kp H2 (upd (upd H2 dx (.own q)) q (.ins C dx [])):=(Kp.new hdx _).trans (Kp.new (by rw[XG ne.symm];exact hq) _)
  refine⟨.ref q::v::vs,updM M2 q (.ins cn []),?_,?_,c.mon j fn sp hj (λm M' ⟨z,hq'⟩=>?_) (q2 q (rh2.free hq))⟩
  ·rw[VC];exact .cons (.ref q) (.cons ((r1.mono k2).mono kk) (r2.mono kk))
  ·have k3:=Kp.new (H:=H2) hdx (.own q);have rh3:RH X.K M2 (upd H2 dx (.own q)):=rh2.kept hdx _;exact rh3.put (Kp.new (by rw[XG ne.symm];exact hq) _) (o:=.ins cn []) ⟨hC,.nil⟩
  ·subst z;intro v' H' k' r' rh';cases r';exact⟨rfl,hq' _ _ ((k1.trans k2).trans (kk.trans k')) (.ref q) rh'⟩
 |.disp ps,X,e,c,h=>absurd h Xx
theorem sP:∀(ps:IPs) {X:Cx} {pos:Pos} {ks:List (Option Expr)} {vs:List Expr},Cok X G Φ->WY G ps X.env.scope X.N ks vs=true->PPs X pos ks vs (trOf X.K Φ ps)
 |.nil,X,pos,ks,vs,c,h=>by
  obtain⟨rfl,rfl⟩:=_hq h;exact _mP
 |.cons k v r,X,pos,ks,vs,c,h=>by
  obtain⟨x,ks',y,vs',rfl,rfl,h1,h2,h3⟩:=_fX h;exact _kq (sE k c h1).pe (sE v c h2).pe (sP r c h3)
theorem sA{G:GI}{Φ:List (Str×SpM)}:∀(ies:IEs) {X:Cx} {es:List Expr},Cok X G Φ->chkEs G ies X.env.scope X.N es=true->PA X es (liA X.K (wEs Φ ies))
 |.nil,X,es,c,h=>by
  cases es with
  |cons _ _=>cases Ey h
  |nil=>
   refine pa_nil.weak λσ H Q hw=>?_;obtain⟨σm,M,rs,rh,hw⟩:=hw;exact hw _ _ (Kp.refl _) .nil rh
 |.cons a as,X,es,c,h=>by
  cases es with
  |nil=>cases h
  |cons x xs=>
   obtain⟨x',xs',e',h⟩:=Ez h;cases e';refine(_G (sE a c h.1).pe (sA as c h.2) (XT h.1)).weak λσ H Q hw=>?_;have:wEs Φ (.cons a as)=λσ M Q=>wE Φ a σ M λv M1=>wEs Φ as σ M1 λvs M2=>Q (v::vs) M2:=rfl;rw[this]at hw;exact _nv (te:=wE Φ a) (t:=wEs Φ as) (X7 c.mon a) (mon_es c.mon as) hw
theorem sO{G:GI}{Φ:List (Str×SpM)}:∀(io:IO) {X:Cx} {e:Option Expr},Cok X G Φ->chkO G io X.env.scope X.N e=true->PO X e (liO X.K (wO Φ io))
 |.none,X,e,c,h=>by
  cases e with
  |some _=>cases _hs h
  |none=>
   intro pins s σ H Q I hw;refine TR pins s σ H Q I ?_;obtain⟨σm,M,rs,rh,hw⟩:=hw;exact hw _ (Kp.refl _) rh
 |.some a,X,e,c,h=>by
  cases e with
  |none=>exact absurd h Xx
  |some x=>
   obtain⟨x',e',h⟩:=_hr h;cases e';intro pins s σ H Q I hw;refine TU (sE a c h).pe pins s σ H Q I ?_;obtain⟨σm,M,rs,rh,hw⟩:=hw;refine⟨σm,M,rs,rh,X7 c.mon a (λv M1 ⟨i,e,q⟩=>?_) hw⟩;subst e;intro u H1 k1 r1 rh1;cases r1;exact⟨i,rfl,q H1 k1 rh1⟩
theorem sI{G:GI}{Φ:List (Str×SpM)}:∀(io:IO) {X:Cx} {es:List Expr},Cok X G Φ->chkI G io X.env.scope X.N es=true->PTs X es (ttOf X.K Φ io)
 |.none,X,es,c,h=>by
  cases es with
  |cons _ _=>cases _hu h
  |nil=>exact .inl ⟨rfl,rfl⟩
 |.some a,X,es,c,h=>by
  obtain⟨x,rfl,h1,h2⟩:=_ht h;exact .inr ⟨x,rfl,(sE a c h2).pt h1⟩
theorem sSr{G:GI}{Φ:List (Str×SpM)}:∀(s:ISr) {X:Cx} {tg e:Expr},Cok X G Φ->chkSr G s X.env.scope X.N e=true->PI X tg e (liSr X (wSr Φ s))
 |.seq a,X,tg,e,c,h=>by
  refine(_mV (sE a c h).pe).weak λσ H R hw=>?_;obtain⟨σm,M,rs,rh,hw⟩:=hw;refine⟨σm,M,rs,rh,X7 c.mon a (λv M1 q=>?_) hw⟩;intro u H1 k1 r1 rh1;rcases q with⟨xs,e,q⟩|⟨b,xs,e,hb,q⟩|⟨b,kvs,e,hb,q⟩|⟨z,e,q⟩
  ·rcases e with e|e
   ·subst e;cases r1 with
    |tup h1 q1=>exact .inl ⟨_,rfl,.inr (.inl ⟨_,SqT.of h1,q _ _ k1 rh1 (.inl ⟨_,_,h1,q1,rfl⟩)⟩)⟩
   ·subst e;cases r1 with
    |frl h1 q1=>exact .inl ⟨_,rfl,.inl ⟨_,h1.sq,q _ _ k1 rh1 (.inr ⟨_,_,h1,q1,rfl⟩)⟩⟩
  ·subst e;cases r1;obtain⟨vs,e2,_⟩:=rh1.lst hb;exact .inl ⟨_,rfl,.inl ⟨_,SqL.of e2,q _ _ k1 rh1 rfl⟩⟩
  ·subst e;cases r1;obtain⟨vs,e2,r2,nd⟩:=rh1.dic hb;refine .inl ⟨_,rfl,.inr (.inr ⟨vs,e2,λo nf=>?_⟩)⟩;have k:=Kp.upd e2 rfl (.frz o (.dK vs));exact q o _ _ (k1.trans k) (rh1.put k (o:=.fdic o kvs) ⟨rfl,r2.mono k,nd⟩) ⟨rfl,nf⟩
  ·subst e;cases r1;exact .inr ⟨z,rfl,q _ _ k1 rh1 rfl⟩
 |.rng a,X,tg,e,c,h=>by
  obtain⟨p,x,p2,rfl,h2,h3,h4⟩:=_nE h;refine(SH (_M h3).1 (c.bls _ h2) (_G (sE a c h4).pe pa_nil (XT h4)) (XT h4)).weak λσ H R hw=>?_;obtain⟨σm,M,rs,rh,hw⟩:=hw;refine⟨σm,M,rs,rh,X7 c.mon a (λv M1 ⟨j,e,q1,q2,q⟩=>?_) hw⟩;subst e;intro u H1 k1 r1 rh1;cases r1;exact⟨j,rfl,q1,q2,q _ _ k1 rh1 rfl⟩
 |.rng2 a b,X,tg,e,c,h=>by
  obtain⟨p,x,y,p2,rfl,h2,h3,h4,h5⟩:=_kT h;refine(SI (_M h3).1 (c.bls _ h2) (_G (sE a c h4).pe (_G (sE b c h5).pe pa_nil (XT h5)) (XT h4)) (by rw[XT h4,XT h5];rfl) (XT h5)).weak λσ H R hw=>?_
  obtain⟨σm,M,rs,rh,hw⟩:=hw;refine⟨σm,M,rs,rh,X7 c.mon a (λv M1 q1=>?_) hw⟩;intro u H1 k1 r1 rh1;refine⟨σm,M1,rs.mono k1,rh1,X7 c.mon b (λw M2 ⟨i,j,e1,e2,hb,q⟩=>?_) q1⟩;subst e1 e2;intro u2 H2 k2 r2 rh2;cases r1;cases r2;exact⟨i,j,rfl,hb,q _ _ (k1.trans k2) rh2 rfl⟩
 |.rng3 a b d,X,tg,e,c,h=>by
  obtain⟨p,x,y,z,p2,rfl,h2,h3,h4,h5,h6⟩:=_kS h;refine(_is (_M h3).1 (c.bls _ h2) (_G (sE a c h4).pe (_G (sE b c h5).pe (_G (sE d c h6).pe pa_nil (XT h6)) (XT h5)) (XT h4)) (by rw[XT h4,XT h5,XT h6];rfl) (by rw[XT h5,XT h6];rfl)).weak λσ H R hw=>?_
  obtain⟨σm,M,rs,rh,hw⟩:=hw;refine⟨σm,M,rs,rh,X7 c.mon a (λv M1 q1=>?_) hw⟩;intro u H1 k1 r1 rh1;refine⟨σm,M1,rs.mono k1,rh1,X7 c.mon b (λw M2 q2=>?_) q1⟩;intro u2 H2 k2 r2 rh2;refine⟨σm,M2,rs.mono (k1.trans k2),rh2,X7 c.mon d (λw2 M3 ⟨i,j,e1,e2,e3,hb,q⟩=>?_) q2⟩;subst e1 e2 e3;intro u3 H3 k3 r3 rh3;cases r1;cases r2;cases r3;exact⟨i,j,rfl,hb,q _ _ (k1.trans (k2.trans k3)) rh3 rfl⟩
end
end L2
namespace L2
set_option genInjectivity false
set_option genCtorIdx false
open PySem PySem.Spec PyProof.Rows
mutual
inductive IS where
 |pass|brk|cnt|never
 |ret (e:IE)|retN
 |set (i:Nat) (e:IE)
 |asg (t:ITgs) (e:IE)
 |put (o i e:IE)
 |fset (c:Str) (o:IE) (f:Str) (e:IE)
 |expr (e:IE)
 |ite (c:IE) (a b:ISs)
 |for_ (t:ITg) (s:ISr) (b:ISs)
 |while_ (c:IE) (b:ISs)
inductive ISs where|nil|cons (s:IS) (r:ISs)
end
structure EndM where
 nx:Sm->MH->Prop
 rt:QM
 bk:Sm->MH->Prop:=λ_ _=>False
 ct:Sm->MH->Prop:=λ_ _=>False
mutual
def wS(Φ:List (Str×SpM)):IS->EndM->Sm->MH->Prop
 |.pass,D,σ,M=>D.nx σ M
 |.brk,D,σ,M=>D.bk σ M
 |.cnt,D,σ,M=>D.ct σ M
 |.never,_,_,_=>False
 |.ret e,D,σ,M=>wE Φ e σ M D.rt
 |.retN,D,_,M=>D.rt .non M
 |.set i e,D,σ,M=>wE Φ e σ M λv M1=>D.nx (σ.set i (some v)) M1
 |.asg t e,D,σ,M=>wE Φ e σ M λv M1=>∃xs,v=.tup xs/\wTgs t xs σ λσ'=>D.nx σ' M1
 |.put o i e,D,σ,M=>wE Φ e σ M λv M1=>wE Φ o σ M1 λx M2=>wE Φ i σ M2 λy M3=>wPut x y v M3 λM4=>D.nx σ M4
 |.fset c o f e,D,σ,M=>wE Φ e σ M λv M1=>wE Φ o σ M1 λx M2=>∃a fs,x=.ref a/\M2 a=some (.ins c fs)/\fs.length<1000/\D.nx σ (updM M2 a (.ins c (putM fs f v)))
 |.expr e,D,σ,M=>wE Φ e σ M λ_ M1=>D.nx σ M1
 |.ite c a b,D,σ,M=>wE Φ c σ M λx M1=>onB x λk=>(if k=true then wSs Φ a D σ M1 else wSs Φ b D σ M1)
 |.for_ t s b,D,σ,M=>wSr Φ s σ M λS M1=>∃J:Nat->Sm->MH->Prop,J 0 σ M1/\(∀i σ M,J i σ M->S.ok M)/\
   (∀i x σ M,S.items[i]?=some x->J i σ M->wTg t x σ λσ2=>wSs Φ b {nx:=J (i+1),rt:=λv M=>S.okT M/\D.rt v (S.thaw M),bk:=λσ M=>S.okT M/\D.nx σ (S.thaw M),ct:=J (i+1)} σ2 M)/\∀σ M,J S.len σ M->D.nx σ (S.thaw M)
 |.while_ c b,D,σ,M=>∃J:Nat->Sm->MH->Prop,(∃m,J m σ M)/\∀m σ M,J m σ M->wE Φ c σ M λx M1=>∃k,x=.bl k/\
   (if k=true then wSs Φ b {nx:=λσ' M'=>∃m',m'<m/\J m' σ' M',rt:=D.rt,bk:=D.nx,ct:=λσ' M'=>∃m',m'<m/\J m' σ' M'} σ M1 else D.nx σ M1)
def wSs(Φ:List (Str×SpM)):ISs->EndM->Sm->MH->Prop
 |.nil,D,σ,M=>D.nx σ M
 |.cons s r,D,σ,M=>wS Φ s {nx:=λσ M=>wSs Φ r D σ M,rt:=D.rt,bk:=D.bk,ct:=D.ct} σ M
end
theorem Kh{Φ:List (Str×SpM)}{c:IE}{a b:ISs}{D:EndM}{σ:Sm}{M:MH}:wS Φ (.ite c a b) D σ M=wE Φ c σ M λx M1=>∃k,x=.bl k/\(if k=true then wSs Φ a D σ M1 else wSs Φ b D σ M1):=by rw[wS];simp only[W9]
structure EndM.Le (D D':EndM):Prop where
 nx:∀σ M,D.nx σ M->D'.nx σ M
 rt:∀v M,D.rt v M->D'.rt v M
 bk:∀σ M,D.bk σ M->D'.bk σ M
 ct:∀σ M,D.ct σ M->D'.ct σ M
mutual
theorem Ki{Φ:List (Str×SpM)}(hΦ:∀(j:Nat) f sp,Φ[j]?=some (f,sp)->MonW sp):∀(s:IS) {D D':EndM} {σ:Sm} {M:MH},D.Le D'->wS Φ s D σ M->wS Φ s D' σ M
 |.pass,D,D',σ,M,l,h=>by exact l.nx _ _ h
 |.brk,D,D',σ,M,l,h=>by exact l.bk _ _ h
 |.cnt,D,D',σ,M,l,h=>by exact l.ct _ _ h
 |.never,D,D',σ,M,l,h=>h.elim
 |.ret e,D,D',σ,M,l,h=>by exact X7 hΦ e l.rt h
 |.retN,D,D',σ,M,l,h=>by exact l.rt _ _ h
 |.set i e,D,D',σ,M,l,h=>by exact X7 hΦ e (λv M1 h1=>l.nx _ _ h1) h
 |.asg t e,D,D',σ,M,l,h=>by exact X7 hΦ e (λv M1 ⟨xs,e,h1⟩=>⟨xs,e,mon_tgs t (λσ' h2=>l.nx _ _ h2) h1⟩) h
 |.put o i e,D,D',σ,M,l,h=>by
  exact X7 hΦ e (λv M1 h1=>X7 hΦ o (λx M2 h2=>X7 hΦ i (λy M3 h3=>JV (λM4 h4=>l.nx _ _ h4) h3) h2) h1) h
 |.fset c o f e,D,D',σ,M,l,h=>by
  exact X7 hΦ e (λv M1 h1=>X7 hΦ o (λx M2 ⟨a,fs,e1,e2,e3,h2⟩=>⟨a,fs,e1,e2,e3,l.nx _ _ h2⟩) h1) h
 |.expr e,D,D',σ,M,l,h=>by exact X7 hΦ e (λv M1 h1=>l.nx _ _ h1) h
 |.ite c a b,D,D',σ,M,l,h=>by
  rw[Kh]at h ⊢;exact X7 hΦ c (λx M1 ⟨k,e,h1⟩=>⟨k,e,YN (mon_ss hΦ a l) (mon_ss hΦ b l) h1⟩) h
 |.for_ t s b,D,D',σ,M,l,h=>by
  refine mon_sr hΦ s (λS M1 ⟨J,j0,j1,j2,j3⟩=>⟨J,j0,j1,λi x σ M hx hj=>?_,λσ M hj=>l.nx _ _ (j3 σ M hj)⟩) h;exact UJ t (λσ2 h2=>by refine mon_ss hΦ b ?_ h2;exact⟨λ_ _ z=>z,λ_ _ z=>⟨z.1,l.rt _ _ z.2⟩,λ_ _ z=>⟨z.1,l.nx _ _ z.2⟩,λ_ _ z=>z⟩) (j2 i x σ M hx hj)
 |.while_ c b,D,D',σ,M,l,h=>by
  obtain⟨J,j0,j1⟩:=h;refine⟨J,j0,λm σ M hj=>X7 hΦ c (λx M1 ⟨k,e,h1⟩=>⟨k,e,YN (λz=>by refine mon_ss hΦ b ?_ z;exact⟨λ_ _ z=>z,l.rt,l.nx,λ_ _ z=>z⟩) (l.nx _ _) h1⟩) (j1 m σ M hj)⟩
theorem mon_ss{Φ:List (Str×SpM)}(hΦ:∀(j:Nat) f sp,Φ[j]?=some (f,sp)->MonW sp):∀(s:ISs) {D D':EndM} {σ:Sm} {M:MH},D.Le D'->wSs Φ s D σ M->wSs Φ s D' σ M
 |.nil,D,D',σ,M,l,h=>by exact l.nx _ _ h
 |.cons s r,D,D',σ,M,l,h=>by
  refine Ki hΦ s ?_ h;exact⟨λσ M h1=>mon_ss hΦ r l h1,l.rt,l.bk,l.ct⟩
end
def Kj:Expr->Bool
 |.Tuple ..=>false|_=>true
noncomputable def A0:Expr->Bool
 |.ListComp ..=>false|.SetComp ..=>false|.DictComp ..=>false|_=>true
def Zq4:Stmt->Bool|.Pass _=>true|_=>false
def ZrN:Stmt->Bool|.Break _=>true|_=>false
def ZrM:Stmt->Bool|.Continue _=>true|_=>false
def Kk:Stmt->Option (Option Expr)|.Return v _=>some v|_=>none
def A3:Stmt->Option (List Expr×Expr)|.Assign ts v _=>some (ts,v)|_=>none
def asEx:Stmt->Option Expr|.Expr v _=>some v|_=>none
noncomputable def Kl:Stmt->Option (Expr×List Stmt×List Stmt)|.If t x y _=>some (t,x,y)|_=>none
noncomputable def Km:Stmt->Option (Expr×Expr×List Stmt×List Stmt)|.For t i b r _=>some (t,i,b,r)|_=>none
noncomputable def asWh:Stmt->Option (Expr×List Stmt×List Stmt)|.While t b r _=>some (t,b,r)|_=>none
section
variable{e:Stmt}
theorem isPass_of(h:Zq4 e=true):∃p,e=.Pass p:=by revert h;cases e<;>first|exact nob|(intro h;cases h;exact⟨_,rfl⟩)
theorem isBrk_of(h:ZrN e=true):∃p,e=.Break p:=by revert h;cases e<;>first|exact nob|(intro h;cases h;exact⟨_,rfl⟩)
theorem isCnt_of(h:ZrM e=true):∃p,e=.Continue p:=by revert h;cases e<;>first|exact nob|(intro h;cases h;exact⟨_,rfl⟩)
theorem _lh{x:Option Expr}(h:Kk e=some x):∃p,e=.Return x p:=by revert h;cases e<;>first|exact nos|(intro h;cases h;exact⟨_,rfl⟩)
theorem CI{x:List Expr×Expr}(h:A3 e=some x):∃p,e=.Assign x.1 x.2 p:=by revert h;cases e<;>first|exact nos|(intro h;cases h;exact⟨_,rfl⟩)
theorem _om{x:Expr}(h:asEx e=some x):∃p,e=.Expr x p:=by revert h;cases e<;>first|exact nos|(intro h;cases h;exact⟨_,rfl⟩)
theorem _lj{x:Expr×List Stmt×List Stmt}(h:Kl e=some x):∃p,e=.If x.1 x.2.1 x.2.2 p:=by revert h;cases e<;>first|exact nos|(intro h;cases h;exact⟨_,rfl⟩)
theorem _lk{x:Expr×Expr×List Stmt×List Stmt}(h:Km e=some x):∃p,e=.For x.1 x.2.1 x.2.2.1 x.2.2.2 p:=by revert h;cases e<;>first|exact nos|(intro h;cases h;exact⟨_,rfl⟩)
theorem _oh{x:Expr×List Stmt×List Stmt}(h:asWh e=some x):∃p,e=.While x.1 x.2.1 x.2.2 p:=by revert h;cases e<;>first|exact nos|(intro h;cases h;exact⟨_,rfl⟩)
end
mutual
def chkS(G:GI)(sc:Scope)(N:List Str):IS->Stmt->Bool
 |.pass,_=>false
 |.brk,_=>false
 |.cnt,_=>false
 |.never,_=>true
 |.ret e,s=>(Kk s).any λo=>o.any λx=>chkE G e sc N x
 |.retN,_=>false
 |.set i e,s=>(A3 s).any λq=>(the1 q.1).any λt=>(YO t).any λx=>decide (N[i]?=some x)&&locB sc x&&chkE G e sc N q.2
 |.asg t e,s=>(A3 s).any λq=>(the1 q.1).any λg=>(WW g).any λes=>chkTgs sc N N.length true t es&&chkE G e sc N q.2&&Kj q.2
 |.put o i e,s=>(A3 s).any λq=>(the1 q.1).any λt=>(WX t).any λa=>chkE G o sc N a.1&&chkE G i sc N a.2&&WU a.2&&chkE G e sc N q.2
 |.fset c o f e,s=>(A3 s).any λq=>(the1 q.1).any λt=>(Wc t).any λa=>decide (a.2.1=f)&&G.cls.contains (c,f)&&chkE G o sc N a.1&&chkE G e sc N q.2
 |.expr e,s=>(asEx s).any λv=>chkE G e sc N v&&A0 v
 |.ite c a b,s=>(Kl s).any λq=>tok c&&chkE G c sc N q.1&&chkSs G sc N a q.2.1&&chkSs G sc N b q.2.2
 |.for_ t r b,s=>(Km s).any λq=>Ze sc N N.length true t q.1&&chkSr G r sc N q.2.1&&WV q.2.1&&chkSs G sc N b q.2.2.1&&non0 q.2.2.2
 |.while_ c b,s=>(asWh s).any λq=>tok c&&chkE G c sc N q.1&&chkSs G sc N b q.2.1&&non0 q.2.2
def chkSs(G:GI)(sc:Scope)(N:List Str):ISs->List Stmt->Bool
 |.nil,l=>non0 l
 |.cons s r,l=>(hd1 l).any λq=>chkS G sc N s q.1&&chkSs G sc N r q.2
end
def liD(K:X4)(H:Hp)(D:Ends):EndM where
 nx:=λσm M=>∀σ H',Kp H H'->RS K H' σm σ->RH K M H'->D.nx σ H'
 rt:=Dn K H D.rt
 bk:=λσm M=>∀σ H',Kp H H'->RS K H' σm σ->RH K M H'->D.bk σ H'
 ct:=λσm M=>∀σ H',Kp H H'->RS K H' σm σ->RH K M H'->D.ct σ H'
theorem liD.on{K:X4}{H H1:Hp}{D:Ends}(k:Kp H H1):(liD K H D).Le (liD K H1 D):=
 ⟨λ_ _ h σ H' k'=>h σ H' (k.trans k'),λ_ _ h=>h.on k,λ_ _ h σ H' k'=>h σ H' (k.trans k'),λ_ _ h σ H' k'=>h σ H' (k.trans k')⟩
def liSt(K:X4)(t:EndM->Sm->MH->Prop):TS:=λD σ H=>∃σm M,RS K H σm σ/\RH K M H/\t (liD K H D) σm M
theorem _i1{e:Expr}{x:Str}{p:Pos}{ln:Nat}{env:Env}(h:A0 e=true):Zv e (some (.Name x p)) ln env=pure false:=by cases e<;>first|rfl|cases h
theorem _i0{e:Expr}{ln:Nat}{env:Env}(h:A0 e=true):Zv e none ln env=pure false:=by cases e<;>first|rfl|cases h
theorem _k9{e:Expr}{es:List Expr}{k:Nat}{p:Pos}{ln:Nat}{env:Env}:Zv e (some (.Tuple es k p)) ln env=pure false:=by cases e<;>rfl
theorem _kb{e a:Expr}{f:Str}{p:Pos}{ln:Nat}{env:Env}:Zv e (some (.Attribute a f p)) ln env=pure false:=by cases e<;>rfl
theorem _ka{e a b:Expr}{p:Pos}{ln:Nat}{env:Env}:Zv e (some (.Subscript a b p)) ln env=pure false:=by cases e<;>rfl
theorem _i2{elt:Expr}{gs:List Comprehension}{scope:Scope}{pos p:Pos}{x:Str}{ln:Nat}{env:Env}:∃b:Bool,Zv (.ListComp elt gs scope pos) (some (.Name x p)) ln env=pure b:=⟨_,rfl⟩
theorem _o4{G:GI}{ie:IE}{sc:Scope}{N:List Str}{e:Expr}(h:chkE G ie sc N e=true):A0 e=true\/∃own fr src tg test elt,ie=.comp own fr src tg test elt:=by
 cases e<;>first
  |exact .inl rfl
  |(cases ie<;>first
    |exact .inr ⟨_,_,_,_,_,_,rfl⟩
    |exact absurd h Xx)
section
variable{G:GI}{sc:Scope}{N:List Str}{st:Stmt}
theorem _kX{e:IE}(h:chkS G sc N (.ret e) st=true):∃x p,st=.Return (some x) p/\chkE G e sc N x=true:=by
 replace h:=Xf h;obtain⟨o,h1,h⟩:=h;obtain⟨p,rfl⟩:=_lh h1;replace h:=Xf h;obtain⟨x,rfl,h⟩:=h;exact⟨x,p,rfl,h⟩
theorem _kW{i:Nat}{e:IE}(h:chkS G sc N (.set i e) st=true):∃x px v p,st=.Assign [.Name x px] v p/\N[i]?=some x/\locB sc x=true/\chkE G e sc N v=true:=by
 replace h:=Xf h;obtain⟨⟨ts,v⟩,h1,h⟩:=h;obtain⟨p,rfl⟩:=CI h1;replace h:=Xf h;obtain⟨t,h2,h⟩:=h;obtain rfl:=_p h2;replace h:=Xf h;obtain⟨x,h3,h⟩:=h;obtain⟨px,rfl⟩:=_3 h3;replace h:=Xd h;obtain⟨h,h6⟩:=h;replace h:=Xd h;obtain⟨h4,h5⟩:=h;exact⟨x,px,v,p,rfl,XJ h4,h5,h6⟩
theorem _l1{t:ITgs}{e:IE}(h:chkS G sc N (.asg t e) st=true):∃es k pt v p,st=.Assign [.Tuple es k pt] v p/\chkTgs sc N N.length true t es=true/\chkE G e sc N v=true/\Kj v=true:=by
 replace h:=Xf h;obtain⟨⟨ts,v⟩,h1,h⟩:=h;obtain⟨p,rfl⟩:=CI h1;replace h:=Xf h;obtain⟨g,h2,h⟩:=h;obtain rfl:=_p h2;replace h:=Xf h;obtain⟨es,h3,h⟩:=h;obtain⟨k,pt,rfl⟩:=Eu h3;replace h:=Xd h;obtain⟨h,h6⟩:=h;replace h:=Xd h;obtain⟨h4,h5⟩:=h;exact⟨es,k,pt,v,p,rfl,h4,h5,h6⟩
theorem _kY{o i e:IE}(h:chkS G sc N (.put o i e) st=true):∃a b pt v p,st=.Assign [.Subscript a b pt] v p/\chkE G o sc N a=true/\chkE G i sc N b=true/\WU b=true/\chkE G e sc N v=true:=by
 replace h:=Xf h;obtain⟨⟨ts,v⟩,h1,h⟩:=h;obtain⟨p,rfl⟩:=CI h1;replace h:=Xf h;obtain⟨g,h2,h⟩:=h;obtain rfl:=_p h2;replace h:=Xf h;obtain⟨⟨a,b⟩,h3,h⟩:=h;obtain⟨pt,rfl⟩:=Ev h3;replace h:=Xd h;obtain⟨h,h7⟩:=h;replace h:=Xd h;obtain⟨h,h6⟩:=h;replace h:=Xd h;obtain⟨h4,h5⟩:=h;exact⟨a,b,pt,v,p,rfl,h4,h5,h6,h7⟩
theorem _j3{c f:Str}{o e:IE}(h:chkS G sc N (.fset c o f e) st=true):∃a pt v p,st=.Assign [.Attribute a f pt] v p/\G.cls.contains (c,f)=true/\chkE G o sc N a=true/\chkE G e sc N v=true:=by
 replace h:=Xf h;obtain⟨⟨ts,v⟩,h1,h⟩:=h;obtain⟨p,rfl⟩:=CI h1;replace h:=Xf h;obtain⟨g,h2,h⟩:=h;obtain rfl:=_p h2;replace h:=Xf h;obtain⟨⟨a,nm,pt⟩,h3,h⟩:=h;obtain rfl:=CD h3;simp only[XX]at h;obtain⟨⟨⟨a1,a2⟩,a3⟩,a4⟩:=h;obtain rfl:=XJ a1;exact⟨a,pt,v,p,rfl,a2,a3,a4⟩
theorem _j4{e:IE}(h:chkS G sc N (.expr e) st=true):∃v p,st=.Expr v p/\chkE G e sc N v=true/\A0 v=true:=by
 replace h:=Xf h;obtain⟨v,h1,h⟩:=h;obtain⟨p,rfl⟩:=_om h1;exact⟨v,p,rfl,Xd h⟩
theorem _kZ{c:IE}{a b:ISs}(h:chkS G sc N (.ite c a b) st=true):∃t x y p,st=.If t x y p/\tok c=true/\chkE G c sc N t=true/\chkSs G sc N a x=true/\chkSs G sc N b y=true:=by
 replace h:=Xf h;obtain⟨⟨t,x,y⟩,h1,h⟩:=h;obtain⟨p,rfl⟩:=_lj h1;replace h:=Xd h;obtain⟨h,h5⟩:=h;replace h:=Xd h;obtain⟨h,h4⟩:=h;replace h:=Xd h;obtain⟨h2,h3⟩:=h;exact⟨t,x,y,p,rfl,h2,h3,h4,h5⟩
theorem _l0{t:ITg}{s:ISr}{b:ISs}(h:chkS G sc N (.for_ t s b) st=true):∃tg it body p,st=.For tg it body [] p/\Ze sc N N.length true t tg=true/\chkSr G s sc N it=true/\WV it=true/\chkSs G sc N b body=true:=by
 replace h:=Xf h;obtain⟨⟨tg,it,body,els⟩,h1,h⟩:=h;obtain⟨p,rfl⟩:=_lk h1;replace h:=Xd h;obtain⟨h,h6⟩:=h;replace h:=Xd h;obtain⟨h,h5⟩:=h;replace h:=Xd h;obtain⟨h,h4⟩:=h;replace h:=Xd h;obtain⟨h2,h3⟩:=h;obtain rfl:=Yn h6;exact⟨tg,it,body,p,rfl,h2,h3,h4,h5⟩
theorem _hw{c:IE}{b:ISs}(h:chkS G sc N (.while_ c b) st=true):∃t body p,st=.While t body [] p/\tok c=true/\chkE G c sc N t=true/\chkSs G sc N b body=true:=by
 replace h:=Xf h;obtain⟨⟨tg,body,els⟩,h1,h⟩:=h;obtain⟨p,rfl⟩:=_oh h1;replace h:=Xd h;obtain⟨h,h5⟩:=h;replace h:=Xd h;obtain⟨h,h4⟩:=h;replace h:=Xd h;obtain⟨h2,h3⟩:=h;obtain rfl:=Yn h5;exact⟨tg,body,p,rfl,h2,h3,h4⟩
theorem _j2{sts:List Stmt}(h:chkSs G sc N .nil sts=true):sts=[]:=by
 exact Yn h
theorem _hv{s:IS}{r:ISs}{sts:List Stmt}(h:chkSs G sc N (.cons s r) sts=true):∃x xs,sts=x::xs/\chkS G sc N s x=true/\chkSs G sc N r xs=true:=by
 replace h:=Xf h;obtain⟨⟨x,xs⟩,h1,h⟩:=h;exact⟨x,xs,Ub h1,Xd h⟩
end
mutual
theorem sS{G:GI}{Φ:List (Str×SpM)}:∀(is:IS) {X:Cx} {st:Stmt},Cok X G Φ->(∀x,X.fn x=true)->chkS G X.env.scope X.N is st=true->PS X st (liSt X.K (wS Φ is))
 |.pass,X,st,c,hf,h=>absurd h Xx
 |.brk,X,st,c,hf,h=>absurd h Xx
 |.cnt,X,st,c,hf,h=>absurd h Xx
 |.never,X,st,c,hf,h=>by
  refine ps_never.weak λD σ H hw=>?_;obtain⟨σm,M,rs,rh,hw⟩:=hw;exact hw
 |.ret e,X,st,c,hf,h=>by
  obtain⟨v,p,rfl,h⟩:=_kX h;refine(Sq (sE e c h).pe).weak λD σ H hw=>?_;obtain⟨σm,M,rs,rh,hw⟩:=hw;exact⟨σm,M,rs,rh,hw⟩
 |.retN,X,st,c,hf,h=>absurd h Xx
 |.set i e,X,st,c,hf,h=>by
   obtain⟨x,px,v,p,rfl,h1,h2,h3⟩:=_kW h;have rd:∀D σ H,liSt X.K (wS Φ (.set i e)) D σ H->liE X.K (wE Φ e) σ H λv H1=>D.nx (σ.set i (some v)) H1:=λD σ H hw=>by
    obtain⟨σm,M,rs,rh,hw⟩:=hw;refine⟨σm,M,rs,rh,X7 c.mon e (λv M1 q=>?_) hw⟩;intro u H1 k1 r1 rh1;exact q _ _ k1 ((rs.mono k1).set r1 i) rh1
   rcases _o4 h3 with hn|⟨own,fr,src,tg,test,elt,rfl⟩
   ·exact(Ih c.nd h1 (CF h2) (sE e c h3).pe (_i1 hn) (.inl (hf _))).weak rd
   ·obtain⟨y,t,it,ifs,scope,p3,rfl,i1,i2,i3,i4,i5,i6,i7⟩:=K8 h3;obtain⟨b,hb⟩:=_i2 (elt:=y) (gs:=[⟨t,it,ifs,0⟩]) (scope:=scope) (pos:=p3) (p:=px) (x:=x) (ln:=p.line) (env:=X.env);cases b with
    |false=>exact(Ih c.nd h1 (CF h2) (sE _ c h3).pe hb (.inl (hf _))).weak rd
    |true=>
     refine(_fw own fr (g:=gOf X.K tg) (te:=liE X.K (wE Φ elt)) (tt:=ttOf X.K Φ test) c.nd h1 (CF h2) (λe s h=>by rw[c.nox]at h;exact h) c.calm i1 (sSr src (tg:=t) c i4)
      (λC fp s₃ H₃=>sTg (X:=cxC X scope own fr C fp s₃ H₃) (lim:=own.length) (all:=false) c.calm i3 (λz=>by cases z) tg i5) (λC fp s₃ H₃=>sI (X:=cxC X scope own fr C fp s₃ H₃) test (c.comp (W4 i1).kind i3) i6)
      (λC fp s₃ H₃=>(sE (X:=cxC X scope own fr C fp s₃ H₃) elt (c.comp (W4 i1).kind i3) i7).pe) hb (EE i2 _) (.inl (hf _))).thaw.weak λD σ H hw=>?_
     exact Ke c.mon i5 (rd D σ H hw)
 |.asg t e,X,st,c,hf,h=>by
   obtain⟨es,k,pt,v,p,rfl,h1,h2,h3⟩:=_l1 h;have hT:Ze X.env.scope X.N X.N.length true (.tup t) (.Tuple es k pt)=true:=h1;refine(Ig (sE e c h2).pe (sTg (lim:=X.N.length) (all:=true) c.calm c.nd (λ_=>hf) (.tup t) hT) (_k9 (e:=v) (es:=es) (k:=k) (p:=pt) (ln:=p.line) (env:=X.env)) (by cases v<;>first|rfl|cases h3) rfl).weak λD σ H hw=>?_
   obtain⟨σm,M,rs,rh,hw⟩:=hw;refine⟨σm,M,rs,rh,X7 c.mon e (λv M1 ⟨xs,e,q⟩=>?_) hw⟩;intro u H1 k1 r1 rh1;refine CH (Ψ:=λ_=>True) (lim:=X.N.length) (λ_ _ _ _ z=>z) (.tup t) hT r1 (rs.mono k1) trivial (P:=λσ'=>(liD X.K H D).nx σ' M1) ⟨xs,e,q⟩ λσm' σ' q' rs' _=>?_;exact q' _ _ k1 rs' rh1
 |.put o i e,X,st,c,hf,h=>by
   obtain⟨a,b,pt,v,p,rfl,h1,h2,h3,h4⟩:=_kY h;have hg:PG X (.Subscript a b pt) (gSub (liE X.K (wE Φ o)) (liE X.K (wE Φ i)) (JW X.K)):=Sy (sE o c h1).pe (sE i c h2).pe (_mu (by have:=c.room;lia)) (by intro v;cases b<;>first|rfl|cases h3)
   refine(Ig (sE e c h4).pe hg (_ka (e:=v) (a:=a) (b:=b) (p:=pt) (ln:=p.line) (env:=X.env)) rfl rfl).weak λD σ H hw=>?_;obtain⟨σm,M,rs,rh,hw⟩:=hw;refine⟨σm,M,rs,rh,X7 c.mon e (λv M1 q1=>?_) hw⟩;intro u H1 k1 r1 rh1;refine⟨σm,M1,rs.mono k1,rh1,X7 c.mon o (λx M2 q2=>?_) q1⟩;intro u2 H2 k2 r2 rh2;refine⟨σm,M2,rs.mono (k1.trans k2),rh2,X7 c.mon i (λy M3 q3=>?_) q2⟩;intro u3 H3 k3 r3 rh3;refine⟨x,y,v,M3,r2.mono k3,r3,r1.mono (k2.trans k3),rh3,JV (λM4 q4=>?_) q3⟩;intro H4 k4 rh4;have kk:=k1.trans (k2.trans (k3.trans k4));exact q4 _ _ kk (rs.mono kk) rh4
 |.fset cn o f e,X,st,c,hf,h=>by
  obtain⟨a,pt,v,p,rfl,h1,h2,h3⟩:=_j3 h;obtain⟨C,hC,cl,na⟩:=c.cls cn f h1;refine(To (sE o c h2).pe (sE e c h3).pe _kb).weak λD σ H hw=>?_;obtain⟨σm,M,rs,rh,hw⟩:=hw;refine⟨σm,M,rs,rh,X7 c.mon e (λv M1 q1=>?_) hw⟩;intro u H1 k1 r1 rh1;refine⟨σm,M1,rs.mono k1,rh1,X7 c.mon o (λx M2 ⟨b,fs,e1,e2,e3,q2⟩=>?_) q1⟩;subst e1;intro u2 H2 k2 r2 rh2;cases r2;obtain⟨C',dx,vs,g1,g2,g3⟩:=rh2.ins e2;rw[hC]at g2;cases g2;have k3:=Kp.upd g1 rfl (.ins C dx (putF f u vs));have kk:=k1.trans (k2.trans k3);refine⟨b,C,dx,vs,rfl,g1,cl,na,by rw[<- g3.length];exact e3,?_⟩
  exact q2 _ _ kk (rs.mono kk) (rh2.put k3 (o:=.ins cn (putM fs f v)) ⟨hC,(Jv (r1.mono k2) g3).mono k3⟩)
 |.expr e,X,st,c,hf,h=>by
  obtain⟨v,p,rfl,h1,h2⟩:=_j4 h;refine(So (sE e c h1).pe (_i0 h2)).weak λD σ H hw=>?_;obtain⟨σm,M,rs,rh,hw⟩:=hw;refine⟨σm,M,rs,rh,X7 c.mon e (λv M1 q=>?_) hw⟩;intro u H1 k1 r1 rh1;exact q _ _ k1 (rs.mono k1) rh1
 |.ite d a b,X,st,c,hf,h=>by
  obtain⟨t,x,y,p,rfl,h1,h2,h3,h4⟩:=_kZ h;refine(Sr ((sE d c h2).pt h1) (sSs a c hf h3) (sSs b c hf h4)).weak λD σ H hw=>?_;obtain⟨σm,M,rs,rh,hw⟩:=hw;rw[Kh]at hw;refine⟨σm,M,rs,rh,X7 c.mon d (λx M1 ⟨k,e,q⟩=>⟨k,e,λH1 k1 rh1=>?_⟩) hw⟩;exact YN (λq=>⟨σm,M1,rs.mono k1,rh1,mon_ss c.mon a (liD.on k1) q⟩) (λq=>⟨σm,M1,rs.mono k1,rh1,mon_ss c.mon b (liD.on k1) q⟩) q
 |.for_ t s b,X,st,c,hf,h=>by
   obtain⟨tg,it,body,p,rfl,h1,h2,h3,h4⟩:=_l0 h;refine(SK (by rw[c.nox];exact PassesOwn.never) c.calm (sSr s (tg:=tg) c h2) (sTg (lim:=X.N.length) (all:=true) c.calm c.nd (λ_=>hf) t h1) (sSs b c hf h4) (EE h3 _)).thaw.weak λD σ H hw=>?_
   obtain⟨σm,M,rs,rh,hw⟩:=hw;refine⟨σm,M,rs,rh,mon_sr c.mon s (λS M1 ⟨J,j0,j1,j2,j3⟩=>?_) hw⟩;intro I H1 k1 rh1 sit;refine⟨λi m σ' H'=>m=S.len - i/\i≤S.len/\Kp H1 H'/\∃σm' M',RS X.K H' σm' σ'/\RH X.K M' H'/\J i σm' M',⟨_,rfl,YK _,Kp.refl _,σm,M1,rs.mono k1,rh1,j0⟩,?_⟩;rintro i m σ2 H2 ⟨rfl,hi,k2,σm2,M2,rs2,rh2,hj⟩;obtain⟨goes,stops⟩:=Kd sit k2 rh2 (j1 i σm2 M2 hj);by_cases hlt:i<S.len
   ·obtain⟨go,yld⟩:=goes i hlt;refine .inr ⟨go,λσ' H'=>Kp H1 H'/\∃σm' M',RS X.K H' σm' σ'/\RH X.K M' H'/\J (i+1) σm' M',λσ' H' ⟨a,z⟩=>⟨S.len - (i+1),by lia,rfl,hlt,a,z⟩,λx H' y=>?_⟩
    obtain⟨e,m,hm,rm⟩:=yld x H' y;subst e;refine CH (Ψ:=λ_=>True) (lim:=X.N.length) (λ_ _ _ _ z=>z) t h1 rm rs2 trivial (j2 i m σm2 M2 hm hj) λσm3 σ3 q rs3 _=>?_;refine⟨σm3,M2,rs3,rh2,?_⟩;refine mon_ss c.mon b ?_ q;refine⟨λσ' M' z σv H3 k3 rs' rh'=>⟨k2.trans k3,σ',M',rs',rh',z⟩,λv M' z u H3 k3 r3 rh'=>?_,λσ' M' z σv H3 k3 rs' rh'=>?_,λσ' M' z σv H3 k3 rs' rh'=>⟨k2.trans k3,σ',M',rs',rh',z⟩⟩
    ·obtain⟨H4,th,k4,rh4⟩:=CG sit rh' z.1;exact⟨H4,th,z.2 u H4 (k1.trans (k2.trans (k3.trans k4))) (r3.mono k4) rh4⟩
    ·obtain⟨H4,th,k4,rh4⟩:=CG sit rh' z.1;exact⟨H4,th,z.2 σv H4 (k1.trans (k2.trans (k3.trans k4))) (rs'.mono k4) rh4⟩
   ·have e:i=S.len:=by lia
    subst e;obtain⟨H4,th,k4,rh4⟩:=CG sit rh2 (Kb (j1 _ σm2 M2 hj));exact .inl ⟨stops _ (Xg _),H4,th,j3 σm2 M2 hj _ _ (k1.trans (k2.trans k4)) (rs2.mono k4) rh4⟩
 |.while_ d b,X,st,c,hf,h=>by
   obtain⟨tst,body,p,rfl,h1,h2,h3⟩:=_hw h;refine(SA (by rw[c.nox];exact PassesOwn.never) ((sE d c h2).pt h1) (sSs b c hf h3)).weak λD σ H hw=>?_
   obtain⟨σm,M,rs,rh,hw⟩:=hw;obtain⟨J,⟨m0,j0⟩,j1⟩:=hw;refine⟨λm σ' H'=>Kp H H'/\∃σm' M',RS X.K H' σm' σ'/\RH X.K M' H'/\J m σm' M',⟨m0,Kp.refl _,σm,M,rs,rh,j0⟩,?_⟩;rintro m σ2 H2 ⟨k2,σm2,M2,rs2,rh2,hj⟩;refine⟨σm2,M2,rs2,rh2,X7 c.mon d (λx M1 ⟨k,e,q⟩=>⟨k,e,λH3 k3 rh3=>?_⟩) (j1 m σm2 M2 hj)⟩;refine YN (λq=>?_) (λq=>q _ _ (k2.trans k3) (rs2.mono k3) rh3) q;refine⟨λσ' H'=>∃m',m'<m/\Kp H H'/\∃σm' M',RS X.K H' σm' σ'/\RH X.K M' H'/\J m' σm' M',λσ' H' z=>z,σm2,M1,rs2.mono k3,rh3,?_⟩;refine mon_ss c.mon b ?_ q;refine⟨?_,λv M' z=>z.on (k2.trans k3),λσ' M' z σv H4 k4=>z σv H4 (k2.trans (k3.trans k4)),?_⟩
   ·rintro σ' M' ⟨m',hm,z⟩ σv H4 k4 rs' rh';exact⟨m',hm,k2.trans (k3.trans k4),σ',M',rs',rh',z⟩
   ·rintro σ' M' ⟨m',hm,z⟩ σv H4 k4 rs' rh';exact⟨m',hm,k2.trans (k3.trans k4),σ',M',rs',rh',z⟩
theorem sSs{G:GI}{Φ:List (Str×SpM)}:∀(is:ISs) {X:Cx} {sts:List Stmt},Cok X G Φ->(∀x,X.fn x=true)->chkSs G X.env.scope X.N is sts=true->PSs X sts (liSt X.K (wSs Φ is))
 |.nil,X,sts,c,hf,h=>by
   cases _j2 h;refine pss_nil.weak λD σ H hw=>?_;obtain⟨σm,M,rs,rh,hw⟩:=hw;exact hw σ H (Kp.refl _) rs rh
 |.cons s r,X,sts,c,hf,h=>by
   obtain⟨x,xs,rfl,h1,h2⟩:=_hv h;refine(Sl (sS s c hf h1) (sSs r c hf h2)).weak λD σ H hw=>?_;obtain⟨σm,M,rs,rh,hw⟩:=hw;refine⟨σm,M,rs,rh,?_⟩;refine Ki c.mon s ?_ hw;refine⟨λσ' M' z σv H1 k1 rs' rh'=>?_,λv M' z=>z,λσ' M' z=>z,λσ' M' z=>z⟩;exact⟨σ',M',rs',rh',mon_ss c.mon r (liD.on k1) z⟩
end
end L2
namespace L2
open PySem PySem.Spec PyProof.Rows
structure Fts (P:Xv) (w:Xm) (K:X4) (mg:Str->Option X0) (base:Heap) (k:Nat) (G:GI) (Φ:List (Str×SpM)):Prop where
 bls:∀x,G.bl.contains x=true->mg x=none
 gls:∀x i,G.gl.lookup x=some i->∃tk,mg x=some (.int i tk)
 fnn:∀(j:Nat) f,G.fns[j]?=some f->∃sp,Φ[j]?=some (f,sp)
 mon:∀(j:Nat) f sp,Φ[j]?=some (f,sp)->MonW sp
 fns:∀(j:Nat) f sp,G.fns[j]?=some f->Φ[j]?=some (f,sp)->∃fa fd ps,FnOk P w K mg base CX0 k fa fd ps (liSp K sp)/\mg f=some (.ref fa)/\XW K (.ref fa)=true/\Binds K fd ps []
 mts:∀(j:Nat) c m,G.mts.contains (j,c,m)=true->∃f sp,Φ[j]?=some (f,sp)/\∃C fa fd ps,FnOk P w K mg base CX0 k fa fd ps (liSp K sp)/\XA K Xo c=some (some (.ref C))/\Cls K C/\Meth K C m fa/\Binds K fd ps []
 mks:∀(j:Nat) c,G.mks.contains (j,c)=true->∃f sp,Φ[j]?=some (f,sp)/\∃k' C fa fd ps,k'+1≤k/\FnOk P w K mg base CX0 k' fa fd ps (liSp K sp)/\XA K Xo c=some (some (.ref C))/\mg c=some (.ref C)/\Mk K C fa/\Binds K fd ps []
 cls:∀c f,G.cls.contains (c,f)=true->∃C,XA K Xo c=some (some (.ref C))/\Cls K C/\NoAttr K C f
def A4(n:Nat)(vs:List MV):Sm:=vs.map some++Xi (n - vs.length) none
theorem _kc{K:X4}(r:RMs K H ms vs):RS K H (A4 N.length ms) (ZH N vs):=by
 unfold A4 ZH;have hl:=r.length;refine⟨by simp[hl],λi m e=>?_⟩
 by_cases hi:i<ms.length
 ·rw[U1 (by simpa using hi),Xq]at e
  cases q:ms[i]? with
  |none=>rw[q]at e;cases e
  |some x=>
   rw[q]at e;have ex:x=m:=Yb (Yb e);subst ex;obtain⟨u,hu,ru⟩:=r.get q;exact⟨u,by rw[U1 (by simpa [<- hl]using hi),Xq,hu];rfl,ru⟩
 ·rw[Zy (by simpa using hi),Hd]at e
  split at e<;>cases e
theorem Fun.okM{K:X4}{st:Stmt}{k:Nat}
  (F:Fun K x qual st f fd) (S:FnScope N ps (X5 st)) (T:Fts P w K mg base k G Φ) (ir:ISs) (hc:chkSs G (X5 st) N ir (Xe st)=true)
  (len:∀vs M Q,sp vs M Q->vs.length=ps.length) (h:∀vs M Q,sp vs M Q->wSs Φ ir {nx:=λ_ M'=>Q .non M',rt:=Q} (A4 N.length vs) M):FnOk P w K mg base CX0 (k+1) f fd ps (liSp K sp):=by
 refine F.ok S (λvs H Q E hs=>?_) λcdv A outer s H vs Q E hr hs=>?_
 ·obtain⟨ms,M,r,rh,q⟩:=hs;rw[<- r.length];exact len _ _ _ q
 obtain⟨ms,M,r,rh,q⟩:=hs;have c:Cok (cxOf CX0 P w K mg base N qual (X5 st) f cdv A outer s H E).nox G Φ:=
  ⟨(by have:=hr.un;show(A.deeper _).units+70<cLine;lia),rfl,rfl,(by show(if(X5 st).kind.isAnnotationScope then HV else(X5 st).kind)=.function;rw[S.kind];rfl),S.nd,T.bls,T.gls,T.fnn,T.mon,
   (λj f sp hg hj=>let⟨fa,fd,ps,F,hm,hk,hb⟩:=T.fns j f sp hg hj;⟨k,fa,fd,ps,hr,F,hm,hk,hb⟩),
   (λj c m h=>let⟨f,sp,hj,C,fa,fd,ps,F,hC,cl,hm,hb⟩:=T.mts j c m h;⟨f,sp,hj,k,C,fa,fd,ps,hr,F,hC,cl,hm,hb⟩),
   (λj c h=>let⟨f,sp,hj,k',C,fa,fd,ps,hk,F,hC,hm,mk1,hb⟩:=T.mks j c h;⟨f,sp,hj,k',C,fa,fd,ps,hr.mono hk,F,hC,hm,mk1,hb⟩),T.cls⟩
 refine⟨_,sSs ir c (λ_=>rfl) hc,A4 N.length ms,M,_kc r,rh,?_⟩;refine mon_ss T.mon ir ?_ (h ms M _ q);exact⟨λσ M' z σv H' k1 rs' rh'=>z _ _ k1 .non rh',λv M' z=>z,λ_ _ z=>z.elim,λ_ _ z=>z.elim⟩
def Kn:SpM:=λvs M Q=>∃ns:List Int,vs=[.frl (ns.map .int)]/\ns.length≤63/\∀M',Q (.bl true) M'
def CJ(K:X4):Sp:=λvs H Q _=>∃(a:Addr) (ns:List Int),vs=[.ref a]/\FrL K H a (ns.map V.int)/\ns.length≤63/\∀H',Q (.bl true) H'
theorem _nw{K:X4}{k:Nat}(F:FnOk P w K mg base CX0 k f fd ps (liSp K Kn)):FnOk P w K mg base CX0 k f fd ps (CJ K):=
 F.imp λvs H Q E ⟨a,ns,e,hs,hl,q⟩=>by
  subst e;refine⟨[.frl (ns.map .int)],λ_=>none,.cons (.frl hs (RMs.ints ns)) .nil,λ_ _ z=>(by cases z),ns,rfl,hl,λM'=>?_⟩
  intro v H' k r rh;cases r;exact q _
theorem _qg{K:X4}(o:Only H)(h:SqL K H a vs):FrL K H a vs:=by
 rcases h with(h|⟨ob,h⟩)|h
 ·rcases o a with z|⟨ob,xs,z⟩
  ·rw[h]at z;cases z
  ·rw[h]at z;cases z
 ·exact .inl ⟨ob,h⟩
 ·exact .inr h
theorem _pS{K:X4}{k:Nat}(hb:∀x∈G.bl,mg x=none)(hg:∀p∈G.gl,∃tk,mg p.1=some (.int p.2 tk))(hf:Φ.map (·.1)=G.fns)
  (hm:∀p∈Φ++Ψ,MonW p.2) (hF:∀p∈Φ,∃fa fd ps,FnOk P w K mg base CX0 k fa fd ps (liSp K p.2)/\mg p.1=some (.ref fa)/\XW K (.ref fa)=true/\Binds K fd ps [])
  (ht:∀q∈G.mts,∃f sp,(Φ++Ψ)[q.1]?=some (f,sp)/\∃C fa fd ps,FnOk P w K mg base CX0 k fa fd ps (liSp K sp)/\XA K Xo q.2.1=some (some (.ref C))/\Cls K C/\Meth K C q.2.2 fa/\Binds K fd ps [])
  (hk:∀q∈G.mks,∃f sp,(Φ++Ψ)[q.1]?=some (f,sp)/\∃k' C fa fd ps,k'+1≤k/\FnOk P w K mg base CX0 k' fa fd ps (liSp K sp)/\XA K Xo q.2=some (some (.ref C))/\mg q.2=some (.ref C)/\Mk K C fa/\Binds K fd ps [])
  (hc:∀q∈G.cls,∃C,XA K Xo q.1=some (some (.ref C))/\Cls K C/\NoAttr K C q.2):Fts P w K mg base k G (Φ++Ψ)where
 bls:=λx h=>hb x (by simpa using h)
 gls:=λx i h=>hg (x,i) (VS h)
 fnn:=λj f h=>by
  rw[<- hf,Xq]at h;cases e:Φ[j]? with
  |none=>rw[e]at h;cases h
  |some p=>rw[e]at h;cases h;exact⟨p.2,by rw[U1 (XO.mp e).1,e]⟩
 mon:=λj f sp h=>hm (f,sp) (Xz h)
 fns:=λj f sp hj h=>by
  rw[<- hf,Xq]at hj;cases e:Φ[j]? with
  |none=>rw[e]at hj;cases hj
  |some p=>
   rw[U1 (XO.mp e).1,e]at h;cases h;exact hF (f,sp) (Xz e)
 mts:=λj c m h=>ht (j,c,m) (by simpa using h)
 mks:=λj c h=>hk (j,c) (by simpa using h)
 cls:=λc f h=>hc (c,f) (by simpa using h)
theorem _N{K:X4}{k:Nat}(e:Φ++Ψ=Χ)(hb:∀x∈G.bl,mg x=none)(hg:∀p∈G.gl,∃tk,mg p.1=some (.int p.2 tk))(hf:Φ.map (·.1)=G.fns)
  (hm:∀p∈Χ,MonW p.2) (hF:∀p∈Φ,∃fa fd ps,FnOk P w K mg base CX0 k fa fd ps (liSp K p.2)/\mg p.1=some (.ref fa)/\XW K (.ref fa)=true/\Binds K fd ps [])
  (ht:∀q∈G.mts,∃f sp,Χ[q.1]?=some (f,sp)/\∃C fa fd ps,FnOk P w K mg base CX0 k fa fd ps (liSp K sp)/\XA K Xo q.2.1=some (some (.ref C))/\Cls K C/\Meth K C q.2.2 fa/\Binds K fd ps [])
  (hk:∀q∈G.mks,∃f sp,Χ[q.1]?=some (f,sp)/\∃k' C fa fd ps,k'+1≤k/\FnOk P w K mg base CX0 k' fa fd ps (liSp K sp)/\XA K Xo q.2=some (some (.ref C))/\mg q.2=some (.ref C)/\Mk K C fa/\Binds K fd ps [])
  (hc:∀q∈G.cls,∃C,XA K Xo q.1=some (some (.ref C))/\Cls K C/\NoAttr K C q.2):Fts P w K mg base k G Χ:=by
 subst e;exact _pS hb hg hf hm hF ht hk hc
structure Fn1 (K:X4) (x:Str) (st:Stmt) (f:Addr) (d:Xh):Prop where
 a:XA K Xo x=some (some (.ref f))
 F:Fun K x x st f d
structure FnT (K:X4) (mg:Str->Option X0) (x:Str) (ps:List Str) (st:Stmt) (f:Addr) (d:Xh):Prop where
 F:Fun K x x st f d
 b:Binds K d ps []
 m:mg x=some (.ref f)
theorem Fn1.t{K:X4}{st:Stmt}(H:Fn1 K x st f d)(X:K.In h)(G:h.Ns Xo mg)
  (b:∀(kV doc pm:X0) (an:Option Addr) (cdv ct:X0) (us:List X0),us.length=ps.length->bindArgs (Y9 x x (Yh st) (Xe st) (X5 st) .none kV doc pm an cdv ct) ⟨us,[]⟩=pure (ps.zip us)):FnT K mg x ps st f d:=⟨H.F,H.F.binds b,Yy X G H.a⟩
theorem Fn1.bt{K:X4}{st:Stmt}(H:Fn1 K x st f d)
  (r:∀(kV doc pm:X0) (an:Option Addr) (cdv ct v:X0),bindArgs (Y9 x x (Yh st) (Xe st) (X5 st) .none kV doc pm an cdv ct) ⟨[v],[]⟩=pure [(y,v)]) (s:X2) (v:X0):BindsTo s d ⟨[v],[]⟩ [(y,v)]:=by
 obtain⟨_,_,kV,doc,pm,an,cdv,ct,_,rfl,_⟩:=H.F.ex;exact .of_eq (r kV doc pm an cdv ct v)
theorem us0{p:List X0->Prop}(h:p [])(us:List X0)(hl:us.length=0):p us:=by cases us with|nil=>exact h|cons _ _=>cases hl
theorem us1{p:List X0->Prop}(h:∀a0,p [a0])(us:List X0)(hl:us.length=1):p us:=by cases us with|nil=>cases hl|cons a r=>exact us0 (p:=λr=>p (a::r)) (h a) r (WG hl)
theorem us2{p:List X0->Prop}(h:∀a0 a1,p [a0,a1])(us:List X0)(hl:us.length=2):p us:=by cases us with|nil=>cases hl|cons a r=>exact us1 (p:=λr=>p (a::r)) (h a) r (WG hl)
theorem us3{p:List X0->Prop}(h:∀a0 a1 a2,p [a0,a1,a2])(us:List X0)(hl:us.length=3):p us:=by cases us with|nil=>cases hl|cons a r=>exact us2 (p:=λr=>p (a::r)) (h a) r (WG hl)
theorem us4{p:List X0->Prop}(h:∀a0 a1 a2 a3,p [a0,a1,a2,a3])(us:List X0)(hl:us.length=4):p us:=by cases us with|nil=>cases hl|cons a r=>exact us3 (p:=λr=>p (a::r)) (h a) r (WG hl)
theorem us5{p:List X0->Prop}(h:∀a0 a1 a2 a3 a4,p [a0,a1,a2,a3,a4])(us:List X0)(hl:us.length=5):p us:=by cases us with|nil=>cases hl|cons a r=>exact us4 (p:=λr=>p (a::r)) (h a) r (WG hl)
section
variable{M:MH}{Q:QM}{i j:Int}{x y:MV}{a b:Addr}
theorem _ry:wBin .Add (.int i) (.int j) M Q=Q (.int (i+j)) M:=rfl
theorem _r2:wBin .Sub (.int i) (.int j) M Q=Q (.int (i - j)) M:=rfl
theorem _rm:wBin .Mult (.int i) (.int j) M Q=(CMul i j/\Q (.int (i*j)) M):=rfl
theorem _pe:wBin .FloorDiv (.int i) (.int j) M Q=(WM i j/\Q (.int (i/j)) M):=rfl
theorem _rn:wBin .Mod (.int i) (.int j) M Q=(0<j/\Q (.int (i%j)) M):=rfl
theorem _re:wBin .Pow (.int i) (.int j) M Q=(CPow i j/\Q (.int (i^j.toNat)) M):=rfl
theorem _r9:wBin .LShift (.int i) (.int j) M Q=(CPow i j/\Q (.int (i*2^j.toNat)) M):=rfl
theorem _rw:wBin .BitAnd (.int i) (.int j) M Q=Q (.int (Cj i j)) M:=rfl
theorem _qQ:wBin .BitXor (.int i) (.int j) M Q=Q (.int (Ck i j)) M:=rfl
theorem _pi{x y:Str}:wBin .Add (.str x) (.str y) M Q=(x.length+y.length≤sizeLine/\Q (.str (x++y)) M):=rfl
theorem _p1{x:Str}:wBin .Mult (.str x) (.int i) M Q=(x.length≤16/\ -1000≤i/\i≤1000/\Q (.str (Txt.mul x i)) M):=rfl
theorem _ph:wBin .Add (.tup xs) (.tup ys) M Q=(xs≠ []/\xs.length+ys.length≤sizeLine/\Q (.tup (xs++ys)) M):=rfl
theorem _p0:wBin .Mult (.tup xs) (.int i) M Q=(xs≠ []/\1≤i/\xs.length*i.toNat≤1000000/\Q (.tup (Xi i.toNat xs).flatten) M):=rfl
theorem _p2:wBin .Mult (.ref a) (.int i) M Q=∃xs,M a=some (.lst xs)/\ -(2^63)≤i/\i<2^63/\xs.length*i.toNat≤sizeLine/\∀p,M p=none->Q (.ref p) (updM M p (.lst (Xi i.toNat xs).flatten)):=rfl
theorem q_lt:wCmp .Lt (.int i) (.int j) M Q=Q (.bl (decide (i<j))) M:=propext ⟨fun⟨_,_,e,f,h⟩=>by cases e;cases f;exact h,λh=>⟨i,j,rfl,rfl,h⟩⟩
theorem q_le:wCmp .LtE (.int i) (.int j) M Q=Q (.bl (decide (i≤j))) M:=propext ⟨λh=>Or.elim h (fun⟨_,_,e,f,h⟩=>by cases e;cases f;exact h) (fun⟨_,_,e,_⟩=>nomatch e),λh=>Or.inl ⟨i,j,rfl,rfl,h⟩⟩
theorem _ro{x y:Str}:wCmp .LtE (.str x) (.str y) M Q=Q (.bl (!decide (y.cps.toList<x.cps.toList))) M:=propext ⟨λh=>Or.elim h (fun⟨_,_,e,_⟩=>nomatch e) (fun⟨_,_,e,f,h⟩=>by cases e;cases f;exact h),λh=>Or.inr ⟨x,y,rfl,rfl,h⟩⟩
theorem q_gt:wCmp .Gt (.int i) (.int j) M Q=Q (.bl (decide (j<i))) M:=propext ⟨fun⟨_,_,e,f,h⟩=>by cases e;cases f;exact h,λh=>⟨i,j,rfl,rfl,h⟩⟩
theorem q_ge:wCmp .GtE (.int i) (.int j) M Q=Q (.bl (decide (j≤i))) M:=propext ⟨fun⟨_,_,e,f,h⟩=>by cases e;cases f;exact h,λh=>⟨i,j,rfl,rfl,h⟩⟩
theorem _ru:wCmp .Eq (.int i) (.int j) M Q=Q (.bl (decide (i=j))) M:=rfl
theorem _rl:wCmp .NotEq (.int i) (.int j) M Q=Q (.bl (!decide (i=j))) M:=rfl
theorem _rt{x y:Str}:wCmp .Eq (.str x) (.str y) M Q=Q (.bl (decide (x=y))) M:=rfl
theorem _rj{x y:Str}:wCmp .NotEq (.str x) (.str y) M Q=Q (.bl (!decide (x=y))) M:=rfl
theorem q_is:wCmp .Is x .non M Q=Q (.bl (UI x)) M:=propext ⟨λh=>Or.elim h (λh=>h.2) (fun⟨_,e,_⟩=>nomatch e),λh=>Or.inl ⟨rfl,h⟩⟩
theorem _mK:wCmp .IsNot x .non M Q=Q (.bl (!UI x)) M:=propext ⟨λh=>Or.elim h (λh=>h.2) (fun⟨_,e,_⟩=>nomatch e),λh=>Or.inl ⟨rfl,h⟩⟩
theorem _rk:wCmp .NotEq (.ref a) y M Q=wEq (.ref a) y M λb=>Q (.bl (!b)) M:=rfl
theorem q_in:wCmp .In x y M Q=wIn x y M λb=>Q (.bl b) M:=rfl
theorem _ri:wCmp .NotIn x y M Q=wIn x y M λb=>Q (.bl (!b)) M:=rfl
theorem EF{k:Bool->Prop}(h:M a=some (.lst xs))(hb:M b=some (.lst []))(q:k xs.isEmpty):wEq (.ref a) (.ref b) M k:=.inr (.inl ⟨a,b,xs,rfl,rfl,h,hb,q⟩)
theorem _l6{k:Bool->Prop}(n:eqS x y=none)(h:Alike M m x y)(le:m≤60)(q:k true):wEq x y M k:=by
 unfold wEq;rw[n];exact .inl ⟨m,le,h,q⟩
theorem Alike.flat(n:Nat)(f:YG x=true):Alike M n x x:=by
 cases n<;>rw[Alike]
 ·exact⟨f,rfl⟩
 ·exact .inl ⟨f,rfl⟩
theorem Alike.lst(h1:LstM M x xs)(h2:LstM M y ys)(e:xs.length=ys.length)(h:∀(i:Nat) u v,xs[i]?=some u->ys[i]?=some v->Alike M n u v):Alike M (n+1) x y:=by
 rw[Alike];exact .inr (.inr (.inl ⟨xs,ys,h1,h2,e,h⟩))
def ixO(o:Option MO)(y:MV)(M:MH)(Q:QM):Prop:=match o with
 |some (.lst xs)=>∃i v,y=.int i/\atI xs i=some v/\Q v M
 |some (.dic kvs)=>∃kk v,keyM y=some kk/\valM kvs kk=some v/\Q v M
 |some (.fdic _ kvs)=>∃kk v,keyM y=some kk/\valM kvs kk=some v/\Q v M
 |_=>False
theorem Ko:wIx (.ref a) y M Q=ixO (M a) y M Q:=propext ⟨λh=>by
  rcases h with⟨xs,i,v,e,r⟩|⟨kvs,kk,v,e,r⟩|⟨o,kvs,kk,v,e,r⟩
  ·rw[e];exact⟨i,v,r⟩
  ·rw[e];exact⟨kk,v,r⟩
  ·rw[e];exact⟨kk,v,r⟩,λh=>by
  cases e:M a with
  |none=>rw[e]at h;exact h.elim
  |some o=>
   rw[e]at h;cases o with
   |lst xs=>obtain⟨i,v,r⟩:=h;exact .inl ⟨xs,i,v,e,r⟩
   |dic kvs=>obtain⟨kk,v,r⟩:=h;exact .inr (.inl ⟨kvs,kk,v,e,r⟩)
   |ins _ _=>exact h.elim
   |fdic o kvs=>obtain⟨kk,v,r⟩:=h;exact .inr (.inr ⟨o,kvs,kk,v,e,r⟩)⟩
theorem Kq:ixO (some (.lst xs)) (.int i) M Q=∃v,atI xs i=some v/\Q v M:=propext ⟨fun⟨_,v,e,h⟩=>by cases e;exact⟨v,h⟩,fun⟨v,h⟩=>⟨i,v,rfl,h⟩⟩
theorem _mI{kvs:List (Key×MV)}{x:Str}:ixO (some (.dic kvs)) (.str x) M Q=∃v,valM kvs (Xs x)=some v/\Q v M:=propext ⟨fun⟨_,v,e,h⟩=>by cases e;exact⟨v,h⟩,fun⟨v,h⟩=>⟨_,v,rfl,h⟩⟩
theorem Kr:wIx (.tup xs) (.int i) M Q=∃v,atI xs i=some v/\Q v M:=propext ⟨fun⟨_,v,e,h⟩=>by cases e;exact⟨v,h⟩,fun⟨v,h⟩=>⟨i,v,rfl,h⟩⟩
theorem _rq:wIx (.frl xs) (.int i) M Q=∃v,atI xs i=some v/\Q v M:=propext ⟨fun⟨_,v,e,h⟩=>by cases e;exact⟨v,h⟩,fun⟨v,h⟩=>⟨i,v,rfl,h⟩⟩
theorem _rp:wIx (.str z) (.int i) M Q=(z.length≤sizeLine/\∃c,atI z.cps.toList i=some c/\Q (.str ⟨#[c]⟩) M):=propext ⟨fun⟨_,c,e,h1,h2⟩=>by cases e;exact⟨h1,c,h2⟩,fun⟨h1,c,h2⟩=>⟨i,c,rfl,h1,h2⟩⟩
def slO(o:Option MO)(lo hi:Option Int)(M:MH)(Q:QM):Prop:=match o with
 |some (.lst xs)=>∀p,M p=none->Q (.ref p) (updM M p (.lst (cutM xs lo hi)))
 |_=>False
theorem _r7{lo:Option Int}:wSl (.ref a) lo hi M Q=slO (M a) lo hi M Q:=propext ⟨fun⟨xs,e,h⟩=>by rw[e];exact h,λh=>by
  cases e:M a with
  |none=>rw[e]at h;exact h.elim
  |some o=>
   rw[e]at h;cases o with
   |lst xs=>exact⟨xs,e,h⟩
   |dic kvs=>exact h.elim
   |ins _ _=>exact h.elim
   |fdic _ _=>exact h.elim⟩
theorem _oW{lo:Option Int}:slO (some (.lst xs)) lo hi M Q=∀p,M p=none->Q (.ref p) (updM M p (.lst (cutM xs lo hi))):=rfl
theorem _r8{lo:Option Int}:wSl (.frl xs) lo hi M Q=∀p,M p=none->Q (.ref p) (updM M p (.lst (cutM xs lo hi))):=rfl
theorem _r6{lo:Option Int}:wSl (.tup xs) lo hi M Q=Q (.tup (cutM xs lo hi)) M:=rfl
theorem _p5:wBi .len [.tup xs] M Q=Q (.int xs.length) M:=rfl
theorem _p8:wBi .len [.frl xs] M Q=Q (.int xs.length) M:=rfl
theorem _p6:wBi .len [.str z] M Q=(z.length≤sizeLine/\Q (.int z.length) M):=rfl
def lenO(o:Option MO)(M:MH)(Q:QM):Prop:=match o with
 |some (.lst xs)=>Q (.int xs.length) M
 |some (.dic kvs)=>Q (.int kvs.length) M
 |_=>False
theorem _p7:wBi .len [.ref a] M Q=lenO (M a) M Q:=propext ⟨λh=>by
  rcases h with⟨xs,e,h⟩|⟨kvs,e,h⟩<;>(rw[e];exact h),λh=>by
  cases e:M a with
  |none=>rw[e]at h;exact h.elim
  |some o=>
   rw[e]at h;cases o with
   |lst xs=>exact .inl ⟨xs,e,h⟩
   |dic kvs=>exact .inr ⟨kvs,e,h⟩
   |ins _ _=>exact h.elim
   |fdic _ _=>exact h.elim⟩
theorem _mH:lenO (some (.lst xs)) M Q=Q (.int xs.length) M:=rfl
def isO(o:Option Ty7)(c:Ty7)(M:MH)(Q:QM):Prop:=match o with
 |some T=>c≠.none/\Q (.bl (isTy T c)) M
 |none=>False
theorem _rr:wBi .isinst [x,.ty c] M Q=isO (tyM M x) c M Q:=propext (by
 have e:wBi .isinst [x,.ty c] M Q=∃T,tyM M x=some T/\c≠.none/\Q (.bl (isTy T c)) M:=by cases x<;>rfl
 rw[e];exact⟨fun⟨T,e,h⟩=>by rw[e];exact h,λh=>by
  cases e:tyM M x with
  |none=>rw[e]at h;exact h.elim
  |some T=>rw[e]at h;exact⟨T,rfl,h⟩⟩)
def isO2(o:Option Ty7)(c d:Ty7)(M:MH)(Q:QM):Prop:=match o with
 |some T=>c≠.none/\d≠.none/\Q (.bl (isTy T c||isTy T d)) M
 |none=>False
theorem _pc:wBi .isinst [x,.tup [.ty c,.ty d]] M Q=isO2 (tyM M x) c d M Q:=propext (by
 have e:wBi .isinst [x,.tup [.ty c,.ty d]] M Q=∃T,tyM M x=some T/\c≠.none/\d≠.none/\Q (.bl (isTy T c||isTy T d)) M:=by cases x<;>rfl
 rw[e];exact⟨fun⟨T,e,h⟩=>by rw[e];exact h,λh=>by
  cases e:tyM M x with
  |none=>rw[e]at h;exact h.elim
  |some T=>rw[e]at h;exact⟨T,rfl,h⟩⟩)
theorem _mJ:isO2 (some T) c d M Q=(c≠.none/\d≠.none/\Q (.bl (isTy T c||isTy T d)) M):=rfl
theorem _pb:isO (some T) c M Q=(c≠.none/\Q (.bl (isTy T c)) M):=rfl
theorem _qU:tyM M (.int i)=some .int:=rfl
theorem _qS{k:Str}:tyM M (.str k)=some .str:=rfl
theorem _qR:tyM M (.tup xs)=some .tuple:=rfl
noncomputable def tyO:Option MO->Option Ty7
 |some (.lst _)=>some .list
 |some (.dic _)=>some .dict
 |_=>none
theorem _qT:tyM M (.ref a)=tyO (M a):=by
 cases e:M a with
 |none=>simp[tyM,tyO,e]
 |some o=>cases o<;>simp[tyM,tyO,e]
theorem _oT:tyO (some (.lst xs))=some .list:=rfl
theorem _rx:wBi .all [.ref a] M Q=∃bs:List Bool,M a=some (.lst (bs.map MV.bl))/\Q (.bl (bs.all id)) M:=rfl
theorem _mM:wBi .dictL [.ref a] M Q=∃ps:List (Key×MV),M a=some (.lst (ps.map prM))/\∀p,M p=none->Q (.ref p) (updM M p (.dic (YM ps))):=rfl
theorem _mF:wBi .list [.tup xs] M Q=∀p,M p=none->Q (.ref p) (updM M p (.lst xs)):=rfl
theorem _mG:wBi .list [.ref a] M Q=∃xs,M a=some (.lst xs)/\∀p,M p=none->Q (.ref p) (updM M p (.lst xs)):=rfl
theorem _oU:wBi .tuple [.ref a] M Q=∃xs,M a=some (.lst xs)/\Q (.tup xs) M:=rfl
theorem _mL:wBi .dict [.tup xs] M Q=∃ps:List (Key×MV),xs=ps.map prM/\∀p,M p=none->Q (.ref p) (updM M p (.dic (YM ps))):=rfl
theorem _pf:wBi .dict [.ref a] M Q=∃kvs,M a=some (.dic kvs)/\∀p,M p=none->Q (.ref p) (updM M p (.dic kvs)):=rfl
def apO(o:Option MO)(a:Addr)(y:MV)(M:MH)(Q:QM):Prop:=match o with
 |some (.lst xs)=>xs.length<sizeLine/\Q .non (updM M a (.lst (xs++[y])))
 |_=>False
theorem _rv:wMts .append (.ref a) [y] M Q=apO (M a) a y M Q:=propext ⟨fun⟨xs,e,h⟩=>by rw[e];exact h,λh=>by
  cases e:M a with
  |none=>rw[e]at h;exact h.elim
  |some o=>
   rw[e]at h;cases o with
   |lst xs=>exact⟨xs,e,h⟩
   |dic kvs=>exact h.elim
   |ins _ _=>exact h.elim
   |fdic _ _=>exact h.elim⟩
theorem _pg:apO (some (.lst xs)) a y M Q=(xs.length<sizeLine/\Q .non (updM M a (.lst (xs++[y])))):=rfl
theorem _rs:wMts .extend (.ref a) [.ref b] M Q=∃xs,M a=some (.lst xs)/\∃ys,M b=some (.lst ys)/\xs.length+ys.length≤sizeLine/\Q .non (updM M a (.lst (xs++ys))):=rfl
theorem _oZ:mtOk .append x M=(∃a xs,x=.ref a/\M a=some (.lst xs)):=rfl
theorem _oY:mtOk .extend x M=(∃a xs,x=.ref a/\M a=some (.lst xs)):=rfl
def puO(o:Option MO)(a:Addr)(i v:MV)(M:MH)(Q:MH->Prop):Prop:=match o with
 |some (.lst xs)=>∃k j,i=.int k/\ixN xs.length k=some j/\Q (updM M a (.lst (xs.set j v)))
 |some (.dic kvs)=>∃kk,keyM i=some kk/\kvs.length<sizeLine/\Q (updM M a (.dic (putM kvs kk v)))
 |_=>False
theorem _rd:wPut (.ref a) x v M R=puO (M a) a x v M R:=propext ⟨λh=>by
  rcases h with⟨xs,k,j,e,r⟩|⟨kvs,kk,e,r⟩
  ·rw[e];exact⟨k,j,r⟩
  ·rw[e];exact⟨kk,r⟩,λh=>by
  cases e:M a with
  |none=>rw[e]at h;exact h.elim
  |some o=>
   rw[e]at h;cases o with
   |lst xs=>obtain⟨k,j,r⟩:=h;exact .inl ⟨xs,k,j,e,r⟩
   |dic kvs=>obtain⟨kk,r⟩:=h;exact .inr ⟨kvs,kk,e,r⟩
   |ins _ _=>exact h.elim
   |fdic _ _=>exact h.elim⟩
theorem _oX:puO (some (.lst xs)) a (.int i) v M R=∃j,ixN xs.length i=some j/\R (updM M a (.lst (xs.set j v))):=propext ⟨fun⟨_,j,e,h⟩=>by cases e;exact⟨j,h⟩,fun⟨j,h⟩=>⟨i,j,rfl,h⟩⟩
theorem _mE:puO (some (.dic kvs)) a (.str z) v M R=(kvs.length<sizeLine/\R (updM M a (.dic (putM kvs (Xs z) v)))):=propext ⟨fun⟨_,e,h⟩=>by cases e;exact h,λh=>⟨_,rfl,h⟩⟩
def srO(o:Option MO)(a:Addr)(M:MH)(Q:Src->MH->Prop):Prop:=match o with
 |some (.lst xs)=>Q (.lst a xs) M
 |some (.dic kvs)=>∀o,Q (.dic a o kvs) (updM M a (.fdic o kvs))
 |_=>False
def srV(v:MV)(M:MH)(Q:Src->MH->Prop):Prop:=(∃xs,(v=.tup xs\/v=.frl xs)/\Q (.tup xs) M)\/(∃a xs,v=.ref a/\M a=some (.lst xs)/\Q (.lst a xs) M)\/(∃a kvs,v=.ref a/\M a=some (.dic kvs)/\∀o,Q (.dic a o kvs) (updM M a (.fdic o kvs)))\/∃z,v=.str z/\Q (.str z) M
theorem _ra:wSr Φ (.seq e) σ M R=wE Φ e σ M λv M1=>srV v M1 R:=rfl
theorem _r5:srV (.ref a) M R=srO (M a) a M R:=propext ⟨λh=>by
  rcases h with⟨xs,e,h⟩|⟨b,xs,e,f,h⟩|⟨b,xs,e,f,h⟩|⟨z,e,_⟩
  ·rcases e with e|e<;>cases e
  ·cases e;rw[f];exact h
  ·cases e;rw[f];exact h
  ·exact(nomatch e),λh=>by
  cases e:M a with
  |none=>rw[e]at h;exact h.elim
  |some o=>
   rw[e]at h;cases o with
   |lst xs=>exact .inr (.inl ⟨a,xs,rfl,e,h⟩)
   |dic kvs=>exact .inr (.inr (.inl ⟨a,kvs,rfl,e,h⟩))
   |ins _ _=>exact h.elim
   |fdic _ _=>exact h.elim⟩
theorem _r4:srV (.str z) M R=R (.str z) M:=propext ⟨λh=>by
  rcases h with⟨xs,e,h⟩|⟨_,_,e,_⟩|⟨_,_,e,_⟩|⟨_,e,h⟩
  ·rcases e with e|e<;>exact(nomatch e)
  ·exact(nomatch e)
  ·exact(nomatch e)
  ·cases e;exact h,λh=>.inr (.inr (.inr ⟨z,rfl,h⟩))⟩
theorem _qX:Src.thaw M (.tup xs)=M:=rfl
theorem _qW:Src.thaw M (.lst a xs)=M:=rfl
theorem _qV:Src.thaw M (.rng i n)=M:=rfl
theorem _rh:Src.okT M (.tup xs)=True:=rfl
theorem _rg:Src.okT M (.lst a xs)=True:=rfl
theorem _rf:Src.okT M (.rng i n)=True:=rfl
theorem _oV:srO (some (.lst xs)) a M R=R (.lst a xs) M:=rfl
theorem _r3:srV (.tup zs) M R=R (.tup zs) M:=propext ⟨λh=>by
  rcases h with⟨xs,e,h⟩|h
  ·rcases e with e|e
   ·cases e;exact h
   ·exact nomatch e
  ·rcases h with⟨_,_,e,_⟩|⟨_,_,e,_⟩|⟨_,e,_⟩<;>exact(nomatch e),λh=>.inl ⟨zs,.inl rfl,h⟩⟩
def rgV(v:MV)(M:MH)(Q:Src->MH->Prop):Prop:=∃j,v=.int j/\ -(2^62)≤j/\j<2^62/\Q (.rng 0 j.toNat) M
theorem _rb:wSr Φ (.rng e) σ M R=wE Φ e σ M λv M1=>rgV v M1 R:=rfl
theorem _rc:rgV (.int i) M R=(-(2^62)≤i/\i<2^62/\R (.rng 0 i.toNat) M):=propext ⟨fun⟨_,e,h⟩=>by cases e;exact h,λh=>⟨i,rfl,h⟩⟩
theorem _p4:wBi .max [.int i,.int j] M Q=Q (.int (if j>i then j else i)) M:=rfl
theorem _p3:wBi .min [.int i,.int j] M Q=Q (.int (if j<i then j else i)) M:=rfl
theorem _pd{k:Bool}:wBi .int [.bl k] M Q=Q (.int (if k then 1 else 0)) M:=rfl
end
theorem v_s{k:MV->Prop}:onV (some (some v)) k=k v:=rfl
theorem b_0{k:Bool->Prop}:onB (.bl b) k=k b:=rfl
theorem f_s{k:SpM->Prop}:onF (some (f,sp)) k=k sp:=rfl
theorem _rT:wE Φ (.var i) σ M Q=onV σ[i]? (λv=>Q v M):=rfl
theorem _s0:wE Φ (.int i) σ M Q=(Q (.int i) M):=rfl
theorem _rV:wE Φ (.str x) σ M Q=(Q (.str x) M):=rfl
theorem e_bl:wE Φ (.bl b) σ M Q=(Q (.bl b) M):=rfl
theorem _rX:wE Φ (.non) σ M Q=(Q .non M):=rfl
theorem _s2:wE Φ (.glb x i) σ M Q=(Q (.int i) M):=rfl
theorem e_ty:wE Φ (.ty c) σ M Q=(Q (.ty c) M):=rfl
theorem _s6:wE Φ (.bin op a b) σ M Q=(wE Φ a σ M λx M1=>wE Φ b σ M1 λy M2=>wBin op x y M2 Q):=rfl
theorem _rY:wE Φ (.neg a) σ M Q=(wE Φ a σ M λx M1=>∃i,x=.int i/\Q (.int (-i)) M1):=rfl
theorem _rW:wE Φ (.not a) σ M Q=(wE Φ a σ M λx M1=>onB x λb=>Q (.bl (!b)) M1):=rfl
theorem _s4:wE Φ (.cmp op a b) σ M Q=(wE Φ a σ M λx M1=>wE Φ b σ M1 λy M2=>wCmp op x y M2 Q):=rfl
theorem _s5:wE Φ (.chn op op' a b c) σ M Q=(wE Φ a σ M λx M1=>wE Φ b σ M1 λy M2=>wCmp op x y M2 λz M3=>onB z λk=>(if k=true then wE Φ c σ M3 λw M4=>wCmp op' y w M4 Q else Q (.bl false) M3)):=rfl
theorem _s7:wE Φ (.and a b) σ M Q=(wE Φ a σ M λx M1=>onB x λc=>(if c=true then wE Φ b σ M1 Q else Q (.bl false) M1)):=rfl
theorem e_or:wE Φ (.or a b) σ M Q=(wE Φ a σ M λx M1=>onB x λc=>(if c=true then Q (.bl true) M1 else wE Φ b σ M1 Q)):=rfl
theorem _s1:wE Φ (.ife c a b) σ M Q=(wE Φ c σ M λx M1=>onB x λk=>(if k=true then wE Φ a σ M1 Q else wE Φ b σ M1 Q)):=rfl
theorem _rU:wE Φ (.tup es) σ M Q=(wEs Φ es σ M λvs M1=>vs.length≤sizeLine/\Q (.tup vs) M1):=rfl
theorem _rZ:wE Φ (.lst es) σ M Q=(wEs Φ es σ M λvs M1=>vs.length≤sizeLine/\∀p,M1 p=none->Q (.ref p) (updM M1 p (.lst vs))):=rfl
theorem e_ix:wE Φ (.ix a b) σ M Q=(wE Φ a σ M λx M1=>wE Φ b σ M1 λy M2=>wIx x y M2 Q):=rfl
theorem e_sl{lo:IO}:wE Φ (.sl a lo hi) σ M Q=(wE Φ a σ M λx M1=>wO Φ lo σ M1 λl M2=>wO Φ hi σ M2 λh M3=>wSl x l h M3 Q):=rfl
theorem _qj:wE Φ (.call j e es) σ M Q=(wE Φ e σ M λv M1=>wEs Φ es σ M1 λvs M2=>onF Φ[j]? λsp=>sp (v::vs) M2 Q):=rfl
theorem e_b2:wE Φ (.b2 f e) σ M Q=(wE Φ e σ M λv M1=>wB2 f v M1 Q):=rfl
theorem e_bi:wE Φ (.bi f e es) σ M Q=(wE Φ e σ M λv M1=>wEs Φ es σ M1 λvs M2=>wBi f (v::vs) M2 Q):=rfl
theorem e_mt:wE Φ (.mt m o es) σ M Q=(wE Φ o σ M λx M1=>mtOk m x M1/\wEs Φ es σ M1 λvs M2=>wMts m x vs M2 Q):=rfl
theorem _s3:wE Φ (.fld c o f) σ M Q=(wE Φ o σ M λx M1=>∃a fs v,x=.ref a/\M1 a=some (.ins c fs)/\valM fs f=some v/\Q v M1):=rfl
theorem _o1:wE Φ (.mcall j c m o es) σ M Q=(wE Φ o σ M λx M1=>∃a fs,x=.ref a/\M1 a=some (.ins c fs)/\valM fs m=none/\wEs Φ es σ M1 λvs M2=>∃f sp,Φ[j]?=some (f,sp)/\sp (.ref a::vs) M2 Q):=rfl
theorem _qi:wE Φ (.make j c e es) σ M Q=(wE Φ e σ M λv M1=>wEs Φ es σ M1 λvs M2=>∃f sp,Φ[j]?=some (f,sp)/\∀p,M2 p=none->sp (.ref p::v::vs) (updM M2 p (.ins c [])) λu M3=>u=.non/\Q (.ref p) M3):=rfl
theorem A5{own:List Str}{fr:List Nat}:wE Φ (.comp own fr src tg test elt) σ M Q=(wSr Φ src σ M λS M1=>S.len<sizeLine/\∀D,M1 D=none->∃J:Nat->List MV->MH->Prop,J 0 [] (updM M1 D (.lst []))/\
   (∀i ys M2,J i ys M2->M2 D=some (.lst ys)/\ys.length≤i/\S.ok M2)/\
   (∀i x ys M2,S.items[i]?=some x->J i ys M2->wTg tg x (sCm own fr σ) λσ2=>wI Φ test σ2 M2 λb M4=>
    if b=true then wE Φ elt σ2 M4 λy M5=>M5 D=some (.lst ys)/\J (i+1) (ys++[y]) (updM M5 D (.lst (ys++[y])))else J (i+1) ys M4)/\
   ∀ys M2,J S.len ys M2->Q (.ref D) (S.thaw M2)):=rfl
theorem A6{M M':MH}{S:Src}(h:S.okF M):S.thaw M'=M':=by
 cases S<;>first|rfl|exact h.elim
theorem _O{own:List Str}{fr:List Nat}{α:Type}(xs:List α)(f g:α->MV)
  (hs:wSr Φ src σ M λS M1=>S.items=xs.map f/\xs.length<sizeLine/\S.okF M1/\M1=M)
  (ht:∀x∈xs,∀M',(∀a o,M a=some o->M' a=some o)->wTg tg (f x) (sCm own fr σ) λσ2=>wE Φ elt σ2 M' λy M2=>y=g x/\M2=M')
  (hΦ:∀(j:Nat) f sp,Φ[j]?=some (f,sp)->MonW sp) (q:∀D,M D=none->Q (.ref D) (updM M D (.lst (xs.map g)))):wE Φ (.comp own fr src tg .none elt) σ M Q:=by
 rw[A5];refine mon_sr hΦ src (λS M1 ⟨h1,h2,h3,h4⟩=>?_) hs;subst h4;have hl:S.len=xs.length:=by rw[<- S.items_len,h1,Xa]
 refine⟨by rw[hl];exact h2,λD hD=>⟨λi ys M2=>M2=updM M1 D (.lst ys)/\ys=(xs.take i).map g,⟨rfl,by simp⟩,?_,?_,?_⟩⟩
 ·rintro i ys M2 ⟨rfl,rfl⟩;refine⟨X9,by rw[Xa,YI];lia,?_⟩
  cases S with
  |tup _=>trivial
  |rng _ _=>trivial
  |rst _ _ _=>trivial
  |dic _ _ _=>exact h3.elim
  |str _=>trivial
  |lst a zs=>
   have:a≠D:=by intro e;subst e;have h3:M1 a=some (.lst zs):=h3;rw[h3]at hD;cases hD
   show updM M1 D _ a=_;rw[Xb this];exact h3
 ·rintro i x ys M2 hx ⟨rfl,rfl⟩;rw[h1]at hx;have hi:i<xs.length:=by have:=(XO.mp hx).1;rw[Xa]at this;exact this
  rw[Xq,Xc hi]at hx;cases hx;refine UJ tg (λσ2 h=>?_) (ht xs[i] (XV hi) (updM M1 D (.lst ((xs.take i).map g))) (λa o e=>by
   rw[Xb (by intro z;subst z;rw[e]at hD;cases hD)];exact e))
  rw[wI,if_pos rfl];refine X7 hΦ elt (λy M2 ⟨e1,e2⟩=>?_) h;subst e1 e2;refine⟨X9,YF,?_⟩;rw[U2,Xc hi,Y1]
  rfl
 ·rintro ys M2 ⟨rfl,rfl⟩;rw[hl,Vw (Xg _),A6 h3];exact q D hD
theorem _jt{own:List Str}{fr:List Nat}{α:Type}(xs:List α)(f g:α->MV)
  (hs:wSr Φ src σ M λS M1=>S.items=xs.map f/\xs.length<sizeLine/\S.okF M1/\∀a o,M a=some o->M1 a=some o)
  (ht:∀x∈xs,∀M',(∀a o,M a=some o->M' a=some o)->wTg tg (f x) (sCm own fr σ) λσ2=>wE Φ elt σ2 M' λy M2=>y=g x/\∀a o,M' a=some o->M2 a=some o)
  (hΦ:∀(j:Nat) f sp,Φ[j]?=some (f,sp)->MonW sp) (q:∀D M',M D=none->(∀a o,M a=some o->M' a=some o)->M' D=some (.lst (xs.map g))->Q (.ref D) M'):wE Φ (.comp own fr src tg .none elt) σ M Q:=by
 rw[A5];refine mon_sr hΦ src (λS M1 ⟨h1,h2,h3,h4⟩=>?_) hs;have hl:S.len=xs.length:=by rw[<- S.items_len,h1,Xa]
 have fre:∀D,M1 D=none->M D=none:=λD hD=>by
  cases e:M D with
  |none=>rfl
  |some o=>rw[h4 _ _ e]at hD;cases hD
 have ne:∀{a D:Addr} {o:MO},M1 a=some o->M1 D=none->a≠D:=λh h' z=>by subst z;rw[h]at h';cases h'
 refine⟨by rw[hl];exact h2,λD hD=>⟨λi ys M2=>(∀a o,M1 a=some o->M2 a=some o)/\M2 D=some (.lst ys)/\ys=(xs.take i).map g,⟨λa o e=>by rw[Xb (ne e hD)];exact e,X9,by simp⟩,?_,?_,?_⟩⟩
 ·rintro i ys M2 ⟨s2,d2,rfl⟩;refine⟨d2,by rw[Xa,YI];lia,?_⟩
  cases S with
  |tup _=>trivial
  |rng _ _=>trivial
  |rst _ _ _=>trivial
  |dic _ _ _=>exact h3.elim
  |str _=>trivial
  |lst a zs=>exact s2 _ _ h3
 ·rintro i x ys M2 hx ⟨s2,d2,rfl⟩;rw[h1]at hx;have hi:i<xs.length:=by have:=(XO.mp hx).1;rw[Xa]at this;exact this
  rw[Xq,Xc hi]at hx;cases hx;refine UJ tg (λσ2 h=>?_) (ht xs[i] (XV hi) M2 (λa o e=>s2 _ _ (h4 _ _ e)));rw[wI,if_pos rfl];refine X7 hΦ elt (λy M3 ⟨e1,e2⟩=>?_) h;subst e1;refine⟨e2 _ _ d2,λa o e=>by rw[Xb (ne e hD)];exact e2 _ _ (s2 _ _ e),X9,?_⟩
  rw[U2,Xc hi,Y1]
  rfl
 ·rintro ys M2 ⟨s2,d2,rfl⟩;rw[hl,Vw (Xg _)]at d2;rw[A6 h3];exact q D M2 (fre D hD) (λa o e=>s2 _ _ (h4 _ _ e)) d2
theorem _r1:wTg (.nm i) v σ R=R (σ.set i (some v)):=rfl
theorem _qY:wTg (.tup ts) (.tup xs) σ R=wTgs ts xs σ R:=by
 exact propext ⟨fun⟨_,e,h⟩=>by cases e;exact h,λh=>⟨_,rfl,h⟩⟩
theorem _r0{t:ITg}:wTgs (.cons t ts) (v::r) σ R=wTg t v σ λσ'=>wTgs ts r σ' R:=by
 exact propext ⟨fun⟨_,_,e,h⟩=>by cases e;exact h,λh=>⟨_,_,rfl,h⟩⟩
theorem _qZ:wTgs .nil [] σ R=R σ:=propext ⟨λh=>h.2,λh=>⟨rfl,h⟩⟩
section
variable{M:MH}
theorem Alike.lstFlat(n:Nat)(h1:LstM M x xs)(h2:LstM M y xs)(f:∀v∈xs,YG v=true):Alike M (n+1) x y:=
 .lst h1 h2 rfl λi u v e e'=>by
  rw[e]at e';cases e';exact .flat n (f u (Xz e))
end
section
variable{Φ:List (Str×SpM)}{D:EndM}{σ:Sm}{M:MH}
theorem _qJ:wSs Φ .nil D σ M=D.nx σ M:=rfl
theorem _oN:wSs Φ (.cons s r) D σ M=wS Φ s {nx:=λσ M=>wSs Φ r D σ M,rt:=D.rt,bk:=D.bk,ct:=D.ct} σ M:=rfl
theorem _qH:wS Φ (.ret e) D σ M=wE Φ e σ M D.rt:=rfl
theorem _qG:wS Φ (.set i e) D σ M=wE Φ e σ M λv M1=>D.nx (σ.set i (some v)) M1:=rfl
theorem _qM{t:ITgs}:wS Φ (.asg t e) D σ M=wE Φ e σ M λv M1=>∃xs,v=.tup xs/\wTgs t xs σ λσ'=>D.nx σ' M1:=rfl
theorem _qI:wS Φ (.put o i e) D σ M=wE Φ e σ M λv M1=>wE Φ o σ M1 λx M2=>wE Φ i σ M2 λy M3=>wPut x y v M3 λM4=>D.nx σ M4:=rfl
theorem _oL:wS Φ (.fset c o f e) D σ M=wE Φ e σ M λv M1=>wE Φ o σ M1 λx M2=>∃a fs,x=.ref a/\M2 a=some (.ins c fs)/\fs.length<1000/\D.nx σ (updM M2 a (.ins c (putM fs f v))):=rfl
theorem _oM:wS Φ (.expr e) D σ M=wE Φ e σ M λ_ M1=>D.nx σ M1:=rfl
theorem _qK:wS Φ (.ite c a b) D σ M=wE Φ c σ M λx M1=>onB x λk=>(if k=true then wSs Φ a D σ M1 else wSs Φ b D σ M1):=rfl
theorem _qL{t:ITg}:wS Φ (.for_ t s b) D σ M=wSr Φ s σ M λS M1=>∃J:Nat->Sm->MH->Prop,J 0 σ M1/\(∀i σ M,J i σ M->S.ok M)/\
   (∀i x σ M,S.items[i]?=some x->J i σ M->wTg t x σ λσ2=>wSs Φ b {nx:=J (i+1),rt:=λv M=>S.okT M/\D.rt v (S.thaw M),bk:=λσ M=>S.okT M/\D.nx σ (S.thaw M),ct:=J (i+1)} σ2 M)/\∀σ M,J S.len σ M->D.nx σ (S.thaw M):=rfl
theorem _mA:wS Φ (.while_ c b) D σ M=∃J:Nat->Sm->MH->Prop,(∃m,J m σ M)/\∀m σ M,J m σ M->wE Φ c σ M λx M1=>∃k,x=.bl k/\
   (if k=true then wSs Φ b {nx:=λσ' M'=>∃m',m'<m/\J m' σ' M',rt:=D.rt,bk:=D.nx,ct:=λσ' M'=>∃m',m'<m/\J m' σ' M'} σ M1 else D.nx σ M1):=rfl
theorem _pM:wO Φ .none σ M Q=Q none M:=rfl
theorem _pL:wO Φ (.some e) σ M Q=wE Φ e σ M λv M1=>∃i,v=.int i/\Q (some i) M1:=rfl
theorem _qh:wEs Φ .nil σ M Q=Q [] M:=rfl
theorem _o0:wEs Φ (.cons e es) σ M Q=wE Φ e σ M λv M1=>wEs Φ es σ M1 λvs M2=>Q (v::vs) M2:=rfl
end
section
variable{Φ:List (Str×SpM)}{σ σ':Sm}{M M':MH}{Q:QM}{x x' y y' z z':MV}{o o':Option MO}{vs vs':List MV}
end
end L2
namespace My
open PySem L2
noncomputable def top(i:Nat):Stmt:=PySem.Challenge.pw_bellferry_k54_whole_what_is_given_is_tak.main.body.getD i (.Pass ⟨0,0,0,0⟩)
abbrev A7:Stmt:=top 13
abbrev A8:Stmt:=top 14
abbrev A9:Stmt:=top 15
abbrev Aa:Stmt:=top 16
abbrev Ac:Stmt:=top 17
abbrev Ad:Stmt:=top 18
abbrev Ae:Stmt:=top 20
abbrev Af:Stmt:=top 21
abbrev Ag:Stmt:=top 23
abbrev Ah:Stmt:=top 24
abbrev Ai:Stmt:=top 25
abbrev Aj:Stmt:=top 26
abbrev Ak:Stmt:=top 27
abbrev Al:Stmt:=top 28
abbrev Ud:Stmt:=YY (top 30) 0
abbrev Ue:Stmt:=YY (top 30) 1
abbrev Uf:Stmt:=YY (top 30) 2
abbrev Ug:Stmt:=YY (top 30) 3
abbrev Uh:Stmt:=YY (top 30) 4
abbrev Ui:Stmt:=YY (top 31) 0
abbrev Uj:Stmt:=YY (top 31) 1
abbrev Uk:Stmt:=YY (top 31) 2
abbrev Am:Stmt:=top 33
abbrev An:Stmt:=top 34
abbrev Ao:Stmt:=top 35
abbrev Ap:Stmt:=top 36
abbrev Aq:Stmt:=top 37
abbrev Ar:Stmt:=top 38
abbrev As:Stmt:=top 40
abbrev At:Stmt:=top 41
abbrev Au:Stmt:=top 42
abbrev Av:Stmt:=top 43
abbrev Aw:Stmt:=top 54
abbrev Ax:Stmt:=top 55
abbrev Ay:Stmt:=top 56
abbrev Az:Stmt:=top 57
abbrev AA:Stmt:=top 58
abbrev AB:Stmt:=top 59
abbrev AC:Stmt:=top 60
abbrev AD:Stmt:=top 61
abbrev AE:Stmt:=top 62
abbrev AF:Stmt:=top 63
abbrev AG:Stmt:=top 64
abbrev AH:Stmt:=top 65
abbrev AI:Stmt:=top 66
abbrev AJ:Stmt:=top 67
abbrev AK:Stmt:=top 68
abbrev AL:Stmt:=top 69
abbrev AM:Stmt:=top 72
abbrev AN:Stmt:=top 73
abbrev AO:Stmt:=top 74
abbrev Ul:Stmt:=YY (top 75) 0
abbrev Um:Stmt:=YY (top 75) 1
abbrev Uo:Stmt:=YY (top 75) 2
abbrev Up:Stmt:=YY (top 75) 3
abbrev Uq:Stmt:=YY (top 75) 7
abbrev Ur:Stmt:=YY (top 75) 8
abbrev AQ:Stmt:=top 77
abbrev AR:Stmt:=top 78
abbrev AS:Stmt:=top 79
abbrev AT:Stmt:=top 80
abbrev AU:Stmt:=top 81
abbrev AV:Stmt:=top 82
abbrev AW:Stmt:=top 83
abbrev AX:Stmt:=top 84
abbrev AY:Stmt:=top 85
set_option genInjectivity false in
set_option genSizeOf false in
structure Adr where
 gN:Addr
 dk:Xh
 ic:Addr
 dh:Xh
 cP:Addr
 dO:Xh
 gS:Addr
 gA:Xh
 cW:Addr
 fW:Xh
 gH:Addr
 cE:Xh
 cR:Addr
 gq:Xh
 dq:Addr
 cv:Xh
 eL:Addr
 cX:Xh
 gX:Addr
 eU:Xh
 eW:Addr
 ff:Xh
 eJ:Addr
 fi:Xh
 fR:Addr
 fS:Xh
 fY:Addr
 cC:Xh
 aP:Addr
 bA:Xh
 bw:Addr
 bF:Xh
 bW:Addr
 ck:Xh
 bf:Addr
 bI:Xh
 bB:Addr
 bv:Xh
 aT:Addr
 cf:Xh
 bN:Addr
 cj:Xh
 ca:Addr
 bH:Xh
 cY:Addr
 dM:Xh
 fA:Addr
 fN:Xh
 eR:Addr
 cT:Xh
 du:Addr
 dI:Xh
 cy:Addr
 gM:Xh
 dB:Addr
 cV:Xh
 eh:Addr
 cZ:Xh
 e9:Addr
 cw:Xh
 gI:Addr
 dg:Xh
 cK:Addr
 dF:Xh
 gE:Addr
 dJ:Xh
 hV:Addr
 cF:Xh
 b9:Addr
 aZ:Xh
 cQ:Addr
 eS:Xh
 di:Addr
 gR:Xh
 fO:Addr
 ee:Xh
 fP:Addr
 dQ:Xh
 cm:Addr
 hG:Xh
 ga:Addr
 gz:Xh
 cJ:Addr
 eu:Xh
 fw:Addr
 d0:Xh
 cr:Addr
 fU:Xh
 cD:Addr
 fJ:Xh
 fF:Addr
 fZ:Xh
 dt:Addr
 gP:Xh
 gB:Addr
 cA:Xh
 gF:Addr
 ib:Xh
 ia:Addr
 ef:Xh
 cu:Addr
 dc:Xh
 aV:Addr
 bJ:Xh
 bT:Addr
 bR:Xh
 bu:Addr
 bD:Xh
 bm:Addr
 bp:Xh
 b8:Addr
 bo:Xh
 bV:Addr
 bg:Xh
 cN:Addr
 eX:Xh
 eK:Addr
 eQ:Xh
 dC:Addr
 eZ:Xh
 hZ:Addr
 dR:Xh
 fz:Addr
 gO:Xh
 dD:Addr
 dG:Xh
 gQ:Addr
 i9:Xh
 dj:Addr
 fM:Xh
 fI:Addr
 dy:Xh
 aj:Addr
 ao:Addr
 aa:Addr
structure Txt (K:X4) (mg:Str->Option X0) (t:Adr):Prop where
 aQ:FnT K mg "is_whole" ["value"] A7 t.gN t.dk
 aH:FnT K mg "is_width" ["number"] A8 t.ic t.dh
 aC:FnT K mg "two_to" ["exponent"] A9 t.cP t.dO
 bZ:FnT K mg "fits" ["width","number"] Aa t.gS t.gA
 aA:FnT K mg "cut" ["width","number"] Ac t.cW t.fW
 bO:FnT K mg "amid" ["old","new","choice"] Ad t.gH t.cE
 aR:FnT K mg "code_of" ["n"] Ae t.cR t.gq
 ci:FnT K mg "number_of" ["word"] Af t.dq t.cv
 aO:FnT K mg "first_sign" ["word"] Ag t.eL t.cX
 aU:FnT K mg "shown" ["sign","word","moment"] Ah t.gX t.eU
 bC:FnT K mg "first_sight" ["word","stages"] Ai t.eW t.ff
 aW:FnT K mg "sampled" ["sign","since","choice"] Aj t.eJ t.fi
 cc:FnT K mg "moved" ["sight","word"] Ak t.fR t.fS
 be:FnT K mg "used" ["sight"] Al t.fY t.cC
 gJ:Fun K "__init__" "Side.__init__" Ud t.aP t.bA
 dr:Binds K t.bA ["self","turn","stages"] []
 il:Meth K t.aj "__init__" t.aP
 gL:Fun K "ring_ahead" "Side.ring_ahead" Ue t.bw t.bF
 bh:Binds K t.bF ["self"] []
 bc:Meth K t.aj "ring_ahead" t.bw
 cL:Fun K "less_the_seen" "Side.less_the_seen" Uf t.bW t.ck
 ce:Binds K t.ck ["self"] []
 br:Meth K t.aj "less_the_seen" t.bW
 i0:Fun K "grow" "Side.grow" Ug t.bf t.bI
 aY:Binds K t.bI ["self"] []
 c8:Meth K t.aj "grow" t.bf
 cG:Fun K "show_and_see" "Side.show_and_see" Uh t.bB t.bv
 bY:Binds K t.bv ["self","moment","choice","other_sign"] []
 bX:Meth K t.aj "show_and_see" t.bB
 fc:Fun K "__init__" "Ferry.__init__" Ui t.aT t.cf
 fu:Binds K t.cf ["self","k","stages"] []
 iq:Meth K t.ao "__init__" t.aT
 dA:Fun K "ring_giver" "Ferry.ring_giver" Uj t.bN t.cj
 dH:Binds K t.cj ["self","moment","choice","word"] []
 eY:Meth K t.ao "ring_giver" t.bN
 de:Fun K "ring_taker" "Ferry.ring_taker" Uk t.ca t.bH
 eO:Binds K t.bH ["self","moment","choice","wished"] []
 gY:Meth K t.ao "ring_taker" t.ca
 aw:FnT K mg "parts_within" ["T"] Am t.cY t.dM
 aq:FnT K mg "size_of" ["T"] An t.fA t.fN
 ax:FnT K mg "names_read" ["T"] Ao t.eR t.cT
 aK:FnT K mg "vars_in" ["T"] Ap t.du t.dI
 aJ:FnT K mg "worth_of_two" ["form","left","right","width"] Aq t.cy t.gM
 ae:FnT K mg "worth" ["T","width","words"] Ar t.dB t.cV
 bL:FnT K mg "wish" ["width","steps","number","words"] As t.eh t.cZ
 aE:FnT K mg "number_after" ["width","steps","number","words"] At t.e9 t.cw
 aG:FnT K mg "words_after" ["width","step","words","word"] Au t.gI t.dg
 bU:FnT K mg "after" ["width","steps","number","words","word"] Av t.cK t.dF
 bM:FnT K mg "is_name" ["text"] Aw t.gE t.dJ
 aI:FnT K mg "refuse_name" ["text","earlier"] Ax t.hV t.cF
 am:FnT K mg "refuse_unknown" ["name","known"] Ay t.b9 t.aZ
 aL:FnT K mg "refuse_ferry_names" ["ferries"] Az t.cQ t.eS
 bz:FnT K mg "refuse_variables" ["width","pairs"] AA t.di t.gR
 bj:FnT K mg "refuse_term" ["T","known"] AB t.fO t.ee
 b0:FnT K mg "refuse_step" ["step","known","count","ferry_names"] AC t.fP t.dQ
 c7:FnT K mg "refuse_island" ["width","island","ferry_names"] AD t.cm t.hG
 aF:FnT K mg "refuse_islands" ["width","islands","ferry_names"] AE t.ga t.gz
 aM:FnT K mg "refuse_ferry" ["ferry","island_names"] AF t.cJ t.eu
 b7:FnT K mg "refuse_wrong_end" ["name","step","givers","takers"] AG t.fw t.d0
 aN:FnT K mg "refuse_wrong_ends" ["islands","ferries"] AH t.cr t.fU
 ak:FnT K mg "frozen" ["value"] AI t.cD t.fJ
 c9:FnT K mg "made" ["width","islands","ferries"] AJ t.fF t.fZ
 bS:FnT K mg "one_called" ["row","name"] AK t.dt t.gP
 bG:FnT K mg "island_of" ["world","name"] AL t.gB t.cA
 bn:FnT K mg "what_alone" ["asked"] AM t.gF t.ib
 bP:FnT K mg "is_wish_of" ["asked","ferry_name"] AN t.ia t.ef
 aS:FnT K mg "looked_up" ["named","name"] AO t.cu t.dc
 dX:Fun K "__init__" "Run.__init__" Ul t.aV t.bJ
 gU:Binds K t.bJ ["self","world"] []
 ip:Meth K t.aa "__init__" t.aV
 gG:Fun K "ring" "Run.ring" Um t.bT t.bR
 eE:Binds K t.bR ["self","name","choice"] []
 cM:Meth K t.aa "ring" t.bT
 gg:Fun K "ring_ferry" "Run.ring_ferry" Uo t.bu t.bD
 eB:Binds K t.bD ["self","ferry","name","choice","asked"] []
 fX:Meth K t.aa "ring_ferry" t.bu
 cO:Fun K "go_on" "Run.go_on" Up t.bm t.bp
 eG:Binds K t.bp ["self","name","steps","word"] []
 dU:Meth K t.aa "go_on" t.bm
 i8:Fun K "given" "Run.given" Uq t.b8 t.bo
 gK:Binds K t.bo ["self","name"] []
 cx:Meth K t.aa "given" t.b8
 fH:Fun K "taken" "Run.taken" Ur t.bV t.bg
 dW:Binds K t.bg ["self","name"] []
 dE:Meth K t.aa "taken" t.bV
 bq:FnT K mg "_law_cell_at" ["script","k"] AQ t.cN t.eX
 bK:FnT K mg "_law_whole" ["found"] AR t.eK t.eQ
 aX:FnT K mg "_law_name" ["number","k"] AS t.dC t.eZ
 bd:FnT K mg "_law_term" ["number","names"] AT t.hZ t.dR
 bb:FnT K mg "_law_step" ["number","name","names","ferries","many"] AU t.fz t.gO
 bQ:FnT K mg "_law_island" ["number","k","naming","ferries","around"] AV t.dD t.dG
 bE:FnT K mg "_law_things" ["script","around"] AW t.gQ t.i9
 cb:FnT K mg "_law_rings" ["cells","islands"] AX t.dj t.fM
 ei:FnT K mg "law" ["script"] AY t.fI t.dy
 ag:XA K Xo "Side"=some (some (.ref t.aj))
 dl:mg "Side"=some (.ref t.aj)
 ai:Cls K t.aj
 fK:Mk K t.aj t.aP
 fL:NoAttr K t.aj "turn"
 gh:NoAttr K t.aj "total"
 ii:NoAttr K t.aj "sign"
 dZ:NoAttr K t.aj "sight"
 ay:XA K Xo "Ferry"=some (some (.ref t.ao))
 ik:mg "Ferry"=some (.ref t.ao)
 aB:Cls K t.ao
 cq:Mk K t.ao t.aT
 fQ:NoAttr K t.ao "places"
 gT:NoAttr K t.ao "giver"
 ft:NoAttr K t.ao "taker"
 ab:XA K Xo "Run"=some (some (.ref t.aa))
 gc:mg "Run"=some (.ref t.aa)
 ac:Cls K t.aa
 cS:Mk K t.aa t.aV
 fv:NoAttr K t.aa "world"
 fj:NoAttr K t.aa "moment"
 gZ:NoAttr K t.aa "next_numbers"
 cH:NoAttr K t.aa "words_now"
 fV:NoAttr K t.aa "steps_so_far"
 dY:NoAttr K t.aa "boats"
 fh:NoAttr K t.aa "given_so_far"
 fD:NoAttr K t.aa "taken_so_far"
 dz:mg "all"=none
 fk:mg "bool"=none
 dw:mg "dict"=none
 cB:mg "int"=none
 fG:mg "isinstance"=none
 dm:mg "len"=none
 cU:mg "list"=none
 gD:mg "max"=none
 df:mg "min"=none
 gC:mg "range"=none
 dL:mg "set"=none
 dS:mg "sorted"=none
 ge:mg "tuple"=none
 cI:∃tk,mg "MOST_WIDTH"=some (.int 64 tk)
 fq:∃tk,mg "MOST_LETTERS"=some (.int 8 tk)
 ij:∃tk,mg "MOST_ISLANDS"=some (.int 5 tk)
 dP:∃tk,mg "MOST_FERRIES"=some (.int 6 tk)
 eC:∃tk,mg "MOST_VARS"=some (.int 6 tk)
 gk:∃tk,mg "MOST_STEPS"=some (.int 12 tk)
 eP:∃tk,mg "MOST_PARTS"=some (.int 30 tk)
 fB:∃tk,mg "MOST_DEPTH"=some (.int 8 tk)
 eD:∃tk,mg "MOST_K"=some (.int 3 tk)
 gW:∃tk,mg "MOST_STAGES"=some (.int 3 tk)
 fT:∃tk,mg "BITS_A_FERRY"=some (.int 8 tk)
theorem _fu:FnScope ["value"] ["value"] (X5 A7):=mkSc
theorem _ft:FnScope ["number"] ["number"] (X5 A8):=mkSc
theorem _id:FnScope ["exponent","answer","k"] ["exponent"] (X5 A9):=mkSc
theorem _my:FnScope ["width","number"] ["width","number"] (X5 Aa):=mkSc
theorem _oK:FnScope ["width","number"] ["width","number"] (X5 Ac):=mkSc
theorem _mz:FnScope ["old","new","choice"] ["old","new","choice"] (X5 Ad):=mkSc
theorem _h9:FnScope ["n"] ["n"] (X5 Ae):=mkSc
theorem _dZ:FnScope ["word","n","above"] ["word"] (X5 Af):=mkSc
theorem _dd:FnScope ["word"] ["word"] (X5 Ag):=mkSc
theorem _kh:FnScope ["sign","word","moment"] ["sign","word","moment"] (X5 Ah):=mkSc
theorem _bZ:FnScope ["word","stages"] ["word","stages"] (X5 Ai):=mkSc
theorem _h7:FnScope ["sign","since","choice"] ["sign","since","choice"] (X5 Aj):=mkSc
theorem _ki:FnScope ["sight","word"] ["sight","word"] (X5 Ak):=mkSc
theorem _mw:FnScope ["sight"] ["sight"] (X5 Al):=mkSc
theorem _al:FnScope ["self","turn","stages"] ["self","turn","stages"] (X5 Ud):=mkSc
theorem _85:FnScope ["self"] ["self"] (X5 Ue):=mkSc
theorem _5q:FnScope ["self"] ["self"] (X5 Uf):=mkSc
theorem _e6:FnScope ["self"] ["self"] (X5 Ug):=mkSc
theorem _6H:FnScope ["self","moment","choice","other_sign","seen"] ["self","moment","choice","other_sign"] (X5 Uh):=mkSc
theorem _8X:FnScope ["self","k","stages"] ["self","k","stages"] (X5 Ui):=mkSc
theorem _7I:FnScope ["self","moment","choice","word","words","gives"] ["self","moment","choice","word"] (X5 Uj):=mkSc
theorem _7H:FnScope ["self","moment","choice","wished","word","place"] ["self","moment","choice","wished"] (X5 Uk):=mkSc
theorem _aP:FnScope ["T"] ["T"] (X5 Am):=mkSc
theorem _h6:FnScope ["T","parts","deepest","part","size"] ["T"] (X5 An):=mkSc
theorem _db:FnScope ["T","names","part"] ["T"] (X5 Ao):=mkSc
theorem _h5:FnScope ["T"] ["T"] (X5 Ap):=mkSc
theorem _aN:FnScope ["form","left","right","width"] ["form","left","right","width"] (X5 Aq):=mkSc
theorem _kg:FnScope ["T","width","words","first"] ["T","width","words"] (X5 Ar):=mkSc
theorem _mv:FnScope ["width","steps","number","words","step"] ["width","steps","number","words"] (X5 As):=mkSc
theorem _aQ:FnScope ["width","steps","number","words","step"] ["width","steps","number","words"] (X5 At):=mkSc
theorem _bV:FnScope ["width","step","words","word","behind"] ["width","step","words","word"] (X5 Au):=mkSc
theorem _kj:FnScope ["width","steps","number","words","word"] ["width","steps","number","words","word"] (X5 Av):=mkSc
theorem _h8:FnScope ["text"] ["text"] (X5 Aw):=mkSc
theorem _bY:FnScope ["text","earlier"] ["text","earlier"] (X5 Ax):=mkSc
theorem Ks:FnScope ["name","known"] ["name","known"] (X5 Ay):=mkSc
theorem _5p:FnScope ["ferries","earlier","ferry"] ["ferries"] (X5 Az):=mkSc
theorem _7G:FnScope ["width","pairs","earlier","pair","name"] ["width","pairs"] (X5 AA):=mkSc
theorem _bW:FnScope ["T","known","size","name"] ["T","known"] (X5 AB):=mkSc
theorem _bX:FnScope ["step","known","count","ferry_names"] ["step","known","count","ferry_names"] (X5 AC):=mkSc
theorem _ak:FnScope ["width","island","ferry_names","known","step"] ["width","island","ferry_names"] (X5 AD):=mkSc
theorem _8V:FnScope ["width","islands","ferry_names","earlier","island"] ["width","islands","ferry_names"] (X5 AE):=mkSc
theorem _aO:FnScope ["ferry","island_names"] ["ferry","island_names"] (X5 AF):=mkSc
theorem _7F:FnScope ["name","step","givers","takers"] ["name","step","givers","takers"] (X5 AG):=mkSc
theorem _6G:FnScope ["islands","ferries","givers","takers","island","step"] ["islands","ferries"] (X5 AH):=mkSc
theorem Kt:FnScope ["value"] ["value"] (X5 AI):=mkSc
theorem _mx:FnScope ["width","islands","ferries","island_names","ferry"] ["width","islands","ferries"] (X5 AJ):=mkSc
theorem _da:FnScope ["row","name","one"] ["row","name"] (X5 AK):=mkSc
theorem _e1:FnScope ["world","name"] ["world","name"] (X5 AL):=mkSc
theorem _d9:FnScope ["asked"] ["asked"] (X5 AM):=mkSc
theorem _dc:FnScope ["asked","ferry_name"] ["asked","ferry_name"] (X5 AN):=mkSc
theorem _e0:FnScope ["named","name"] ["named","name"] (X5 AO):=mkSc
theorem _aS:FnScope ["self","world"] ["self","world"] (X5 Ul):=mkSc
theorem _fv:FnScope ["self","name","choice","steps","number","asked","what","samples","j","ferry","told"] ["self","name","choice"] (X5 Um):=mkSc
theorem _8W:FnScope ["self","ferry","name","choice","asked","boat","wished","told"] ["self","ferry","name","choice","asked"] (X5 Uo):=mkSc
theorem _e8:FnScope ["self","name","steps","word","went"] ["self","name","steps","word"] (X5 Up):=mkSc
theorem _e9:FnScope ["self","name"] ["self","name"] (X5 Uq):=mkSc
theorem _e7:FnScope ["self","name"] ["self","name"] (X5 Ur):=mkSc
theorem _aR:FnScope ["script","k"] ["script","k"] (X5 AQ):=mkSc
theorem _de:FnScope ["found"] ["found"] (X5 AR):=mkSc
theorem _e5:FnScope ["number","k","letters","fill","other","long","at","sign"] ["number","k"] (X5 AS):=mkSc
theorem _e3:FnScope ["number","names","one","other"] ["number","names"] (X5 AT):=mkSc
theorem _e4:FnScope ["number","name","names","ferries","many","takes","gives","rest"] ["number","name","names","ferries","many"] (X5 AU):=mkSc
theorem _c1:FnScope ["number","k","naming","ferries","around","name","names","pairs","many","ending","steps","j"] ["number","k","naming","ferries","around"] (X5 AV):=mkSc
theorem _c0:FnScope ["script","around","head","naming","width","many","ferries","k","number","giver","taker","ends","islands"] ["script","around"] (X5 AW):=mkSc
theorem _df:FnScope ["cells","islands","rings","cell"] ["cells","islands"] (X5 AX):=mkSc
theorem _oJ:FnScope ["script","width","islands","ferries","run","name","choice","ferry","given","taken"] ["script"] (X5 AY):=mkSc
noncomputable def GB:List Str:=["all","bool","dict","int","isinstance","len","list","max","min","range","set","sorted","tuple"]
noncomputable def GL:List (Str×Int):=[("MOST_WIDTH",64),("MOST_LETTERS",8),("MOST_ISLANDS",5),("MOST_FERRIES",6),("MOST_VARS",6),("MOST_STEPS",12),("MOST_PARTS",30),("MOST_DEPTH",8),("MOST_K",3),("MOST_STAGES",3),("BITS_A_FERRY",8)]
theorem _P{K:X4}{mg:Str->Option X0}{t:Adr}(T:Txt K mg t):∀x∈GB,mg x=none:=(fMc ⟨T.dz,(fMc ⟨T.fk,(fMc ⟨T.dw,(fMc ⟨T.cB,(fMc ⟨T.fG,(fMc ⟨T.dm,(fMc ⟨T.cU,(fMc ⟨T.gD,(fMc ⟨T.df,(fMc ⟨T.gC,(fMc ⟨T.dL,(fMc ⟨T.dS,(fMc ⟨T.ge,nl0⟩)⟩)⟩)⟩)⟩)⟩)⟩)⟩)⟩)⟩)⟩)⟩)⟩)
theorem _Q{K:X4}{mg:Str->Option X0}{t:Adr}(T:Txt K mg t):∀p∈GL,∃tk,mg p.1=some (.int p.2 tk):=(fMc ⟨T.cI,(fMc ⟨T.fq,(fMc ⟨T.ij,(fMc ⟨T.dP,(fMc ⟨T.eC,(fMc ⟨T.gk,(fMc ⟨T.eP,(fMc ⟨T.fB,(fMc ⟨T.eD,(fMc ⟨T.gW,(fMc ⟨T.fT,nl0⟩)⟩)⟩)⟩)⟩)⟩)⟩)⟩)⟩)⟩)⟩)
noncomputable def GC:List (Str×Str):=[("Side","turn"),("Side","total"),("Side","sign"),("Side","sight"),("Ferry","places"),("Ferry","giver"),("Ferry","taker"),("Run","world"),("Run","moment"),("Run","next_numbers"),("Run","words_now"),("Run","steps_so_far"),("Run","boats"),("Run","given_so_far"),("Run","taken_so_far")]
theorem _R{K:X4}{mg:Str->Option X0}{t:Adr}(T:Txt K mg t):∀q∈GC,∃C,XA K Xo q.1=some (some (.ref C))/\Cls K C/\NoAttr K C q.2:=(fMc ⟨⟨_,T.ag,T.ai,T.fL⟩,(fMc ⟨⟨_,T.ag,T.ai,T.gh⟩,(fMc ⟨⟨_,T.ag,T.ai,T.ii⟩,(fMc ⟨⟨_,T.ag,T.ai,T.dZ⟩,(fMc ⟨⟨_,T.ay,T.aB,T.fQ⟩,(fMc ⟨⟨_,T.ay,T.aB,T.gT⟩,(fMc ⟨⟨_,T.ay,T.aB,T.ft⟩,(fMc ⟨⟨_,T.ab,T.ac,T.fv⟩,(fMc ⟨⟨_,T.ab,T.ac,T.fj⟩,(fMc ⟨⟨_,T.ab,T.ac,T.gZ⟩,(fMc ⟨⟨_,T.ab,T.ac,T.cH⟩,(fMc ⟨⟨_,T.ab,T.ac,T.fV⟩,(fMc ⟨⟨_,T.ab,T.ac,T.dY⟩,(fMc ⟨⟨_,T.ab,T.ac,T.fh⟩,(fMc ⟨⟨_,T.ab,T.ac,T.fD⟩,nl0⟩)⟩)⟩)⟩)⟩)⟩)⟩)⟩)⟩)⟩)⟩)⟩)⟩)⟩)⟩)
theorem fE{P:Xv}{w:Xm}{K:X4}{mg:Str->Option X0}{base:Heap}{x:Str}{ps:List Str}{st:Stmt}{f:Addr}{d:Xh}(h:FnT K mg x ps st f d){j k:Nat}{sp:SpM}(o:FnOk P w K mg base CX0 j f d ps (liSp K sp))(l:j≤k:=by decide):∃fa fd ps,FnOk P w K mg base CX0 k fa fd ps (liSp K sp)/\mg x=some (.ref fa)/\XW K (.ref fa)=true/\Binds K fd ps []:=⟨_,_,_,o.mono l,h.m,h.F.kp,h.b⟩
theorem fC{P:Xv}{w:Xm}{K:X4}{mg:Str->Option X0}{base:Heap}{t:Adr}(T:Txt K mg t){k:Nat}{G:GI}{Φ:List (Str×SpM)}(e:Φ.map (·.1)=G.fns)(hm:∀p∈Φ,MonW p.2)(hF:∀p∈Φ,∃fa fd ps,FnOk P w K mg base CX0 k fa fd ps (liSp K p.2)/\mg p.1=some (.ref fa)/\XW K (.ref fa)=true/\Binds K fd ps [])
  (b:G.bl=GB:=by rfl) (g:G.gl=GL:=by rfl) (c:G.cls=GC:=by rfl) (m:G.mts=[]:=by rfl) (n:G.mks=[]:=by rfl):Fts P w K mg base k G Φ:=
 _N (VC Φ) (b▸_P T) (g▸_Q T) e hm hF (by rw[m];exact λ_ h=>nomatch h) (by rw[n];exact λ_ h=>nomatch h) (c▸_R T)
noncomputable def Ku:ISs:=.cons (.ret (.and (.bi .isinst (.var 0) (.cons (.ty .int) .nil)) (.not (.bi .isinst (.var 0) (.cons (.ty .bool) .nil))))) .nil
abbrev EG:ISs:=Ku
def Kv:GI:={bl:=GB,gl:=GL,fns:=[],mts:=[],mks:=[],cls:=GC}
theorem _g6:chkSs Kv (X5 A7) ["value"] EG (Xe A7)=true:=by decide+kernel
noncomputable def Kw:ISs:=.cons (.ret (.and (.call 0 (.var 0) .nil) (.chn .LtE .LtE (.int 1) (.var 0) (.glb "MOST_WIDTH" 64)))) .nil
abbrev EH:ISs:=Kw
def Kx:GI:={bl:=GB,gl:=GL,fns:=["is_whole"],mts:=[],mks:=[],cls:=GC}
theorem _g5:chkSs Kx (X5 A8) ["number"] EH (Xe A8)=true:=by decide+kernel
def Ky:ISs:=.cons (.ret (.var 1)) .nil
def Kz:ISs:=.cons (.set 1 (.bin .Mult (.var 1) (.int 2))) .nil
def KA:ISs:=.cons (.for_ (.nm 2) (.rng (.var 0)) Kz) Ky
def KB:ISs:=.cons (.set 1 (.int 1)) KA
abbrev EI:ISs:=KB
def KC:GI:={bl:=GB,gl:=GL,fns:=[],mts:=[],mks:=[],cls:=GC}
theorem _jw:chkSs KC (X5 A9) ["exponent","answer","k"] EI (Xe A9)=true:=by decide+kernel
noncomputable def KD:ISs:=.cons (.ret (.and (.call 0 (.var 1) .nil) (.chn .LtE .Lt (.int 0) (.var 1) (.call 1 (.var 0) .nil)))) .nil
abbrev EJ:ISs:=KD
def KE:GI:={bl:=GB,gl:=GL,fns:=["is_whole","two_to"],mts:=[],mks:=[],cls:=GC}
theorem _o8:chkSs KE (X5 Aa) ["width","number"] EJ (Xe Aa)=true:=by decide+kernel
def KF:ISs:=.cons (.ret (.bin .Mod (.var 1) (.call 0 (.var 0) .nil))) .nil
abbrev EK:ISs:=KF
def KG:GI:={bl:=GB,gl:=GL,fns:=["two_to"],mts:=[],mks:=[],cls:=GC}
theorem _qo:chkSs KG (X5 Ac) ["width","number"] EK (Xe Ac)=true:=by decide+kernel
noncomputable def KH:ISs:=.cons (.ret (.bin .BitXor (.var 0) (.bin .BitAnd (.bin .BitXor (.var 0) (.var 1)) (.var 2)))) .nil
abbrev EL:ISs:=KH
def KI:GI:={bl:=GB,gl:=GL,fns:=[],mts:=[],mks:=[],cls:=GC}
theorem _o9:chkSs KI (X5 Ad) ["old","new","choice"] EL (Xe Ad)=true:=by decide+kernel
noncomputable def KJ:ISs:=.cons (.ret (.bin .BitXor (.var 0) (.bin .FloorDiv (.var 0) (.int 2)))) .nil
abbrev EM:ISs:=KJ
def KK:GI:={bl:=GB,gl:=GL,fns:=[],mts:=[],mks:=[],cls:=GC}
theorem _hG:chkSs KK (X5 Ae) ["n"] EM (Xe Ae)=true:=by decide+kernel
def KL:ISs:=.cons (.ret (.var 1)) .nil
def KM:ISs:=.cons (.set 2 (.bin .FloorDiv (.var 2) (.int 2))) .nil
def KN:ISs:=.cons (.set 1 (.bin .BitXor (.var 1) (.var 2))) KM
def KO:ISs:=.cons (.while_ (.cmp .Gt (.var 2) (.int 0)) KN) KL
def KP:ISs:=.cons (.set 2 (.bin .FloorDiv (.var 0) (.int 2))) KO
def KQ:ISs:=.cons (.set 1 (.var 0)) KP
abbrev EN:ISs:=KQ
def KR:GI:={bl:=GB,gl:=GL,fns:=[],mts:=[],mks:=[],cls:=GC}
theorem _eS:chkSs KR (X5 Af) ["word","n","above"] EN (Xe Af)=true:=by decide+kernel
noncomputable def KS:ISs:=.cons (.ret (.tup (.cons (.var 0) (.cons (.var 0) (.cons (.neg (.int 1)) .nil))))) .nil
abbrev EO:ISs:=KS
def KU:GI:={bl:=GB,gl:=GL,fns:=[],mts:=[],mks:=[],cls:=GC}
theorem _dK:chkSs KU (X5 Ag) ["word"] EO (Xe Ag)=true:=by decide+kernel
noncomputable def KW:ISs:=.cons (.ret (.tup (.cons (.var 1) (.cons (.ix (.var 0) (.int 0)) (.cons (.var 2) .nil))))) .nil
abbrev EQ:ISs:=KW
def KY:GI:={bl:=GB,gl:=GL,fns:=[],mts:=[],mks:=[],cls:=GC}
theorem _la:chkSs KY (X5 Ah) ["sign","word","moment"] EQ (Xe Ah)=true:=by decide+kernel
noncomputable def KZ:ISs:=.cons (.ret (.bin .Mult (.tup (.cons (.var 0) .nil)) (.var 1))) .nil
abbrev ER:ISs:=KZ
def L0:GI:={bl:=GB,gl:=GL,fns:=[],mts:=[],mks:=[],cls:=GC}
theorem _cn:chkSs L0 (X5 Ai) ["word","stages"] ER (Xe Ai)=true:=by decide+kernel
def L1:ISs:=.cons (.ret (.ix (.var 0) (.int 0))) .nil
noncomputable def L3:ISs:=.cons (.ret (.call 0 (.ix (.var 0) (.int 1)) (.cons (.ix (.var 0) (.int 0)) (.cons (.var 2) .nil)))) .nil
def L4:ISs:=.cons (.ite (.cmp .Gt (.ix (.var 0) (.int 2)) (.var 1)) L3 .nil) L1
abbrev ES:ISs:=L4
def L5:GI:={bl:=GB,gl:=GL,fns:=["amid"],mts:=[],mks:=[],cls:=GC}
theorem _hE:chkSs L5 (X5 Aj) ["sign","since","choice"] ES (Xe Aj)=true:=by decide+kernel
noncomputable def L6:ISs:=.cons (.ret (.sl (.bin .Add (.tup (.cons (.var 1) .nil)) (.var 0)) .none (.some (.neg (.int 1))))) .nil
abbrev ET:ISs:=L6
def L7:GI:={bl:=GB,gl:=GL,fns:=[],mts:=[],mks:=[],cls:=GC}
theorem _lb:chkSs L7 (X5 Ak) ["sight","word"] ET (Xe Ak)=true:=by decide+kernel
def L8:ISs:=.cons (.ret (.ix (.var 0) (.neg (.int 1)))) .nil
abbrev EU:ISs:=L8
def L9:GI:={bl:=GB,gl:=GL,fns:=[],mts:=[],mks:=[],cls:=GC}
theorem _o6:chkSs L9 (X5 Al) ["sight"] EU (Xe Al)=true:=by decide+kernel
noncomputable def La:ISs:=.cons (.fset "Side" (.var 0) "sight" (.call 1 (.call 0 (.int 0) .nil) (.cons (.var 2) .nil))) .nil
def Lb:ISs:=.cons (.fset "Side" (.var 0) "sign" (.call 2 (.call 0 (.int 0) .nil) .nil)) La
def Lc:ISs:=.cons (.fset "Side" (.var 0) "total" (.int 0)) Lb
def Ld:ISs:=.cons (.fset "Side" (.var 0) "turn" (.var 1)) Lc
abbrev EV:ISs:=Ld
def Lf:GI:={bl:=GB,gl:=GL,fns:=["code_of","first_sight","first_sign"],mts:=[],mks:=[],cls:=GC}
theorem _aw:chkSs Lf (X5 Ud) ["self","turn","stages"] EV (Xe Ud)=true:=by decide+kernel
def Lg:ISs:=.cons (.ret (.ix (.fld "Side" (.var 0) "sign") (.int 2))) .nil
abbrev EW:ISs:=Lg
def Lh:GI:={bl:=GB,gl:=GL,fns:=[],mts:=[],mks:=[],cls:=GC}
theorem _8K:chkSs Lh (X5 Ue) ["self"] EW (Xe Ue)=true:=by decide+kernel
noncomputable def Li:ISs:=.cons (.ret (.bin .Mod (.bin .Sub (.fld "Side" (.var 0) "total") (.call 0 (.call 1 (.fld "Side" (.var 0) "sight") .nil) .nil)) (.fld "Side" (.var 0) "turn"))) .nil
abbrev EX:ISs:=Li
def Lj:GI:={bl:=GB,gl:=GL,fns:=["number_of","used"],mts:=[],mks:=[],cls:=GC}
theorem _6t:chkSs Lj (X5 Uf) ["self"] EX (Xe Uf)=true:=by decide+kernel
noncomputable def Lk:ISs:=.cons (.fset "Side" (.var 0) "total" (.bin .Add (.fld "Side" (.var 0) "total") (.int 1))) .nil
abbrev EY:ISs:=Lk
def Ll:GI:={bl:=GB,gl:=GL,fns:=[],mts:=[],mks:=[],cls:=GC}
theorem _eZ:chkSs Ll (X5 Ug) ["self"] EY (Xe Ug)=true:=by decide+kernel
def Lm:ISs:=.cons (.ret (.var 4)) .nil
def Ln:ISs:=.cons (.fset "Side" (.var 0) "sight" (.call 1 (.fld "Side" (.var 0) "sight") (.cons (.var 4) .nil))) Lm
def Lo:ISs:=.cons (.fset "Side" (.var 0) "sign" (.call 3 (.fld "Side" (.var 0) "sign") (.cons (.call 0 (.bin .Mod (.fld "Side" (.var 0) "total") (.fld "Side" (.var 0) "turn")) .nil) (.cons (.var 1) .nil)))) Ln
def Lp:ISs:=.cons (.set 4 (.call 2 (.var 3) (.cons (.mcall 4 "Side" "ring_ahead" (.var 0) .nil) (.cons (.var 2) .nil)))) Lo
abbrev EZ:ISs:=Lp
def Lq:GI:={bl:=GB,gl:=GL,fns:=["code_of","moved","sampled","shown"],mts:=[(4,"Side","ring_ahead")],mks:=[],cls:=GC}
theorem _6N:chkSs Lq (X5 Uh) ["self","moment","choice","other_sign","seen"] EZ (Xe Uh)=true:=by decide+kernel
noncomputable def Lr:ISs:=.cons (.fset "Ferry" (.var 0) "taker" (.make 2 "Side" (.call 1 (.bin .Add (.var 1) (.int 1)) .nil) (.cons (.var 2) .nil))) .nil
def Ls:ISs:=.cons (.fset "Ferry" (.var 0) "giver" (.make 2 "Side" (.call 1 (.bin .Add (.var 1) (.int 1)) .nil) (.cons (.var 2) .nil))) Lr
def Lu:ISs:=.cons (.fset "Ferry" (.var 0) "places" (.bin .Mult (.lst (.cons (.call 0 (.int 0) .nil) .nil)) (.call 1 (.var 1) .nil))) Ls
abbrev F0:ISs:=Lu
def Lv:GI:={bl:=GB,gl:=GL,fns:=["first_sign","two_to"],mts:=[],mks:=[(2,"Side")],cls:=GC}
theorem _9g:chkSs Lv (X5 Ui) ["self","k","stages"] F0 (Xe Ui)=true:=by decide+kernel
noncomputable def Lw:ISs:=.cons (.ret (.tup (.cons (.var 5) (.cons (.mcall 3 "Side" "show_and_see" (.fld "Ferry" (.var 0) "giver") (.cons (.var 1) (.cons (.var 2) (.cons (.fld "Side" (.fld "Ferry" (.var 0) "taker") "sign") .nil)))) .nil)))) .nil
def F1:ISs:=.cons (.fset "Ferry" (.var 0) "places" (.comp ["k"] [1,4,0] (.rng (.bi .len (.var 4) .nil)) (.nm 0) .none (.call 0 (.ix (.fld "Ferry" (.var 3) "places") (.var 0)) (.cons (.ix (.var 2) (.var 0)) (.cons (.var 1) .nil))))) Lw
noncomputable def Lx:ISs:=.cons (.expr (.mcall 1 "Side" "grow" (.fld "Ferry" (.var 0) "giver") .nil)) .nil
def Ly:ISs:=.cons (.put (.var 4) (.bin .Mod (.fld "Side" (.fld "Ferry" (.var 0) "giver") "total") (.bi .len (.var 4) .nil)) (.var 3)) Lx
def F2:ISs:=.cons (.ite (.var 5) Ly .nil) F1
def Lz:ISs:=.cons (.set 5 (.and (.cmp .IsNot (.var 3) .non) (.cmp .Lt (.mcall 2 "Side" "less_the_seen" (.fld "Ferry" (.var 0) "giver") .nil) (.bi .len (.var 4) .nil)))) F2
def LA:ISs:=.cons (.set 4 (.comp ["place"] [] (.seq (.fld "Ferry" (.var 0) "places")) (.nm 0) .none (.ix (.var 0) (.int 0)))) Lz
abbrev F3:ISs:=LA
def LB:GI:={bl:=GB,gl:=GL,fns:=["shown"],mts:=[(1,"Side","grow"),(2,"Side","less_the_seen"),(3,"Side","show_and_see")],mks:=[],cls:=GC}
theorem _80:chkSs LB (X5 Uj) ["self","moment","choice","word","words","gives"] F3 (Xe Uj)=true:=by decide+kernel
noncomputable def F4:ISs:=.cons (.ret (.tup (.cons (.var 4) (.cons (.mcall 4 "Side" "show_and_see" (.fld "Ferry" (.var 0) "taker") (.cons (.var 1) (.cons (.var 2) (.cons (.fld "Side" (.fld "Ferry" (.var 0) "giver") "sign") .nil)))) .nil)))) .nil
noncomputable def LC:ISs:=.cons (.expr (.mcall 1 "Side" "grow" (.fld "Ferry" (.var 0) "taker") .nil)) .nil
def LD:ISs:=.cons (.set 4 (.call 0 (.var 5) (.cons (.mcall 3 "Side" "ring_ahead" (.fld "Ferry" (.var 0) "taker") .nil) (.cons (.var 2) .nil)))) LC
def LE:ISs:=.cons (.set 5 (.ix (.fld "Ferry" (.var 0) "places") (.bin .Mod (.fld "Side" (.fld "Ferry" (.var 0) "taker") "total") (.bi .len (.fld "Ferry" (.var 0) "places") .nil)))) LD
def LF:ISs:=.cons (.ite (.and (.var 3) (.cmp .NotEq (.mcall 2 "Side" "less_the_seen" (.fld "Ferry" (.var 0) "taker") .nil) (.int 0))) LE .nil) F4
def LG:ISs:=.cons (.set 4 .non) LF
abbrev F5:ISs:=LG
def LH:GI:={bl:=GB,gl:=GL,fns:=["sampled"],mts:=[(1,"Side","grow"),(2,"Side","less_the_seen"),(3,"Side","ring_ahead"),(4,"Side","show_and_see")],mks:=[],cls:=GC}
theorem _7Z:chkSs LH (X5 Uk) ["self","moment","choice","wished","word","place"] F5 (Xe Uk)=true:=by decide+kernel
noncomputable def F6:ISs:=.cons (.ret (.bi .list (.sl (.var 0) (.some (.int 1)) .none) .nil)) .nil
def F7:ISs:=.cons (.ret (.lst .nil)) .nil
def LI:ISs:=.cons (.ite (.or (.cmp .Eq (.ix (.var 0) (.int 0)) (.str "num")) (.cmp .Eq (.ix (.var 0) (.int 0)) (.str "var"))) F7 .nil) F6
abbrev F8:ISs:=LI
def LJ:GI:={bl:=GB,gl:=GL,fns:=[],mts:=[],mks:=[],cls:=GC}
theorem _bD:chkSs LJ (X5 Am) ["T"] F8 (Xe Am)=true:=by decide+kernel
noncomputable def LK:ISs:=.cons (.ret (.tup (.cons (.var 1) (.cons (.bin .Add (.var 2) (.int 1)) .nil)))) .nil
noncomputable def LL:ISs:=.cons (.set 2 (.bi .max (.var 2) (.cons (.ix (.var 4) (.int 1)) .nil))) .nil
def LM:ISs:=.cons (.set 1 (.bin .Add (.var 1) (.ix (.var 4) (.int 0)))) LL
def LN:ISs:=.cons (.set 4 (.call 1 (.var 3) .nil)) LM
def LO:ISs:=.cons (.for_ (.nm 3) (.seq (.call 0 (.var 0) .nil)) LN) LK
def LP:ISs:=.cons (.set 2 (.int 0)) LO
def LQ:ISs:=.cons (.set 1 (.int 1)) LP
abbrev F9:ISs:=LQ
def LR:GI:={bl:=GB,gl:=GL,fns:=["parts_within","size_of"],mts:=[],mks:=[],cls:=GC}
theorem _hD:chkSs LR (X5 An) ["T","parts","deepest","part","size"] F9 (Xe An)=true:=by decide+kernel
def LS:ISs:=.cons (.ret (.var 1)) .nil
noncomputable def LT:ISs:=.cons (.expr (.mt .extend (.var 1) (.cons (.call 0 (.var 2) .nil) .nil))) .nil
def LU:ISs:=.cons (.for_ (.nm 2) (.seq (.call 1 (.var 0) .nil)) LT) LS
def Fa:ISs:=.cons (.set 1 (.lst .nil)) LU
def LV:ISs:=.cons (.ret (.lst (.cons (.ix (.var 0) (.int 1)) .nil))) .nil
def LW:ISs:=.cons (.ite (.cmp .Eq (.ix (.var 0) (.int 0)) (.str "var")) LV .nil) Fa
abbrev Fb:ISs:=LW
def LX:GI:={bl:=GB,gl:=GL,fns:=["names_read","parts_within"],mts:=[],mks:=[],cls:=GC}
theorem _dI:chkSs LX (X5 Ao) ["T","names","part"] Fb (Xe Ao)=true:=by decide+kernel
def LY:ISs:=.cons (.ret (.b2 .ssrt (.call 0 (.var 0) .nil))) .nil
abbrev Fc:ISs:=LY
def LZ:GI:={bl:=GB,gl:=GL,fns:=["names_read"],mts:=[],mks:=[],cls:=GC}
theorem _hC:chkSs LZ (X5 Ap) ["T"] Fc (Xe Ap)=true:=by decide+kernel
noncomputable def Mb:ISs:=.cons (.ret (.ife (.cmp .Eq (.var 1) (.var 2)) (.int 1) (.int 0))) .nil
noncomputable def Mc:ISs:=.cons (.ret (.ife (.cmp .Lt (.var 1) (.var 2)) (.int 1) (.int 0))) .nil
def Fd:ISs:=.cons (.ite (.cmp .Eq (.var 0) (.str "less")) Mc .nil) Mb
noncomputable def Md:ISs:=.cons (.ret (.call 0 (.var 3) (.cons (.bin .Mult (.var 1) (.var 2)) .nil))) .nil
def CK:ISs:=.cons (.ite (.cmp .Eq (.var 0) (.str "times")) Md .nil) Fd
noncomputable def Me:ISs:=.cons (.ret (.call 0 (.var 3) (.cons (.bin .Sub (.var 1) (.var 2)) .nil))) .nil
def AZ:ISs:=.cons (.ite (.cmp .Eq (.var 0) (.str "minus")) Me .nil) CK
noncomputable def Mf:ISs:=.cons (.ret (.call 0 (.var 3) (.cons (.bin .Add (.var 1) (.var 2)) .nil))) .nil
def Mg:ISs:=.cons (.ite (.cmp .Eq (.var 0) (.str "plus")) Mf .nil) AZ
abbrev Fe:ISs:=Mg
def Mh:GI:={bl:=GB,gl:=GL,fns:=["cut"],mts:=[],mks:=[],cls:=GC}
theorem _bB:chkSs Mh (X5 Aq) ["form","left","right","width"] Fe (Xe Aq)=true:=by decide+kernel
noncomputable def Mi:ISs:=.cons (.ret (.call 2 (.ix (.var 0) (.int 0)) (.cons (.var 3) (.cons (.call 1 (.ix (.var 0) (.int 2)) (.cons (.var 1) (.cons (.var 2) .nil))) (.cons (.var 1) .nil))))) .nil
noncomputable def Mj:ISs:=.cons (.ret (.call 1 (.ife (.cmp .NotEq (.var 3) (.int 0)) (.ix (.var 0) (.int 2)) (.ix (.var 0) (.int 3))) (.cons (.var 1) (.cons (.var 2) .nil)))) .nil
def Ff:ISs:=.cons (.ite (.cmp .Eq (.ix (.var 0) (.int 0)) (.str "pick")) Mj .nil) Mi
def Fg:ISs:=.cons (.set 3 (.call 1 (.ix (.var 0) (.int 1)) (.cons (.var 1) (.cons (.var 2) .nil)))) Ff
def Ml:ISs:=.cons (.ret (.ix (.var 2) (.ix (.var 0) (.int 1)))) .nil
def CL:ISs:=.cons (.ite (.cmp .Eq (.ix (.var 0) (.int 0)) (.str "var")) Ml .nil) Fg
noncomputable def Mm:ISs:=.cons (.ret (.call 0 (.var 1) (.cons (.ix (.var 0) (.int 1)) .nil))) .nil
def Mn:ISs:=.cons (.ite (.cmp .Eq (.ix (.var 0) (.int 0)) (.str "num")) Mm .nil) CL
abbrev Fh:ISs:=Mn
def Mo:GI:={bl:=GB,gl:=GL,fns:=["cut","worth","worth_of_two"],mts:=[],mks:=[],cls:=GC}
theorem _l9:chkSs Mo (X5 Ar) ["T","width","words","first"] Fh (Xe Ar)=true:=by decide+kernel
def Fi:ISs:=.cons (.ret (.tup (.cons (.str "own") .nil))) .nil
noncomputable def Mp:ISs:=.cons (.ret (.tup (.cons (.str "give") (.cons (.ix (.var 4) (.int 1)) (.cons (.call 0 (.ix (.var 4) (.int 2)) (.cons (.var 0) (.cons (.var 3) .nil))) .nil))))) .nil
def CM:ISs:=.cons (.ite (.cmp .Eq (.ix (.var 4) (.int 0)) (.str "give")) Mp .nil) Fi
noncomputable def Mq:ISs:=.cons (.ret (.tup (.cons (.str "take") (.cons (.ix (.var 4) (.int 1)) .nil)))) .nil
def Fj:ISs:=.cons (.ite (.cmp .Eq (.ix (.var 4) (.int 0)) (.str "take")) Mq .nil) CM
def Fk:ISs:=.cons (.set 4 (.ix (.var 1) (.var 2))) Fj
def Fl:ISs:=.cons (.ret .non) .nil
def Mr:ISs:=.cons (.ite (.cmp .Eq (.var 2) (.bi .len (.var 1) .nil)) Fl .nil) Fk
abbrev Fm:ISs:=Mr
def Ms:GI:={bl:=GB,gl:=GL,fns:=["worth"],mts:=[],mks:=[],cls:=GC}
theorem _o5:chkSs Ms (X5 As) ["width","steps","number","words","step"] Fm (Xe As)=true:=by decide+kernel
def B0:ISs:=.cons (.ret (.bin .Add (.var 2) (.int 1))) .nil
def Mt:ISs:=.cons (.ret (.ix (.var 4) (.int 2))) .nil
def Mu:ISs:=.cons (.ite (.and (.cmp .Eq (.ix (.var 4) (.int 0)) (.str "jump")) (.cmp .NotEq (.call 0 (.ix (.var 4) (.int 1)) (.cons (.var 0) (.cons (.var 3) .nil))) (.int 0))) Mt .nil) B0
def Mv:ISs:=.cons (.set 4 (.ix (.var 1) (.var 2))) Mu
abbrev Fn:ISs:=Mv
def Mw:GI:={bl:=GB,gl:=GL,fns:=["worth"],mts:=[],mks:=[],cls:=GC}
theorem _bE:chkSs Mw (X5 At) ["width","steps","number","words","step"] Fn (Xe At)=true:=by decide+kernel
def B1:ISs:=.cons (.ret (.var 4)) .nil
noncomputable def Mx:ISs:=.cons (.put (.var 4) (.ix (.var 1) (.int 1)) (.call 0 (.ix (.var 1) (.int 2)) (.cons (.var 0) (.cons (.var 2) .nil)))) .nil
def B3:ISs:=.cons (.ite (.cmp .Eq (.ix (.var 1) (.int 0)) (.str "put")) Mx .nil) B1
def Mz:ISs:=.cons (.put (.var 4) (.ix (.var 1) (.int 2)) (.var 3)) .nil
def MA:ISs:=.cons (.ite (.cmp .Eq (.ix (.var 1) (.int 0)) (.str "take")) Mz .nil) B3
def MB:ISs:=.cons (.set 4 (.bi .dict (.var 2) .nil)) MA
abbrev Fo:ISs:=MB
def MC:GI:={bl:=GB,gl:=GL,fns:=["worth"],mts:=[],mks:=[],cls:=GC}
theorem _cj:chkSs MC (X5 Au) ["width","step","words","word","behind"] Fo (Xe Au)=true:=by decide+kernel
noncomputable def MD:ISs:=.cons (.ret (.tup (.cons (.call 0 (.var 0) (.cons (.var 1) (.cons (.var 2) (.cons (.var 3) .nil)))) (.cons (.call 1 (.var 0) (.cons (.ix (.var 1) (.var 2)) (.cons (.var 3) (.cons (.var 4) .nil)))) .nil)))) .nil
abbrev Fp:ISs:=MD
def ME:GI:={bl:=GB,gl:=GL,fns:=["number_after","words_after"],mts:=[],mks:=[],cls:=GC}
theorem _lc:chkSs ME (X5 Av) ["width","steps","number","words","word"] Fp (Xe Av)=true:=by decide+kernel
noncomputable def MF:ISs:=.cons (.ret (.and (.chn .LtE .LtE (.int 1) (.bi .len (.var 0) .nil) (.glb "MOST_LETTERS" 8)) (.bi .all (.comp ["sign"] [] (.seq (.var 0)) (.nm 0) .none (.chn .LtE .LtE (.str "a") (.var 0) (.str "z"))) .nil))) .nil
abbrev Fq:ISs:=MF
def MG:GI:={bl:=GB,gl:=GL,fns:=[],mts:=[],mks:=[],cls:=GC}
theorem _hF:chkSs MG (X5 Aw) ["text"] Fq (Xe Aw)=true:=by decide+kernel
def Zcc:ISs:=.cons .never .nil
def MI:ISs:=.cons (.ite (.cmp .In (.var 0) (.var 1)) Zcc .nil) .nil
def Zcd:ISs:=.cons .never .nil
def MJ:ISs:=.cons (.ite (.not (.call 0 (.var 0) .nil)) Zcd .nil) MI
abbrev Fr:ISs:=MJ
def MK:GI:={bl:=GB,gl:=GL,fns:=["is_name"],mts:=[],mks:=[],cls:=GC}
theorem _cm:chkSs MK (X5 Ax) ["text","earlier"] Fr (Xe Ax)=true:=by decide+kernel
def Z95:ISs:=.cons .never .nil
def Ft:ISs:=.cons (.ite (.cmp .NotIn (.var 0) (.var 1)) Z95 .nil) .nil
abbrev B4:ISs:=Ft
def Fu:GI:={bl:=GB,gl:=GL,fns:=[],mts:=[],mks:=[],cls:=GC}
theorem ML:chkSs Fu (X5 Ay) ["name","known"] B4 (Xe Ay)=true:=by decide+kernel
noncomputable def MM:ISs:=.cons (.expr (.mt .append (.var 1) (.cons (.ix (.var 2) (.int 0)) .nil))) .nil
def MN:ISs:=.cons (.expr (.call 0 (.ix (.var 2) (.int 0)) (.cons (.var 1) .nil))) MM
def MP:ISs:=.cons (.for_ (.nm 2) (.seq (.var 0)) MN) .nil
def MQ:ISs:=.cons (.set 1 (.lst .nil)) MP
abbrev Fv:ISs:=MQ
def MR:GI:={bl:=GB,gl:=GL,fns:=["refuse_name"],mts:=[],mks:=[],cls:=GC}
theorem _6s:chkSs MR (X5 Az) ["ferries","earlier","ferry"] Fv (Xe Az)=true:=by decide+kernel
def Z7S:ISs:=.cons .never .nil
def MS:ISs:=.cons (.ite (.not (.call 0 (.var 0) (.cons (.ix (.var 3) (.int 1)) .nil))) Z7S .nil) .nil
def MU:ISs:=.cons (.expr (.mt .append (.var 2) (.cons (.var 4) .nil))) MS
def MW:ISs:=.cons (.expr (.call 1 (.var 4) (.cons (.var 2) .nil))) MU
def MX:ISs:=.cons (.set 4 (.ix (.var 3) (.int 0))) MW
def MY:ISs:=.cons (.for_ (.nm 3) (.seq (.var 1)) MX) .nil
def MZ:ISs:=.cons (.set 2 (.lst .nil)) MY
abbrev Fw:ISs:=MZ
def N0:GI:={bl:=GB,gl:=GL,fns:=["fits","refuse_name"],mts:=[],mks:=[],cls:=GC}
theorem _7Y:chkSs N0 (X5 AA) ["width","pairs","earlier","pair","name"] Fw (Xe AA)=true:=by decide+kernel
def N1:ISs:=.cons (.expr (.call 0 (.var 3) (.cons (.var 1) .nil))) .nil
def N2:ISs:=.cons (.for_ (.nm 3) (.seq (.call 2 (.var 0) .nil)) N1) .nil
def Zcb:ISs:=.cons .never .nil
def N3:ISs:=.cons (.ite (.or (.cmp .Gt (.ix (.var 2) (.int 0)) (.glb "MOST_PARTS" 30)) (.cmp .Gt (.ix (.var 2) (.int 1)) (.glb "MOST_DEPTH" 8))) Zcb .nil) N2
def N4:ISs:=.cons (.set 2 (.call 1 (.var 0) .nil)) N3
abbrev Fy:ISs:=N4
def N5:GI:={bl:=GB,gl:=GL,fns:=["refuse_unknown","size_of","vars_in"],mts:=[],mks:=[],cls:=GC}
theorem _ck:chkSs N5 (X5 AB) ["T","known","size","name"] Fy (Xe AB)=true:=by decide+kernel
noncomputable def N6:ISs:=.cons (.expr (.call 1 (.ix (.var 0) (.int 2)) (.cons (.var 1) .nil))) .nil
def N7:ISs:=.cons (.expr (.call 1 (.ix (.var 0) (.int 1)) (.cons (.var 3) .nil))) N6
noncomputable def N8:ISs:=.cons (.expr (.call 0 (.ix (.var 0) (.int 2)) (.cons (.var 1) .nil))) .nil
def N9:ISs:=.cons (.expr (.call 1 (.ix (.var 0) (.int 1)) (.cons (.var 3) .nil))) N8
noncomputable def Na:ISs:=.cons (.expr (.call 0 (.ix (.var 0) (.int 2)) (.cons (.var 1) .nil))) .nil
def Nb:ISs:=.cons (.expr (.call 1 (.ix (.var 0) (.int 1)) (.cons (.var 1) .nil))) Na
def Zbd:ISs:=.cons .never .nil
def Nc:ISs:=.cons (.ite (.not (.chn .LtE .LtE (.int 0) (.ix (.var 0) (.int 2)) (.var 2))) Zbd .nil) .nil
def Nd:ISs:=.cons (.expr (.call 0 (.ix (.var 0) (.int 1)) (.cons (.var 1) .nil))) Nc
def Fz:ISs:=.cons (.ite (.cmp .Eq (.ix (.var 0) (.int 0)) (.str "put")) Nb Nd) .nil
def CN:ISs:=.cons (.ite (.cmp .Eq (.ix (.var 0) (.int 0)) (.str "give")) N9 Fz) .nil
def Nf:ISs:=.cons (.ite (.cmp .Eq (.ix (.var 0) (.int 0)) (.str "take")) N7 CN) .nil
abbrev FA:ISs:=Nf
def Nh:GI:={bl:=GB,gl:=GL,fns:=["refuse_term","refuse_unknown"],mts:=[],mks:=[],cls:=GC}
theorem _cl:chkSs Nh (X5 AC) ["step","known","count","ferry_names"] FA (Xe AC)=true:=by decide+kernel
noncomputable def Ni:ISs:=.cons (.expr (.call 0 (.var 4) (.cons (.var 3) (.cons (.bi .len (.ix (.var 1) (.int 2)) .nil) (.cons (.var 2) .nil))))) .nil
def Nj:ISs:=.cons (.for_ (.nm 4) (.seq (.ix (.var 1) (.int 2))) Ni) .nil
def Nk:ISs:=.cons (.set 3 (.comp ["pair"] [] (.seq (.ix (.var 1) (.int 1))) (.nm 0) .none (.ix (.var 0) (.int 0)))) Nj
def Nm:ISs:=.cons (.expr (.call 1 (.var 0) (.cons (.ix (.var 1) (.int 1)) .nil))) Nk
def Zat:ISs:=.cons .never .nil
def Nn:ISs:=.cons (.ite (.cmp .Gt (.bi .len (.ix (.var 1) (.int 2)) .nil) (.glb "MOST_STEPS" 12)) Zat .nil) Nm
def Zau:ISs:=.cons .never .nil
def No:ISs:=.cons (.ite (.cmp .Gt (.bi .len (.ix (.var 1) (.int 1)) .nil) (.glb "MOST_VARS" 6)) Zau .nil) Nn
abbrev FB:ISs:=No
def Np:GI:={bl:=GB,gl:=GL,fns:=["refuse_step","refuse_variables"],mts:=[],mks:=[],cls:=GC}
theorem _av:chkSs Np (X5 AD) ["width","island","ferry_names","known","step"] FB (Xe AD)=true:=by decide+kernel
noncomputable def Nq:ISs:=.cons (.expr (.call 0 (.var 0) (.cons (.var 4) (.cons (.var 2) .nil)))) .nil
def Nr:ISs:=.cons (.expr (.mt .append (.var 3) (.cons (.ix (.var 4) (.int 0)) .nil))) Nq
def Nu:ISs:=.cons (.expr (.call 1 (.ix (.var 4) (.int 0)) (.cons (.var 3) .nil))) Nr
def Nv:ISs:=.cons (.for_ (.nm 4) (.seq (.var 1)) Nu) .nil
def Nw:ISs:=.cons (.set 3 (.bi .list (.var 2) .nil)) Nv
abbrev FC:ISs:=Nw
def Ny:GI:={bl:=GB,gl:=GL,fns:=["refuse_island","refuse_name"],mts:=[],mks:=[],cls:=GC}
theorem _9e:chkSs Ny (X5 AE) ["width","islands","ferry_names","earlier","island"] FC (Xe AE)=true:=by decide+kernel
def Zbe:ISs:=.cons .never .nil
def Nz:ISs:=.cons (.ite (.not (.chn .LtE .LtE (.int 1) (.ix (.var 0) (.int 4)) (.glb "MOST_STAGES" 3))) Zbe .nil) .nil
def Zbf:ISs:=.cons .never .nil
def NA:ISs:=.cons (.ite (.not (.chn .LtE .LtE (.int 0) (.ix (.var 0) (.int 3)) (.glb "MOST_K" 3))) Zbf .nil) Nz
def Zbg:ISs:=.cons .never .nil
def NB:ISs:=.cons (.ite (.cmp .Eq (.ix (.var 0) (.int 1)) (.ix (.var 0) (.int 2))) Zbg .nil) NA
def NC:ISs:=.cons (.expr (.call 0 (.ix (.var 0) (.int 2)) (.cons (.var 1) .nil))) NB
def ND:ISs:=.cons (.expr (.call 0 (.ix (.var 0) (.int 1)) (.cons (.var 1) .nil))) NC
abbrev FD:ISs:=ND
def NE:GI:={bl:=GB,gl:=GL,fns:=["refuse_unknown"],mts:=[],mks:=[],cls:=GC}
theorem _bC:chkSs NE (X5 AF) ["ferry","island_names"] FD (Xe AF)=true:=by decide+kernel
def Z7Q:ISs:=.cons .never .nil
def B5:ISs:=.cons (.ite (.and (.cmp .Eq (.ix (.var 1) (.int 0)) (.str "give")) (.cmp .NotEq (.ix (.var 2) (.ix (.var 1) (.int 1))) (.var 0))) Z7Q .nil) .nil
def Z7R:ISs:=.cons .never .nil
def NF:ISs:=.cons (.ite (.and (.cmp .Eq (.ix (.var 1) (.int 0)) (.str "take")) (.cmp .NotEq (.ix (.var 3) (.ix (.var 1) (.int 1))) (.var 0))) Z7R .nil) B5
abbrev FE:ISs:=NF
def NG:GI:={bl:=GB,gl:=GL,fns:=[],mts:=[],mks:=[],cls:=GC}
theorem _7X:chkSs NG (X5 AG) ["name","step","givers","takers"] FE (Xe AG)=true:=by decide+kernel
noncomputable def NH:ISs:=.cons (.expr (.call 0 (.ix (.var 4) (.int 0)) (.cons (.var 5) (.cons (.var 2) (.cons (.var 3) .nil))))) .nil
def NI:ISs:=.cons (.for_ (.nm 5) (.seq (.ix (.var 4) (.int 2))) NH) .nil
def NJ:ISs:=.cons (.for_ (.nm 4) (.seq (.var 0)) NI) .nil
def NK:ISs:=.cons (.set 3 (.bi .dictL (.comp ["ferry"] [] (.seq (.var 1)) (.nm 0) .none (.tup (.cons (.ix (.var 0) (.int 0)) (.cons (.ix (.var 0) (.int 2)) .nil)))) .nil)) NJ
def NL:ISs:=.cons (.set 2 (.bi .dictL (.comp ["ferry"] [] (.seq (.var 1)) (.nm 0) .none (.tup (.cons (.ix (.var 0) (.int 0)) (.cons (.ix (.var 0) (.int 1)) .nil)))) .nil)) NK
abbrev FF:ISs:=NL
def NM:GI:={bl:=GB,gl:=GL,fns:=["refuse_wrong_end"],mts:=[],mks:=[],cls:=GC}
theorem _6M:chkSs NM (X5 AH) ["islands","ferries","givers","takers","island","step"] FF (Xe AH)=true:=by decide+kernel
def Wd:ISs:=.cons (.ret (.var 0)) .nil
noncomputable def FG:ISs:=.cons (.ret (.bi .tuple (.comp ["part"] [] (.seq (.var 0)) (.nm 0) .none (.call 0 (.var 0) .nil)) .nil)) .nil
def FH:ISs:=.cons (.ite (.bi .isinst (.var 0) (.cons (.tup (.cons (.ty .list) (.cons (.ty .tuple) .nil))) .nil)) FG .nil) Wd
abbrev We:ISs:=FH
def FI:GI:={bl:=GB,gl:=GL,fns:=["frozen"],mts:=[],mks:=[],cls:=GC}
theorem NN:chkSs FI (X5 AI) ["value"] We (Xe AI)=true:=by decide+kernel
noncomputable def NO:ISs:=.cons (.ret (.call 0 (.tup (.cons (.var 0) (.cons (.var 1) (.cons (.var 2) .nil)))) .nil)) .nil
def NP:ISs:=.cons (.expr (.call 5 (.var 1) (.cons (.var 2) .nil))) NO
def NQ:ISs:=.cons (.expr (.call 2 (.var 4) (.cons (.var 3) .nil))) .nil
def NR:ISs:=.cons (.for_ (.nm 4) (.seq (.var 2)) NQ) NP
def NS:ISs:=.cons (.set 3 (.comp ["island"] [] (.seq (.var 1)) (.nm 0) .none (.ix (.var 0) (.int 0)))) NR
def NT:ISs:=.cons (.expr (.call 4 (.var 0) (.cons (.var 1) (.cons (.comp ["ferry"] [] (.seq (.var 2)) (.nm 0) .none (.ix (.var 0) (.int 0))) .nil)))) NS
def NU:ISs:=.cons (.expr (.call 3 (.var 2) .nil)) NT
def ZnR:ISs:=.cons .never .nil
def NV:ISs:=.cons (.ite (.cmp .Gt (.bi .len (.var 2) .nil) (.glb "MOST_FERRIES" 6)) ZnR .nil) NU
def ZnS:ISs:=.cons .never .nil
def NW:ISs:=.cons (.ite (.cmp .Gt (.bi .len (.var 1) .nil) (.glb "MOST_ISLANDS" 5)) ZnS .nil) NV
def ZnT:ISs:=.cons .never .nil
def NX:ISs:=.cons (.ite (.not (.call 1 (.var 0) .nil)) ZnT .nil) NW
abbrev FJ:ISs:=NX
def NY:GI:={bl:=GB,gl:=GL,fns:=["frozen","is_width","refuse_ferry","refuse_ferry_names","refuse_islands","refuse_wrong_ends"],mts:=[],mks:=[],cls:=GC}
theorem _o7:chkSs NY (X5 AJ) ["width","islands","ferries","island_names","ferry"] FJ (Xe AJ)=true:=by decide+kernel
def Zdz:ISs:=.cons .never .nil
def NZ:ISs:=.cons (.ret (.var 2)) .nil
def O0:ISs:=.cons (.ite (.cmp .Eq (.ix (.var 2) (.int 0)) (.var 1)) NZ .nil) .nil
def O1:ISs:=.cons (.for_ (.nm 2) (.seq (.var 0)) O0) Zdz
abbrev FK:ISs:=O1
def O2:GI:={bl:=GB,gl:=GL,fns:=[],mts:=[],mks:=[],cls:=GC}
theorem _dH:chkSs O2 (X5 AK) ["row","name","one"] FK (Xe AK)=true:=by decide+kernel
noncomputable def O3:ISs:=.cons (.ret (.call 0 (.ix (.var 0) (.int 1)) (.cons (.var 1) .nil))) .nil
abbrev FL:ISs:=O3
def O4:GI:={bl:=GB,gl:=GL,fns:=["one_called"],mts:=[],mks:=[],cls:=GC}
theorem _eU:chkSs O4 (X5 AL) ["world","name"] FL (Xe AL)=true:=by decide+kernel
noncomputable def O5:ISs:=.cons (.ret (.tup (.cons (.str "wait") (.cons (.ix (.var 0) (.int 1)) .nil)))) .nil
def O6:ISs:=.cons (.ret (.tup (.cons (.str "own") .nil))) .nil
def O7:ISs:=.cons (.ite (.cmp .Eq (.ix (.var 0) (.int 0)) (.str "own")) O6 .nil) O5
def O8:ISs:=.cons (.ret (.tup (.cons (.str "done") .nil))) .nil
def O9:ISs:=.cons (.ite (.cmp .Is (.var 0) .non) O8 .nil) O7
abbrev FM:ISs:=O9
def Oa:GI:={bl:=GB,gl:=GL,fns:=[],mts:=[],mks:=[],cls:=GC}
theorem _dG:chkSs Oa (X5 AM) ["asked"] FM (Xe AM)=true:=by decide+kernel
noncomputable def Ob:ISs:=.cons (.ret (.and (.cmp .IsNot (.var 0) .non) (.and (.cmp .NotEq (.ix (.var 0) (.int 0)) (.str "own")) (.cmp .Eq (.ix (.var 0) (.int 1)) (.var 1))))) .nil
abbrev FN:ISs:=Ob
def Oc:GI:={bl:=GB,gl:=GL,fns:=[],mts:=[],mks:=[],cls:=GC}
theorem _dJ:chkSs Oc (X5 AN) ["asked","ferry_name"] FN (Xe AN)=true:=by decide+kernel
def Od:ISs:=.cons (.ret (.ix (.var 0) (.var 1))) .nil
def Oe:ISs:=.cons (.expr (.call 0 (.var 1) (.cons (.var 0) .nil))) Od
abbrev FO:ISs:=Oe
def Of:GI:={bl:=GB,gl:=GL,fns:=["refuse_unknown"],mts:=[],mks:=[],cls:=GC}
theorem _eT:chkSs Of (X5 AO) ["named","name"] FO (Xe AO)=true:=by decide+kernel
noncomputable def Og:ISs:=.cons (.fset "Run" (.var 0) "taken_so_far" (.bi .dictL (.comp ["ferry"] [] (.seq (.ix (.var 1) (.int 2))) (.nm 0) .none (.tup (.cons (.ix (.var 0) (.int 0)) (.cons (.lst .nil) .nil)))) .nil)) .nil
def Oh:ISs:=.cons (.fset "Run" (.var 0) "given_so_far" (.bi .dictL (.comp ["ferry"] [] (.seq (.ix (.var 1) (.int 2))) (.nm 0) .none (.tup (.cons (.ix (.var 0) (.int 0)) (.cons (.lst .nil) .nil)))) .nil)) Og
def Oi:ISs:=.cons (.fset "Run" (.var 0) "boats" (.bi .dictL (.comp ["ferry"] [] (.seq (.ix (.var 1) (.int 2))) (.nm 0) .none (.tup (.cons (.ix (.var 0) (.int 0)) (.cons (.make 0 "Ferry" (.ix (.var 0) (.int 3)) (.cons (.ix (.var 0) (.int 4)) .nil)) .nil)))) .nil)) Oh
def Oj:ISs:=.cons (.fset "Run" (.var 0) "steps_so_far" (.bi .dictL (.comp ["island"] [] (.seq (.ix (.var 1) (.int 1))) (.nm 0) .none (.tup (.cons (.ix (.var 0) (.int 0)) (.cons (.int 0) .nil)))) .nil)) Oi
def Ol:ISs:=.cons (.fset "Run" (.var 0) "words_now" (.bi .dictL (.comp ["island"] [] (.seq (.ix (.var 1) (.int 1))) (.nm 0) .none (.tup (.cons (.ix (.var 0) (.int 0)) (.cons (.bi .dict (.ix (.var 0) (.int 1)) .nil) .nil)))) .nil)) Oj
def Om:ISs:=.cons (.fset "Run" (.var 0) "next_numbers" (.bi .dictL (.comp ["island"] [] (.seq (.ix (.var 1) (.int 1))) (.nm 0) .none (.tup (.cons (.ix (.var 0) (.int 0)) (.cons (.int 0) .nil)))) .nil)) Ol
def On:ISs:=.cons (.fset "Run" (.var 0) "moment" (.int 0)) Om
def Oo:ISs:=.cons (.fset "Run" (.var 0) "world" (.var 1)) On
abbrev FP:ISs:=Oo
def Op:GI:={bl:=GB,gl:=GL,fns:=[],mts:=[],mks:=[(0,"Ferry")],cls:=GC}
theorem _bG:chkSs Op (X5 Ul) ["self","world"] FP (Xe Ul)=true:=by decide+kernel
noncomputable def B6:ISs:=.cons (.ret (.tup (.cons (.var 1) (.cons (.var 4) (.cons (.var 6) (.cons (.var 7) .nil)))))) .nil
noncomputable def B7:ISs:=.cons (.expr (.mcall 4 "Run" "go_on" (.var 0) (.cons (.var 1) (.cons (.var 3) (.cons (.ife (.cmp .Eq (.ix (.var 6) (.int 0)) (.str "take")) (.ix (.var 6) (.int 2)) .non) .nil))))) .nil
def Oq:ISs:=.cons (.ite (.cmp .NotIn (.ix (.var 6) (.int 0)) (.tup (.cons (.str "done") (.cons (.str "wait") .nil)))) B7 .nil) B6
def Os:ISs:=.cons (.fset "Run" (.var 0) "moment" (.bin .Add (.fld "Run" (.var 0) "moment") (.int 1))) Oq
def FQ:ISs:=.cons (.set 6 (.ix (.var 10) (.int 0))) .nil
def Ot:ISs:=.cons (.ite (.cmp .IsNot (.ix (.var 10) (.int 0)) .non) FQ .nil) .nil
def Ou:ISs:=.cons (.expr (.mt .append (.var 7) (.cons (.tup (.cons (.ix (.var 9) (.int 0)) (.cons (.ix (.var 10) (.int 1)) .nil))) .nil))) Ot
def Ov:ISs:=.cons (.set 10 (.mcall 5 "Run" "ring_ferry" (.var 0) (.cons (.var 9) (.cons (.var 1) (.cons (.bin .FloorDiv (.var 2) (.call 1 (.bin .Mult (.glb "BITS_A_FERRY" 8) (.var 8)) .nil)) (.cons (.var 5) .nil)))))) Ou
def Ow:ISs:=.cons (.ite (.cmp .In (.var 1) (.tup (.cons (.ix (.var 9) (.int 1)) (.cons (.ix (.var 9) (.int 2)) .nil)))) Ov .nil) .nil
def Ox:ISs:=.cons (.set 9 (.ix (.ix (.fld "Run" (.var 0) "world") (.int 2)) (.var 8))) Ow
def Oy:ISs:=.cons (.for_ (.nm 8) (.rng (.bi .len (.ix (.fld "Run" (.var 0) "world") (.int 2)) .nil)) Ox) Os
def Oz:ISs:=.cons (.set 7 (.lst .nil)) Oy
def OA:ISs:=.cons (.set 6 (.call 2 (.var 5) .nil)) Oz
def OB:ISs:=.cons (.set 5 (.call 3 (.ix (.fld "Run" (.var 0) "world") (.int 0)) (.cons (.var 3) (.cons (.var 4) (.cons (.ix (.fld "Run" (.var 0) "words_now") (.var 1)) .nil))))) OA
def OC:ISs:=.cons (.set 4 (.ix (.fld "Run" (.var 0) "next_numbers") (.var 1))) OB
def OD:ISs:=.cons (.set 3 (.ix (.call 0 (.fld "Run" (.var 0) "world") (.cons (.var 1) .nil)) (.int 2))) OC
abbrev FR:ISs:=OD
def OE:GI:={bl:=GB,gl:=GL,fns:=["island_of","two_to","what_alone","wish"],mts:=[(4,"Run","go_on"),(5,"Run","ring_ferry")],mks:=[],cls:=GC}
theorem _g7:chkSs OE (X5 Um) ["self","name","choice","steps","number","asked","what","samples","j","ferry","told"] FR (Xe Um)=true:=by decide+kernel
noncomputable def OF:ISs:=.cons (.ret (.tup (.cons (.tup (.cons (.str "take") (.cons (.ix (.var 1) (.int 0)) (.cons (.ix (.var 7) (.int 0)) .nil)))) (.cons (.ix (.var 7) (.int 1)) .nil)))) .nil
def OG:ISs:=.cons (.expr (.mt .append (.ix (.fld "Run" (.var 0) "taken_so_far") (.ix (.var 1) (.int 0))) (.cons (.ix (.var 7) (.int 0)) .nil))) OF
def OH:ISs:=.cons (.ret (.var 7)) .nil
def OI:ISs:=.cons (.ite (.cmp .Is (.ix (.var 7) (.int 0)) .non) OH .nil) OG
def FS:ISs:=.cons (.set 7 (.mcall 2 "Ferry" "ring_taker" (.var 5) (.cons (.fld "Run" (.var 0) "moment") (.cons (.var 3) (.cons (.var 6) .nil))))) OI
noncomputable def OJ:ISs:=.cons (.ret (.tup (.cons (.var 4) (.cons (.ix (.var 7) (.int 1)) .nil)))) .nil
def OK:ISs:=.cons (.expr (.mt .append (.ix (.fld "Run" (.var 0) "given_so_far") (.ix (.var 1) (.int 0))) (.cons (.ix (.var 4) (.int 2)) .nil))) OJ
noncomputable def OL:ISs:=.cons (.ret (.tup (.cons .non (.cons (.ix (.var 7) (.int 1)) .nil)))) .nil
def FT:ISs:=.cons (.ite (.not (.ix (.var 7) (.int 0))) OL .nil) OK
def OM:ISs:=.cons (.set 7 (.mcall 1 "Ferry" "ring_giver" (.var 5) (.cons (.fld "Run" (.var 0) "moment") (.cons (.var 3) (.cons (.ife (.var 6) (.ix (.var 4) (.int 2)) .non) .nil))))) FT
def ON:ISs:=.cons (.ite (.cmp .Eq (.ix (.var 1) (.int 1)) (.var 2)) OM .nil) FS
def OO:ISs:=.cons (.set 6 (.call 0 (.var 4) (.cons (.ix (.var 1) (.int 0)) .nil))) ON
def OP:ISs:=.cons (.set 5 (.ix (.fld "Run" (.var 0) "boats") (.ix (.var 1) (.int 0)))) OO
abbrev FU:ISs:=OP
def OQ:GI:={bl:=GB,gl:=GL,fns:=["is_wish_of"],mts:=[(1,"Ferry","ring_giver"),(2,"Ferry","ring_taker")],mks:=[],cls:=GC}
theorem _9f:chkSs OQ (X5 Uo) ["self","ferry","name","choice","asked","boat","wished","told"] FU (Xe Uo)=true:=by decide+kernel
noncomputable def OR:ISs:=.cons (.put (.fld "Run" (.var 0) "steps_so_far") (.var 1) (.bin .Add (.ix (.fld "Run" (.var 0) "steps_so_far") (.var 1)) (.int 1))) .nil
def OS:ISs:=.cons (.put (.fld "Run" (.var 0) "words_now") (.var 1) (.ix (.var 4) (.int 1))) OR
def OT:ISs:=.cons (.put (.fld "Run" (.var 0) "next_numbers") (.var 1) (.ix (.var 4) (.int 0))) OS
def OU:ISs:=.cons (.set 4 (.call 0 (.ix (.fld "Run" (.var 0) "world") (.int 0)) (.cons (.var 2) (.cons (.ix (.fld "Run" (.var 0) "next_numbers") (.var 1)) (.cons (.ix (.fld "Run" (.var 0) "words_now") (.var 1)) (.cons (.var 3) .nil)))))) OT
abbrev FV:ISs:=OU
def OV:GI:={bl:=GB,gl:=GL,fns:=["after"],mts:=[],mks:=[],cls:=GC}
theorem _f1:chkSs OV (X5 Up) ["self","name","steps","word","went"] FV (Xe Up)=true:=by decide+kernel
noncomputable def OW:ISs:=.cons (.ret (.bi .list (.call 0 (.fld "Run" (.var 0) "given_so_far") (.cons (.var 1) .nil)) .nil)) .nil
abbrev FW:ISs:=OW
def OX:GI:={bl:=GB,gl:=GL,fns:=["looked_up"],mts:=[],mks:=[],cls:=GC}
theorem _f2:chkSs OX (X5 Uq) ["self","name"] FW (Xe Uq)=true:=by decide+kernel
noncomputable def OY:ISs:=.cons (.ret (.bi .list (.call 0 (.fld "Run" (.var 0) "taken_so_far") (.cons (.var 1) .nil)) .nil)) .nil
abbrev FX:ISs:=OY
def OZ:GI:={bl:=GB,gl:=GL,fns:=["looked_up"],mts:=[],mks:=[],cls:=GC}
theorem _f0:chkSs OZ (X5 Ur) ["self","name"] FX (Xe Ur)=true:=by decide+kernel
def P0:ISs:=.cons (.ret (.int 0)) .nil
def P1:ISs:=.cons (.ret (.ix (.var 0) (.var 1))) .nil
def P2:ISs:=.cons (.ite (.cmp .Lt (.var 1) (.bi .len (.var 0) .nil)) P1 .nil) P0
abbrev FY:ISs:=P2
def P3:GI:={bl:=GB,gl:=GL,fns:=[],mts:=[],mks:=[],cls:=GC}
theorem _bF:chkSs P3 (X5 AQ) ["script","k"] FY (Xe AQ)=true:=by decide+kernel
noncomputable def P4:ISs:=.cons (.ret (.and (.bi .isinst (.var 0) (.cons (.ty .int) .nil)) (.not (.bi .isinst (.var 0) (.cons (.ty .bool) .nil))))) .nil
abbrev FZ:ISs:=P4
def P5:GI:={bl:=GB,gl:=GL,fns:=[],mts:=[],mks:=[],cls:=GC}
theorem _dL:chkSs P5 (X5 AR) ["found"] FZ (Xe AR)=true:=by decide+kernel
noncomputable def P6:ISs:=.cons (.ret (.bin .Add (.bin .Add (.bin .Mult (.ix (.var 2) (.var 3)) (.var 6)) (.var 7)) (.bin .Mult (.ix (.var 2) (.var 3)) (.bin .Sub (.bin .Sub (.var 5) (.int 1)) (.var 6))))) .nil
def P7:ISs:=.cons (.set 7 (.ix (.var 2) (.bin .Mod (.bin .Add (.bin .FloorDiv (.var 0) (.int 4992)) (.bin .Mult (.int 7) (.var 1))) (.int 26)))) P6
def P8:ISs:=.cons (.set 6 (.bin .Mod (.bin .Mod (.bin .FloorDiv (.var 0) (.int 24)) (.int 8)) (.var 5))) P7
def P9:ISs:=.cons (.set 5 (.bin .Add (.int 1) (.bin .Mod (.bin .FloorDiv (.var 0) (.int 3)) (.int 8)))) P8
noncomputable def Pa:ISs:=.cons (.ret (.bin .Add (.bin .Mult (.ix (.var 2) (.var 3)) (.bin .Add (.int 1) (.bin .Mod (.bin .Add (.bin .Mult (.int 3) (.var 1)) (.bin .FloorDiv (.var 0) (.int 192))) (.int 7)))) (.bin .Mult (.var 4) (.bin .FloorDiv (.var 1) (.int 7))))) .nil
def Pb:ISs:=.cons (.set 4 (.ix (.var 2) (.bin .Mod (.bin .Add (.bin .Add (.var 3) (.int 1)) (.bin .Mod (.bin .FloorDiv (.var 0) (.int 4992)) (.int 25))) (.int 26)))) Pa
def Pc:ISs:=.cons (.ite (.cmp .Eq (.bin .Mod (.var 0) (.int 3)) (.int 2)) Pb .nil) P9
def Pd:ISs:=.cons (.set 3 (.bin .Mod (.bin .FloorDiv (.var 0) (.int 192)) (.int 26))) Pc
def Pe:ISs:=.cons (.set 2 (.str "abcdefghijklmnopqrstuvwxyz")) Pd
abbrev G0:ISs:=Pe
def Pf:GI:={bl:=GB,gl:=GL,fns:=[],mts:=[],mks:=[],cls:=GC}
theorem _eY:chkSs Pf (X5 AS) ["number","k","letters","fill","other","long","at","sign"] G0 (Xe AS)=true:=by decide+kernel
noncomputable def Pg:ISs:=.cons (.ret (.tup (.cons (.str "plus") (.cons (.var 2) (.cons (.tup (.cons (.str "var") (.cons (.ix (.var 1) (.bin .Mod (.bin .FloorDiv (.var 0) (.int 224)) (.int 2))) .nil))) .nil))))) .nil
noncomputable def Ph:ISs:=.cons (.ret (.tup (.cons (.str "pick") (.cons (.tup (.cons (.str "less") (.cons (.var 2) (.cons (.var 3) .nil)))) (.cons (.var 3) (.cons (.var 2) .nil)))))) .nil
def Pi:ISs:=.cons (.ite (.cmp .Eq (.bin .Mod (.var 0) (.int 8)) (.int 5)) Ph .nil) Pg
noncomputable def Pj:ISs:=.cons (.ret (.tup (.cons (.ix (.lst (.cons (.str "plus") (.cons (.str "minus") (.cons (.str "times") .nil)))) (.bin .Sub (.bin .Mod (.var 0) (.int 8)) (.int 2))) (.cons (.var 2) (.cons (.var 3) .nil))))) .nil
def Pk:ISs:=.cons (.ite (.cmp .Lt (.bin .Mod (.var 0) (.int 8)) (.int 5)) Pj .nil) Pi
noncomputable def Pl:ISs:=.cons (.ret (.ix (.lst (.cons (.var 2) (.cons (.var 3) .nil))) (.bin .Mod (.var 0) (.int 2)))) .nil
def Pn:ISs:=.cons (.ite (.cmp .Lt (.bin .Mod (.var 0) (.int 8)) (.int 2)) Pl .nil) Pk
def Po:ISs:=.cons (.set 3 (.tup (.cons (.str "num") (.cons (.ix (.lst (.cons (.bin .Sub (.bin .Mod (.bin .FloorDiv (.var 0) (.int 16)) (.int 7)) (.int 3)) (.cons (.bin .Mod (.bin .Mult (.bin .FloorDiv (.var 0) (.int 16)) (.int 1000000007)) (.bin .Pow (.int 10) (.int 20))) .nil))) (.bin .Mod (.bin .FloorDiv (.var 0) (.int 112)) (.int 2))) .nil)))) Pn
def Pp:ISs:=.cons (.set 2 (.tup (.cons (.str "var") (.cons (.ix (.var 1) (.bin .Mod (.bin .FloorDiv (.var 0) (.int 8)) (.int 2))) .nil)))) Po
abbrev G1:ISs:=Pp
def Pq:GI:={bl:=GB,gl:=GL,fns:=[],mts:=[],mks:=[],cls:=GC}
theorem _eW:chkSs Pq (X5 AT) ["number","names","one","other"] G1 (Xe AT)=true:=by decide+kernel
noncomputable def Pr:ISs:=.cons (.ret (.tup (.cons (.str "put") (.cons (.ix (.var 2) (.bin .Mod (.bin .FloorDiv (.var 0) (.int 8)) (.int 2))) (.cons (.call 0 (.var 7) (.cons (.var 2) .nil)) .nil))))) .nil
noncomputable def Ps:ISs:=.cons (.ret (.tup (.cons (.str "jump") (.cons (.call 0 (.var 7) (.cons (.var 2) .nil)) (.cons (.bin .Mod (.bin .FloorDiv (.var 0) (.int 8)) (.bin .Add (.var 4) (.int 1))) .nil))))) .nil
def G2:ISs:=.cons (.ite (.cmp .Eq (.bin .Mod (.var 0) (.int 8)) (.int 7)) Ps .nil) Pr
noncomputable def Pt:ISs:=.cons (.ret (.tup (.cons (.str "give") (.cons (.ix (.var 6) (.bin .Mod (.bin .FloorDiv (.var 0) (.int 8)) (.bi .len (.var 6) .nil))) (.cons (.call 0 (.var 7) (.cons (.var 2) .nil)) .nil))))) .nil
def G3:ISs:=.cons (.ite (.and (.cmp .Lt (.bin .Mod (.var 0) (.int 8)) (.int 6)) (.cmp .NotEq (.var 6) (.lst .nil))) Pt .nil) G2
noncomputable def Pu:ISs:=.cons (.ret (.tup (.cons (.str "take") (.cons (.ix (.var 5) (.bin .Mod (.bin .FloorDiv (.var 0) (.int 8)) (.bi .len (.var 5) .nil))) (.cons (.ix (.var 2) (.bin .Mod (.var 7) (.int 2))) .nil))))) .nil
def Pv:ISs:=.cons (.ite (.and (.cmp .Lt (.bin .Mod (.var 0) (.int 8)) (.int 3)) (.cmp .NotEq (.var 5) (.lst .nil))) Pu .nil) G3
def Pw:ISs:=.cons (.set 7 (.bin .FloorDiv (.var 0) (.int 128))) Pv
def Px:ISs:=.cons (.set 6 (.comp ["ferry"] [1] (.seq (.var 3)) (.nm 0) (.some (.cmp .Eq (.ix (.var 0) (.int 1)) (.var 1))) (.ix (.var 0) (.int 0)))) Pw
def Py:ISs:=.cons (.set 5 (.comp ["ferry"] [1] (.seq (.var 3)) (.nm 0) (.some (.cmp .Eq (.ix (.var 0) (.int 2)) (.var 1))) (.ix (.var 0) (.int 0)))) Px
abbrev G4:ISs:=Py
def Pz:GI:={bl:=GB,gl:=GL,fns:=["_law_term"],mts:=[],mks:=[],cls:=GC}
theorem _eX:chkSs Pz (X5 AU) ["number","name","names","ferries","many","takes","gives","rest"] G4 (Xe AU)=true:=by decide+kernel
noncomputable def G5:ISs:=.cons (.ret (.tup (.cons (.var 5) (.cons (.var 7) (.cons (.var 10) .nil))))) .nil
noncomputable def PB:ISs:=.cons (.expr (.mt .append (.var 10) (.cons (.tup (.cons (.str "jump") (.cons (.tup (.cons (.str "num") (.cons (.int 1) .nil))) (.cons (.int 0) .nil)))) .nil))) .nil
def PC:ISs:=.cons (.ite (.cmp .Eq (.var 9) (.int 1)) PB .nil) G5
noncomputable def PD:ISs:=.cons (.set 0 (.bin .FloorDiv (.var 0) (.bin .Pow (.int 10) (.int 8)))) .nil
def PF:ISs:=.cons (.expr (.mt .append (.var 10) (.cons (.call 1 (.bin .Mod (.var 0) (.bin .Pow (.int 10) (.int 8))) (.cons (.var 5) (.cons (.var 6) (.cons (.var 3) (.cons (.bin .Add (.var 8) (.var 9)) .nil))))) .nil))) PD
def PH:ISs:=.cons (.for_ (.nm 11) (.rng (.var 8)) PF) PC
def PJ:ISs:=.cons (.set 10 (.lst .nil)) PH
def PK:ISs:=.cons (.set 0 (.bin .FloorDiv (.var 0) (.int 112))) PJ
def PL:ISs:=.cons (.set 9 (.bi .int (.cmp .Lt (.bin .Mod (.bin .FloorDiv (.var 0) (.int 28)) (.int 4)) (.var 4)) .nil)) PK
def PM:ISs:=.cons (.set 8 (.bin .Mod (.bin .FloorDiv (.var 0) (.int 4)) (.int 7))) PL
def PN:ISs:=.cons (.set 7 (.lst (.cons (.tup (.cons (.ix (.var 6) (.int 0)) (.cons (.bin .Mod (.var 0) (.int 2)) .nil))) (.cons (.tup (.cons (.ix (.var 6) (.int 1)) (.cons (.bin .Mod (.bin .FloorDiv (.var 0) (.int 2)) (.int 2)) .nil))) .nil)))) PM
def PP:ISs:=.cons (.set 6 (.lst (.cons (.call 0 (.var 2) (.cons (.int 9) .nil)) (.cons (.call 0 (.var 2) (.cons (.int 10) .nil)) .nil)))) PN
def PQ:ISs:=.cons (.set 5 (.call 0 (.var 2) (.cons (.var 1) .nil))) PP
abbrev G6:ISs:=PQ
def PR:GI:={bl:=GB,gl:=GL,fns:=["_law_name","_law_step"],mts:=[],mks:=[],cls:=GC}
theorem _cp:chkSs PR (X5 AV) ["number","k","naming","ferries","around","name","names","pairs","many","ending","steps","j"] G6 (Xe AV)=true:=by decide+kernel
noncomputable def PU:ISs:=.cons (.ret (.tup (.cons (.var 4) (.cons (.var 12) (.cons (.var 6) .nil))))) .nil
noncomputable def PV:ISs:=.cons (.expr (.mt .append (.var 12) (.cons (.call 1 (.bin .Mod (.call 0 (.var 0) (.cons (.bin .Add (.int 6) (.var 7)) .nil)) (.bin .Pow (.int 10) (.int 60))) (.cons (.var 7) (.cons (.var 3) (.cons (.var 6) (.cons (.var 1) .nil))))) .nil))) .nil
def PX:ISs:=.cons (.for_ (.nm 7) (.rng (.var 5)) PV) PU
def PY:ISs:=.cons (.set 12 (.lst .nil)) PX
noncomputable def PZ:ISs:=.cons (.expr (.mt .append (.var 6) (.cons (.tup (.cons (.call 2 (.var 3) (.cons (.bin .Add (.int 5) (.var 7)) .nil)) (.cons (.ix (.var 11) (.int 0)) (.cons (.ix (.var 11) (.int 1)) (.cons (.bin .Mod (.bin .FloorDiv (.var 8) (.int 20)) (.int 4)) (.cons (.bin .Add (.int 1) (.bin .Mod (.bin .FloorDiv (.var 8) (.int 80)) (.int 3))) .nil)))))) .nil))) .nil
def Q0:ISs:=.cons (.set 11 (.tup (.cons (.call 2 (.var 3) (.cons (.var 9) .nil)) (.cons (.call 2 (.var 3) (.cons (.var 10) .nil)) .nil)))) PZ
def Q1:ISs:=.cons (.set 10 (.bin .Mod (.bin .Add (.bin .Add (.var 9) (.int 1)) (.bin .Mod (.bin .FloorDiv (.var 8) (.int 5)) (.bin .Sub (.var 5) (.int 1)))) (.var 5))) Q0
def Q2:ISs:=.cons (.set 9 (.bin .Mod (.var 8) (.var 5))) Q1
def Q3:ISs:=.cons (.set 8 (.bin .FloorDiv (.bin .Mod (.call 0 (.var 0) (.cons (.bin .Add (.int 2) (.bin .Mod (.var 7) (.int 4))) .nil)) (.bin .Pow (.int 10) (.int 15))) (.ix (.lst (.cons (.int 1) (.cons (.int 1000000) .nil))) (.bin .FloorDiv (.var 7) (.int 4))))) Q2
def Q4:ISs:=.cons (.for_ (.nm 7) (.rng (.bi .min (.bin .Sub (.bin .Mult (.int 6) (.var 5)) (.int 6)) (.cons (.bin .Mod (.bin .FloorDiv (.var 2) (.int 2048)) (.int 7)) .nil))) Q3) PY
def Q5:ISs:=.cons (.set 6 (.lst .nil)) Q4
def Q6:ISs:=.cons (.set 5 (.bin .Add (.int 1) (.bin .Mod (.var 2) (.int 5)))) Q5
def Q7:ISs:=.cons (.set 4 (.ix (.lst (.cons (.bin .Add (.int 1) (.bin .Mod (.bin .FloorDiv (.var 2) (.int 16)) (.int 64))) (.cons (.bin .Add (.int 1) (.bin .Mod (.bin .FloorDiv (.var 2) (.int 16)) (.int 5))) .nil))) (.bin .Mod (.bin .FloorDiv (.var 2) (.int 1024)) (.int 2)))) Q6
def Q8:ISs:=.cons (.set 3 (.bin .Mod (.call 0 (.var 0) (.cons (.int 1) .nil)) (.bin .Pow (.int 10) (.int 9)))) Q7
def Q9:ISs:=.cons (.set 2 (.bin .Mod (.call 0 (.var 0) (.cons (.int 0) .nil)) (.bin .Pow (.int 10) (.int 9)))) Q8
abbrev G7:ISs:=Q9
def Qa:GI:={bl:=GB,gl:=GL,fns:=["_law_cell_at","_law_island","_law_name"],mts:=[],mks:=[],cls:=GC}
theorem _co:chkSs Qa (X5 AW) ["script","around","head","naming","width","many","ferries","k","number","giver","taker","ends","islands"] G7 (Xe AW)=true:=by decide+kernel
def Qb:ISs:=.cons (.ret (.var 2)) .nil
noncomputable def Qc:ISs:=.cons (.expr (.mt .append (.var 2) (.cons (.tup (.cons (.ix (.ix (.var 1) (.bin .Mod (.var 3) (.bi .len (.var 1) .nil))) (.int 0)) (.cons (.bin .Mod (.bin .FloorDiv (.var 3) (.bi .len (.var 1) .nil)) (.bin .Pow (.int 10) (.int 30))) .nil))) .nil))) .nil
def Qd:ISs:=.cons (.for_ (.nm 3) (.seq (.var 0)) Qc) Qb
def Qe:ISs:=.cons (.set 2 (.lst .nil)) Qd
abbrev G8:ISs:=Qe
def Qf:GI:={bl:=GB,gl:=GL,fns:=[],mts:=[],mks:=[],cls:=GC}
theorem _dM:chkSs Qf (X5 AX) ["cells","islands","rings","cell"] G8 (Xe AX)=true:=by decide+kernel
def Qg:ISs:=.cons (.ret (.bl true)) .nil
def ZnU:ISs:=.cons (.ret (.bl false)) .nil
def Qh:ISs:=.cons (.ite (.cmp .NotEq (.comp ["word"] [1] (.seq (.var 8)) (.nm 0) (.some (.or (.not (.call 2 (.var 0) .nil)) (.or (.cmp .Lt (.var 0) (.int 0)) (.cmp .GtE (.var 0) (.bin .LShift (.int 1) (.var 1)))))) (.var 0)) (.lst .nil)) ZnU .nil) .nil
def Zqe:ISs:=.cons (.ret (.bl false)) .nil
def Qi:ISs:=.cons (.ite (.or (.cmp .NotEq (.sl (.var 8) .none (.some (.bi .len (.var 9) .nil))) (.var 9)) (.cmp .Gt (.bin .Sub (.bi .len (.var 8) .nil) (.bi .len (.var 9) .nil)) (.bin .LShift (.int 1) (.ix (.var 7) (.int 3))))) Zqe .nil) Qh
def Qj:ISs:=.cons (.set 9 (.mcall 7 "Run" "taken" (.var 4) (.cons (.ix (.var 7) (.int 0)) .nil))) Qi
def Qk:ISs:=.cons (.set 8 (.mcall 5 "Run" "given" (.var 4) (.cons (.ix (.var 7) (.int 0)) .nil))) Qj
def Ql:ISs:=.cons (.for_ (.nm 7) (.seq (.var 3)) Qk) .nil
def Qm:ISs:=.cons (.expr (.mcall 6 "Run" "ring" (.var 4) (.cons (.var 5) (.cons (.var 6) .nil)))) Ql
def Qn:ISs:=.cons (.for_ (.tup (.cons (.nm 5) (.cons (.nm 6) .nil))) (.seq (.call 0 (.sl (.var 0) (.some (.int 10)) (.some (.int 90))) (.cons (.var 2) .nil))) Qm) Qg
def Qo:ISs:=.cons (.set 4 (.make 4 "Run" (.call 3 (.var 1) (.cons (.bi .list (.var 2) .nil) (.cons (.bi .list (.var 3) .nil) .nil))) .nil)) Qn
def Qp:ISs:=.cons (.asg (.cons (.nm 1) (.cons (.nm 2) (.cons (.nm 3) .nil))) (.call 1 (.var 0) (.cons (.int 3) .nil))) Qo
abbrev G9:ISs:=Qp
def Qq:GI:={bl:=GB,gl:=GL,fns:=["_law_rings","_law_things","_law_whole","made"],mts:=[(5,"Run","given"),(6,"Run","ring"),(7,"Run","taken")],mks:=[(4,"Run")],cls:=GC}
theorem _qn:chkSs Qq (X5 AY) ["script","width","islands","ferries","run","name","choice","ferry","given","taken"] G9 (Xe AY)=true:=by decide+kernel
theorem szl:sizeLine=16777216:=by decide
theorem na10:Int.natAbs 10=10:=rfl
theorem na1:Int.natAbs 1=1:=rfl
theorem at0{α:Type}{x:α}{xs:List α}:atI (x::xs) 0=some x:=by unfold atI ixN;simp
theorem at1{α:Type}{x y:α}{xs:List α}:atI (x::y::xs) 1=some y:=YE (j:=1) (by rfl)
theorem at2{α:Type}{x y z:α}{xs:List α}:atI (x::y::z::xs) 2=some z:=YE (j:=2) (by rfl)
theorem at3{α:Type}{x y z u:α}{xs:List α}:atI (x::y::z::u::xs) 3=some u:=YE (j:=3) (by rfl)
theorem at4{α:Type}{x y z u v:α}{xs:List α}:atI (x::y::z::u::v::xs) 4=some v:=YE (j:=4) (by rfl)
theorem Wf{a b:String}:(Yf a=Yf b)↔a=b:=by
 constructor
 ·intro h;rw[Str.ofString_eq_toList,Str.ofString_eq_toList]at h;have h1:a.toList.map Cl=b.toList.map Cl:=by
   have:=congrArg (λs:Str=>s.cps.toList) h
   simpa using this
  have inj:∀(xs ys:List Char),xs.map Cl=ys.map Cl->xs=ys:=by
   intro xs
   induction xs with
   |nil=>
    intro ys e;cases ys with
    |nil=>rfl
    |cons _ _=>cases e
   |cons x r ih=>
    intro ys e;cases ys with
    |nil=>cases e
    |cons y s=>
     rw[Xy,Xy]at e;injection e with e1 e2;rw[ih s e2,Char.toNat_inj.mp e1]
  exact String.toList_inj.mp (inj _ _ h1)
 ·intro h;rw[h]
theorem Y5{c A B:Prop} [Decidable c] (h1:c->A)(h2:¬c->B):if c then A else B:=by
 split
 ·exact h1 ‹_›
 ·exact h2 ‹_›
theorem _nZ{a:Str}{b:SpM}{R:SpM->Prop}:(∃f sp,(a=f/\b=sp)/\R sp)↔R b:=⟨fun⟨_,_,⟨_,e⟩,h⟩=>e▸h,λh=>⟨a,b,⟨rfl,rfl⟩,h⟩⟩
theorem isN0:UI .non=true:=rfl
theorem isN2{b:Int}:UI (.int b)=false:=rfl
theorem isN4{b:List MV}:UI (.tup b)=false:=rfl
local macro_rules|`(tactic|walk_at "s")=>do
 let a<-("seval szl na10 na1 Nat.zero_add Nat.reduceAdd Nat.zero_le at0 at1 at2 at3 at4 Wf _nZ X9 _qJ _oN _qH _qG _qM _qI _oL _oM _qK _qL _mA v_s b_0 f_s _rT _s0 _rV e_bl _rX _s2 e_ty _s6 _rY _rW _s4 _s5 _s7 e_or _s1 _rU _rZ e_ix e_sl _qj e_bi e_b2 e_mt _s3 _o1 _qi _qh _o0 _pM _pL _r1 _qY _r0 _qZ isN0 isN2 isN4 isTy _ry _r2 _rm _pe _rn _re _r9 _rw _qQ _pi _p1 _ph _p0 q_lt q_le _ro q_gt q_ge _ru _rl _rt _rj q_is _mK _p2 _pc _mJ _r4 _rk q_in _ri Ko Kq _mI Kr _rq _rp _r7 _oW _r8 _r6 _p5 _p8 _p6 _p7 _mH _rr _pb _qU _qS _qR _qT _oT _mF _mG _oU _pf _mL _mM _rx _rv _pg _rs _oZ _oY _rd _oX _mE _ra _r5 _oV _qX _qW _qV _rh _rg _rf _r3 _rb _rc _p4 _p3 _pd WM CMul CPow List.getElem?_cons_zero List.getElem?_cons_succ Option.some.injEq MV.int.injEq MV.bl.injEq MV.tup.injEq MV.ref.injEq MO.lst.injEq MO.dic.injEq MO.ins.injEq Prod.mk.injEq exists_eq_left' exists_eq_left exists_and_left true_and and_true false_and and_false true_or or_true false_or or_false reduceCtorEq ne_eq not_false_eq_true not_true_eq_false List.set_cons_zero List.set_cons_succ decide_eq_true_eq Bool.not_eq_true' decide_eq_false_iff_not if_true if_false Bool.false_eq_true reduceIte List.length_cons List.length_nil and_self String.reduceEq String.reduceNe Int.reduceLT Int.reduceLE Int.reducePow Int.reduceNeg Int.reduceToNat Int.reduceSub Int.reduceAdd Int.reduceMul Nat.reduceLT Nat.reducePow Nat.reduceLeDiff".splitOn " ").toArray.mapM λs=>`(Lean.Parser.Tactic.simpLemma|$(Lean.mkIdent s.toName):term)
 `(tactic|simp only[$[$a:simpLemma],*])
local macro_rules|`(tactic|simp!)=>`(tactic|walk_at "s")
local macro_rules|`(tactic|simp! [$l,*])=>`(tactic|repeat (first|walk_at "s"|simp only [$l,*]))
theorem _nY{α:Sort _}{p q:α->Prop}(h:∀a,p a->q a):(∃a,p a)->∃a,q a:=fun⟨a,x⟩=>⟨a,h a x⟩
theorem _lo{a b c:Prop}(h:b->c):a/\b->a/\c:=λx=>⟨x.1,h x.2⟩
theorem _jO{a b c d:Prop}(h:a->c)(g:b->d):a/\b->c/\d:=λx=>⟨h x.1,g x.2⟩
theorem _n3{a b c d:Prop}(h:a->c)(g:b->d):a\/b->c\/d:=λx=>x.elim (λy=>.inl (h y)) λy=>.inr (g y)
theorem _lq{α:Sort _}{p q:α->Prop}(h:∀a,p a->q a):(∀a,p a)->∀a,q a:=λx a=>h a (x a)
local macro_rules | `(tactic| walk_at "m") => `(tactic| (intro vs M Q Q' hq; repeat (first | exact hq _ _ | exact id | refine _nY fun _ => ?_ | refine _lo ?_ | refine _jO ?_ ?_ | refine _lq fun _ => ?_ | refine _n3 ?_ ?_)))
def SameM(M M':MH):Prop:=∀a o,M a=some o->M' a=some o
theorem SameM.refl(M:MH):SameM M M:=λ_ _ h=>h
theorem SameM.trans{M M1 M2:MH}(a:SameM M M1)(b:SameM M1 M2):SameM M M2:=λc o h=>b c o (a c o h)
theorem neM{M:MH}{a p:Addr}{o:MO}(h:M a=some o)(hp:M p=none):a≠p:=by intro e;subst e;rw[h]at hp;cases hp
theorem SameM.new{M:MH}{p:Addr}(h:M p=none)(o:MO):SameM M (updM M p o):=λa u e=>by rw[Xb (neM e h)];exact e
theorem SameM.free{M M':MH}(s:SameM M M'){p:Addr}(h:M' p=none):M p=none:=by
 cases e:M p with
 |none=>rfl
 |some o=>rw[s _ _ e]at h;cases h
theorem SameM.upd{M M':MH}(s:SameM M M'){p:Addr}(h:M p=none)(o:MO):SameM M (updM M' p o):=λa u e=>by rw[Xb (neM e h)];exact s a u e
theorem B8{lo:Int}{n i:Nat}{x:MV}(h:(Src.rng lo n).items[i]?=some x):i<n/\x=.int (lo+(i:Nat)):=by
 have hi:=(XO.mp h).1;rw[Src.items_len]at hi;refine⟨hi,?_⟩;have h':((Xr n).map λi=>MV.int (lo+(i:Nat)))[i]?=some x:=h;rw[Xq,Xc (by simpa using(show i<n from hi))]at h'
 simpa using h'.symm
theorem YQ{α:Type}{f:α->MV}{xs:List α}{i:Nat}{x:MV}(h:(xs.map f)[i]?=some x):∃hi:i<xs.length,x=f xs[i]:=by
 have hi:=(XO.mp h).1;rw[Xa]at hi;refine⟨hi,?_⟩;rw[Xq,Xc hi]at h;exact(Yb h).symm
theorem UL{Φ:List (Str×SpM)}(hm:∀p∈Φ,MonW p.2):∀(j:Nat) f sp,Φ[j]?=some (f,sp)->MonW sp:=λj f sp h=>hm (f,sp) (Xz h)
theorem _hz(xs:List MV)(k:Nat):cutM xs none (some (k:Int))=xs.take k:=by
 unfold cutM;rw[HT.sIx_none,HT.sIx_nat];simp
theorem _hA(xs:List MV)(k:Nat):cutM xs (some (k:Int)) none=xs.drop k:=by
 unfold cutM;rw[HT.sIx_none,HT.sIx_nat];by_cases h:k≤xs.length
 ·rw[DL h,Vw (by rw[Wt];exact Xg _)]
 ·rw[Nat.min_eq_right (by lia),Hf (Xg _),Hf (by lia)]
  simp
theorem CO{κ:Type} [DecidableEq κ] (k:κ)(v:MV)(j:κ):∀kvs:List (κ×MV),valM (putM kvs k v) j=if j=k then some v else valM kvs j
 |[]=>by
  unfold putM valM;by_cases e:k=j
  ·rw[if_pos e,if_pos e.symm]
  ·rw[if_neg e,if_neg (λz=>e z.symm)]
   rfl
 |(i,u)::r=>by
  unfold putM;by_cases e:i=k
  ·rw[if_pos e];subst e;unfold valM;by_cases f:i=j
   ·rw[if_pos f,if_pos f.symm]
   ·rw[if_neg f,if_neg (λz=>f z.symm),if_neg f]
  ·rw[if_neg e];unfold valM;by_cases f:i=j
   ·rw[if_pos f,if_neg (λz=>e (f.trans z)),if_pos f]
   ·rw[if_neg f,CO k v j r,if_neg f]
theorem _ju{Φ:List (Str×SpM)}{own:List Str}{fr:List Nat}{src:ISr}{tg:ITg}{test elt:IE}{σ:Sm}{M:MH}{Q:QM}{α:Type}(xs:List α)(f:α->MV)
  (hs:wSr Φ src σ M λS M1=>S.items=xs.map f/\xs.length<sizeLine/\S.okF M1/\M1=M)
  (ht:∀x∈xs,∀M',SameM M M'->wTg tg (f x) (sCm own fr σ) λσ2=>wE Φ test σ2 M' λv M2=>v=.bl false/\M2=M')
  (hΦ:∀(j:Nat) f sp,Φ[j]?=some (f,sp)->MonW sp) (q:∀D,M D=none->Q (.ref D) (updM M D (.lst []))):wE Φ (.comp own fr src tg (.some test) elt) σ M Q:=by
 rw[A5];refine mon_sr hΦ src (λS M1 ⟨h1,h2,h3,h4⟩=>?_) hs;subst h4;have hl:S.len=xs.length:=by rw[<- S.items_len,h1,Xa]
 refine⟨by rw[hl];exact h2,λD hD=>⟨λi ys M2=>M2=updM M1 D (.lst [])/\ys=[],⟨rfl,rfl⟩,?_,?_,?_⟩⟩
 ·rintro i ys M2 ⟨rfl,rfl⟩;refine⟨X9,YK _,?_⟩;cases S with
  |tup _=>trivial
  |rng _ _=>trivial
  |rst _ _ _=>trivial
  |dic _ _ _=>exact h3.elim
  |str _=>trivial
  |lst a zs=>exact SameM.new hD _ _ _ h3
 ·rintro i x ys M2 hx ⟨rfl,rfl⟩;rw[h1]at hx;obtain⟨hi,rfl⟩:=YQ hx;refine UJ tg (λσ2 h=>?_) (ht xs[i] (XV hi) _ (SameM.new hD (.lst [])));rw[wI];refine X7 hΦ test (λv M2 ⟨e1,e2⟩=>?_) h;subst e1 e2;exact⟨false,rfl,by rw[if_neg Xx];exact⟨rfl,rfl⟩⟩
 ·rintro ys M2 ⟨rfl,rfl⟩;rw[A6 h3];exact q D hD
inductive Form where|plus|minus|times|less|same
noncomputable def Form.str:Form->Str
 |.plus=>"plus"|.minus=>"minus"|.times=>"times"|.less=>"less"|.same=>"same"
inductive Tm where
 |num (n:Int)|var (x:Str)|two (f:Form) (a b:Tm)|pick (c a b:Tm)
noncomputable def Tm.depth:Tm->Nat
 |.num _=>1|.var _=>1|.two _ a b=>1+max a.depth b.depth|.pick c a b=>1+max c.depth (max a.depth b.depth)
noncomputable def Tm.size:Tm->Nat
 |.num _=>1|.var _=>1|.two _ a b=>1+(a.size+b.size)|.pick c a b=>1+(c.size+(a.size+b.size))
noncomputable def Tm.reads:Tm->List Str
 |.num _=>[]|.var x=>[x]|.two _ a b=>a.reads++b.reads|.pick c a b=>c.reads++(a.reads++b.reads)
noncomputable def twoV(w:Nat)(l r:Int):Form->Int
 |.plus=>(l+r)%2^w
 |.minus=>(l - r)%2^w
 |.times=>(l*r)%2^w
 |.less=>if l<r then 1 else 0
 |.same=>if l=r then 1 else 0
def Tm.val(ρ:Str->Int)(w:Nat):Tm->Int
 |.num n=>n%2^w
 |.var x=>ρ x
 |.two f a b=>twoV w (a.val ρ w) (b.val ρ w) f
 |.pick c a b=>if c.val ρ w≠0 then a.val ρ w else b.val ρ w
theorem B9(w:Nat):(0:Int)<2^w:=Int.pow_pos (by decide)
theorem Qr{w:Nat}(h:1≤w):(2:Int)≤2^w:=by
 obtain⟨k,rfl⟩:∃k,w=k+1:=⟨w - 1,by lia⟩
 rw[Int.pow_succ];have:=B9 k;lia
theorem Qs{w:Nat}(h:w≤64):(2:Int)^w≤2^64:=by
 have:=BW (n:=2) (by decide) h
 have e1:(2:Int)^w=((2^w:Nat):Int):=by rw[V7];rfl
 have e2:(2:Int)^64=((2^64:Nat):Int):=by decide
 rw[e1,e2];exact Int.ofNat_le.mpr this
theorem CP(x:Int)(w:Nat):0≤x%2^w/\x%2^w<2^w:=⟨ZC _ (Int.ne_of_gt (B9 w)),U6 _ (B9 w)⟩
theorem twoV_in{w:Nat}(hw:1≤w)(l r:Int)(f:Form):0≤twoV w l r f/\twoV w l r f<2^w:=by
 have:=Qr hw;cases f
 ·exact CP _ _
 ·exact CP _ _
 ·exact CP _ _
 ·unfold twoV;split<;>lia
 ·unfold twoV;split<;>lia
theorem Tm.val_in{ρ:Str->Int}{w:Nat}(hw:1≤w):∀{T:Tm},(∀x∈T.reads,0≤ρ x/\ρ x<2^w)->0≤T.val ρ w/\T.val ρ w<2^w
 |.num n,_=>CP _ _
 |.var x,h=>h x (by simp[Tm.reads])
 |.two f a b,_=>twoV_in hw _ _ f
 |.pick c a b,h=>by
  unfold Tm.val;split
  ·exact a.val_in hw λx hx=>h x (by simp[Tm.reads,hx])
  ·exact b.val_in hw λx hx=>h x (by simp[Tm.reads,hx])
theorem Tm.depth_pos:∀T:Tm,1≤T.depth
 |.num _=>Xg _
 |.var _=>Xg _
 |.two _ _ _=>Nat.le_add_right _ _
 |.pick _ _ _=>Nat.le_add_right _ _
noncomputable def Tm.mv:Tm->MV
 |.num n=>.tup [.str "num",.int n]
 |.var x=>.tup [.str "var",.str x]
 |.two f a b=>.tup [.str f.str,a.mv,b.mv]
 |.pick c a b=>.tup [.str "pick",c.mv,a.mv,b.mv]
theorem Qt(f:Form):¬f.str="num":=by cases f<;>decide+kernel
theorem Ga(f:Form):¬f.str="var":=by cases f<;>decide+kernel
theorem _ji(f:Form):¬f.str="pick":=by cases f<;>decide+kernel
inductive Stp where
 |take (f x:Str)|give (f:Str) (T:Tm)|put (x:Str) (T:Tm)|jump (T:Tm) (i:Int)
noncomputable def Stp.mv:Stp->MV
 |.take f x=>.tup [.str "take",.str f,.str x]
 |.give f T=>.tup [.str "give",.str f,T.mv]
 |.put x T=>.tup [.str "put",.str x,T.mv]
 |.jump T i=>.tup [.str "jump",T.mv,.int i]
def tmOk(ns:List Str)(T:Tm):Prop:=T.depth≤8/\T.size≤30/\∀x∈T.reads,x∈ns
def Stp.ok(ns:List Str)(n:Nat):Stp->Prop
 |.take _ x=>x∈ns
 |.give _ T=>tmOk ns T
 |.put x T=>x∈ns/\tmOk ns T
 |.jump T i=>tmOk ns T/\0≤i/\i≤n
def CQ(M:MH)(x:MV)(xs:List MV):Prop:=x=.tup xs\/∃a,x=.ref a/\M a=some (.lst xs)
def readsOk(ns:List Str)(kvs:List (Key×MV))(ρ:Str->Int)(w:Nat):Prop:=∀x∈ns,valM kvs (Xs x)=some (.int (ρ x))/\0≤ρ x/\ρ x<2^w
theorem readsOk.tm{ns:List Str}{kvs:List (Key×MV)}{ρ:Str->Int}{w:Nat}(h:readsOk ns kvs ρ w){T:Tm}(o:tmOk ns T):∀x∈T.reads,valM kvs (Xs x)=some (.int (ρ x))/\0≤ρ x/\ρ x<2^w:=λx hx=>h x (o.2.2 x hx)
section
variable{P:Xv}{w:Xm}{K:X4}{mg:Str->Option X0}{base:Heap}{t:Adr}
abbrev Zq:SpM:=λvs M Q=>∃k:Nat,vs=[.int k]/\k≤64/\Q (.int (2^k)) M
theorem CS:MonW Zq:=by walk_at "m"
theorem CT(T:Txt K mg t):FnOk P w K mg base CX0 1 t.cP t.dO ["exponent"] (liSp K Zq):=by
 refine T.aC.F.okM _id (fC (G:=KC) (Φ:=[]) T rfl nl0 nl0) EI _jw (λvs M Q h=>?_) (λvs M Q h=>?_)
 ·obtain⟨k,rfl,_⟩:=h;rfl
 obtain⟨k,rfl,hk,q⟩:=h;show wSs _ _ _ [some (.int k),none,none] M;delta EI KB;simp!;delta KA;simp!;refine⟨by lia,by lia,λi σ M'=>M'=M/\∃v,σ=[some (.int k),some (.int (2^i)),v],⟨rfl,_,rfl⟩,λ_ _ _ _=>trivial,?_,?_⟩
 ·rintro i x σ M' hx ⟨rfl,v,rfl⟩;obtain⟨hi,rfl⟩:=B8 hx;delta Kz;simp!;exact⟨_,by rw[Int.pow_succ]⟩
 ·rintro σ M' ⟨rfl,v,rfl⟩;delta Ky;simp!;exact q
abbrev CU:SpM:=λvs M Q=>∃(w:Nat) (n:Int),vs=[.int w,.int n]/\w≤64/\Q (.int (n%2^w)) M
theorem Qu:MonW CU:=by walk_at "m"
theorem Qv(T:Txt K mg t):FnOk P w K mg base CX0 2 t.cW t.fW ["width","number"] (liSp K CU):=by
 refine T.aA.F.okM _oK (fC (G:=KG) (Φ:=[("two_to",Zq)]) T rfl (fMc ⟨CS,nl0⟩) (fMc ⟨fE T.aC (CT T),nl0⟩)) EK _qo (fun vs M Q h=>?_) (fun vs M Q h=>?_)
 ·obtain⟨k,n,rfl,_⟩:=h;rfl
 obtain⟨w,n,rfl,hw,q⟩:=h;show wSs _ _ _ [some (.int w),some (.int n)] M;delta EK KF;simp!;exact⟨w,rfl,hw,B9 w,q⟩
abbrev Gb:SpM:=λvs M Q=>∃(f:Form) (l r:Int) (w:Nat),vs=[.str f.str,.int l,.int r,.int w]/\w≤64/\(-(2^64)<l/\l<2^64)/\Q (.int (twoV w l r f)) M
theorem _7N:MonW Gb:=by walk_at "m"
theorem _b0(T:Txt K mg t):FnOk P w K mg base CX0 3 t.cy t.gM ["form","left","right","width"] (liSp K Gb):=by
 refine T.aJ.F.okM _aN (fC (G:=Mh) (Φ:=[("cut",CU)]) T rfl (fMc ⟨Qu,nl0⟩) (fMc ⟨fE T.aA (Qv T),nl0⟩)) Fe _bB (fun vs M Q h=>?_) (fun vs M Q h=>?_)
 ·obtain⟨f,l,r,w,rfl,_⟩:=h;rfl
 obtain⟨f,l,r,w,rfl,hw,hl,q⟩:=h;show wSs _ _ _ [some (.str f.str),some (.int l),some (.int r),some (.int w)] M;delta Fe Mg;simp!;cases f with
 |plus=>
  rw[if_pos (by rfl),Mf]
  simp!;exact⟨w,_,rfl,hw,q⟩
 |minus=>
  rw[if_neg (by decide+kernel),AZ]
  simp!;rw[if_pos (by rfl),Me]
  simp!;exact⟨w,_,rfl,hw,q⟩
 |times=>
  rw[if_neg (by decide+kernel),AZ]
  simp!;rw[if_neg (by decide+kernel),CK]
  simp!;rw[if_pos (by rfl),Md]
  simp!;exact⟨.inl hl,w,_,rfl,hw,q⟩
 |less=>
  rw[if_neg (by decide+kernel),AZ]
  simp!;rw[if_neg (by decide+kernel),CK]
  simp!;rw[if_neg (by decide+kernel),Fd]
  simp!;rw[if_pos (by rfl),Mc]
  simp!;unfold twoV at q;split<;>simp_all
 |same=>
  rw[if_neg (by decide+kernel),AZ]
  simp!;rw[if_neg (by decide+kernel),CK]
  simp!;rw[if_neg (by decide+kernel),Fd]
  simp!;rw[if_neg (by decide+kernel),Mb]
  simp!;unfold twoV at q;split<;>simp_all
abbrev UM(n:Nat):SpM:=λvs M Q=>∃(T:Tm) (w:Nat) (d:Addr) (kvs:List (Key×MV)) (ρ:Str->Int),vs=[T.mv,.int w,.ref d]/\T.depth≤n/\1≤w/\w≤64/\M d=some (.dic kvs)/\
 (∀x∈T.reads,valM kvs (Xs x)=some (.int (ρ x))/\0≤ρ x/\ρ x<2^w)/\Q (.int (T.val ρ w)) M
theorem CV(n:Nat):MonW (UM n):=by walk_at "m"
theorem CW(T:Txt K mg t):∀n:Nat,FnOk P w K mg base CX0 (n+3) t.dB t.cV ["T","width","words"] (liSp K (UM n))
 |0=>by
  have no:∀vs M Q,¬UM 0 vs M Q:=λvs M Q h=>by
   obtain⟨T,w,d,kvs,ρ,_,h0,_⟩:=h;have:=T.depth_pos;lia
  exact⟨λvs H Q E ⟨ms,M,r,rh,h⟩=>absurd h (no _ _ _),λA outer s H args us vs Q E _ _ _ _ ⟨ms,M,r,rh,h⟩=>absurd h (no _ _ _)⟩
 |n+1=>by
  have ih:=CW T n;refine T.ae.F.okM _kg (fC (G:=Mo) (Φ:=[("cut",CU),("worth",(UM n)),("worth_of_two",Gb)]) T rfl (fMc ⟨Qu,(fMc ⟨(CV _),(fMc ⟨_7N,nl0⟩)⟩)⟩) (fMc ⟨⟨_,_,_,FnOk.mono (Qv T) (by lia),T.aA.m,T.aA.F.kp,T.aA.b⟩,(fMc ⟨⟨_,_,_,ih,T.ae.m,T.ae.F.kp,T.ae.b⟩,(fMc ⟨⟨_,_,_,FnOk.mono (_b0 T) (by lia),T.aJ.m,T.aJ.F.kp,T.aJ.b⟩,nl0⟩)⟩)⟩)) Fh _l9 (fun vs M Q h=>?_) (fun vs M Q h=>?_)
  ·obtain⟨T,w,d,kvs,ρ,rfl,_⟩:=h;rfl
  obtain⟨U,w,d,kvs,ρ,rfl,hn,hw1,hw,hd,hr,q⟩:=h;show wSs _ _ _ [some U.mv,some (.int w),some (.ref d),none] M;have p64:=Qs hw;delta Fh Mn;cases U with
  |num m=>
   simp only[Tm.mv];simp!;delta Mm;simp!;exact⟨w,m,rfl,hw,q⟩
  |var x=>
   have hv:=(hr x (by simp[Tm.reads])).1
   simp only[Tm.mv];simp!;delta CL;simp!;delta Ml;simp!;simp only[hd];simp!;exact⟨_,hv,q⟩
  |two f l r=>
   have hdl:l.depth≤n:=by unfold Tm.depth at hn;lia
   have hdr:r.depth≤n:=by unfold Tm.depth at hn;lia
   have hrl:∀x∈l.reads,valM kvs (Xs x)=some (.int (ρ x))/\0≤ρ x/\ρ x<2^w:=λx hx=>hr x (by simp[Tm.reads,hx])
   have hrr:∀x∈r.reads,valM kvs (Xs x)=some (.int (ρ x))/\0≤ρ x/\ρ x<2^w:=λx hx=>hr x (by simp[Tm.reads,hx])
   have inl:=l.val_in hw1 λx hx=>(hrl x hx).2;simp only[Tm.mv];simp!;rw[if_neg (Qt f),CL];simp!;rw[if_neg (Ga f),Fg];simp!;refine⟨l,w,d,kvs,ρ,rfl,hdl,hw1,hw,hd,hrl,?_⟩;delta Ff;simp!;rw[if_neg (_ji f),Mi];simp!;exact⟨r,w,d,kvs,ρ,rfl,hdr,hw1,hw,hd,hrr,f,_,_,w,rfl,hw,⟨by lia,by lia⟩,q⟩
  |pick c l r=>
   have hdc:c.depth≤n:=by unfold Tm.depth at hn;lia
   have hdl:l.depth≤n:=by unfold Tm.depth at hn;lia
   have hdr:r.depth≤n:=by unfold Tm.depth at hn;lia
   have hrc:∀x∈c.reads,valM kvs (Xs x)=some (.int (ρ x))/\0≤ρ x/\ρ x<2^w:=λx hx=>hr x (by simp[Tm.reads,hx])
   have hrl:∀x∈l.reads,valM kvs (Xs x)=some (.int (ρ x))/\0≤ρ x/\ρ x<2^w:=λx hx=>hr x (by simp[Tm.reads,hx])
   have hrr:∀x∈r.reads,valM kvs (Xs x)=some (.int (ρ x))/\0≤ρ x/\ρ x<2^w:=λx hx=>hr x (by simp[Tm.reads,hx])
   simp only[Tm.mv];simp!;delta CL;simp!;delta Fg;simp!;refine⟨c,w,d,kvs,ρ,rfl,hdc,hw1,hw,hd,hrc,?_⟩;delta Ff;simp!;delta Mj;simp!;refine Y5 (λh0=>?_) (λh0=>?_)
   ·have e:Tm.val ρ w (.pick c l r)=l.val ρ w:=if_pos h0;rw[e]at q;exact⟨l,w,d,kvs,ρ,rfl,hdl,hw1,hw,hd,hrl,q⟩
   ·have e:Tm.val ρ w (.pick c l r)=r.val ρ w:=if_neg h0;rw[e]at q;exact⟨r,w,d,kvs,ρ,rfl,hdr,hw1,hw,hd,hrr,q⟩
noncomputable def dueM(ss:List Stp)(ρ:Str->Int)(w:Nat)(i:Nat):MV:=match ss[i]? with
 |none=>.non
 |some (.take f _)=>.tup [.str "take",.str f]
 |some (.give f T)=>.tup [.str "give",.str f,.int (T.val ρ w)]
 |some _=>.tup [.str "own"]
abbrev Vg:SpM:=λvs M Q=>∃(x:MV) (pw:Addr) (ss:List Stp) (i w:Nat) (kvs:List (Key×MV)) (ρ:Str->Int) (ns:List Str),vs=[.int w,x,.int i,.ref pw]/\CQ M x (ss.map Stp.mv)/\(∀s∈ss,s.ok ns ss.length)/\i≤ss.length/\1≤w/\w≤64/\M pw=some (.dic kvs)/\readsOk ns kvs ρ w/\
 Q (dueM ss ρ w i) M
theorem _fB:MonW Vg:=by walk_at "m"
theorem _nb(T:Txt K mg t):FnOk P w K mg base CX0 50 t.eh t.cZ ["width","steps","number","words"] (liSp K Vg):=by
 refine T.bL.F.okM _mv (fC (G:=Ms) (Φ:=[("worth",(UM 40))]) T rfl (fMc ⟨(CV _),nl0⟩) (fMc ⟨⟨_,_,_,FnOk.mono (CW T 40) (by decide),T.ae.m,T.ae.F.kp,T.ae.b⟩,nl0⟩)) Fm _o5 (fun vs M Q h=>?_) (fun vs M Q h=>?_)
 ·obtain⟨_,_,_,_,_,_,_,_,rfl,_⟩:=h;rfl
 obtain⟨x,pw,ss,i,w,kvs,ρ,ns,rfl,hx,hss,hi,hw1,hw2,hpw,hr,q⟩:=h;show wSs _ _ _ [some (.int w),some x,some (.int i),some (.ref pw),none] M;delta Fm Mr;have len:∀R:Prop,R->R:=λ_ h=>h;have rest:∀hi':i<ss.length,wSs [("worth",UM 40)] Fj {nx:=fun x M'=>Q MV.non M',rt:=Q} [some (.int w),some x,some (.int i),some (.ref pw),some ss[i].mv] M:=by
  intro hi';have ok:=hss ss[i] (XV _);have ed:dueM ss ρ w i=dueM [ss[i]] ρ w 0:=by unfold dueM;rw[Xc hi'];rfl
  rw[ed]at q;obtain⟨s,hs⟩:∃s,ss[i]=s:=⟨_,rfl⟩;rw[hs]at ok q;rw[hs];delta Fj;cases s with
  |take f x=>
   simp only[Stp.mv];simp!;delta Mq;simp!;exact q
  |give f U=>
   simp only[Stp.mv];simp!;delta CM;simp!;delta Mp;simp!;exact⟨U,w,pw,kvs,ρ,rfl,Y4 ok.1 (by decide),hw1,hw2,hpw,hr.tm ok,q⟩
  |put x U=>
   simp only[Stp.mv];simp!;delta CM;simp!;delta Fi;simp!;exact q
  |jump U j=>
   simp only[Stp.mv];simp!;delta CM;simp!;delta Fi;simp!;exact q
 have eN:¬i<ss.length->dueM ss ρ w i=.non:=λc=>by unfold dueM;rw[Dr.mpr (by lia)]
 rcases hx with rfl|⟨ps,rfl,hps⟩
 ·simp!;rw[Xa];refine Y5 (λc=>?_) (λc=>?_)
  ·delta Fl;simp!;rw[<- eN (by lia)]
   exact q
  have hi':i<ss.length:=by lia
  delta Fk;simp!;exact⟨_,YE (by rw[Xq,Xc hi'];rfl),rest hi'⟩
 ·simp![hps]
  rw[Xa];refine Y5 (λc=>?_) (λc=>?_)
  ·delta Fl;simp!;rw[<- eN (by lia)]
   exact q
  have hi':i<ss.length:=by lia
  delta Fk
  simp![hps]
  exact⟨_,YE (by rw[Xq,Xc hi'];rfl),rest hi'⟩
noncomputable def Wg(s:Stp)(ρ:Str->Int)(w i:Nat):Int:=match s with
 |.jump T j=>if T.val ρ w≠0 then j else(i:Int)+1
 |_=>(i:Int)+1
def CY(s:Stp)(kvs:List (Key×MV))(ρ:Str->Int)(w:Nat)(wd:MV):List (Key×MV):=match s with
 |.take _ x=>putM kvs (Xs x) wd
 |.put x T=>putM kvs (Xs x) (.int (T.val ρ w))
 |_=>kvs
abbrev Gc:SpM:=λvs M Q=>∃(x:MV) (pw:Addr) (ss:List Stp) (i w:Nat) (kvs:List (Key×MV)) (ρ:Str->Int) (ns:List Str) (s:Stp),vs=[.int w,x,.int i,.ref pw]/\CQ M x (ss.map Stp.mv)/\ss[i]?=some s/\s.ok ns ss.length/\1≤w/\w≤64/\M pw=some (.dic kvs)/\readsOk ns kvs ρ w/\
 Q (.int (Wg s ρ w i)) M
theorem _7O:MonW Gc:=by walk_at "m"
theorem Qw{M:MH}{x:MV}{ss:List Stp}{i:Nat}{s:Stp}{Q:QM}(hx:CQ M x (ss.map Stp.mv))(hs:ss[i]?=some s) (q:Q s.mv M):wIx x (.int i) M Q:=by
 have hat:atI (ss.map Stp.mv) (i:Int)=some s.mv:=YE (by rw[Xq,hs];rfl)
 rcases hx with rfl|⟨a,rfl,h⟩
 ·rw[Kr];exact⟨_,hat,q⟩
 ·rw[Ko,h,Kq];exact⟨_,hat,q⟩
theorem _b2(T:Txt K mg t):FnOk P w K mg base CX0 50 t.e9 t.cw ["width","steps","number","words"] (liSp K Gc):=by
 refine T.aE.F.okM _aQ (fC (G:=Mw) (Φ:=[("worth",(UM 40))]) T rfl (fMc ⟨(CV _),nl0⟩) (fMc ⟨⟨_,_,_,FnOk.mono (CW T 40) (by decide),T.ae.m,T.ae.F.kp,T.ae.b⟩,nl0⟩)) Fn _bE (fun vs M Q h=>?_) (fun vs M Q h=>?_)
 ·obtain⟨_,_,_,_,_,_,_,_,_,rfl,_⟩:=h;rfl
 obtain⟨x,pw,ss,i,w,kvs,ρ,ns,s,rfl,hx,hs,ok,hw1,hw2,hpw,hr,q⟩:=h;show wSs _ _ _ [some (.int w),some x,some (.int i),some (.ref pw),none] M;delta Fn Mv;simp!;refine Qw hx hs ?_;delta Mu;cases s with
 |take f x=>
  simp only[Stp.mv];simp!;delta B0;simp!;exact q
 |give f U=>
  simp only[Stp.mv];simp!;delta B0;simp!;exact q
 |put x U=>
  simp only[Stp.mv];simp!;delta B0;simp!;exact q
 |jump U j=>
  simp only[Stp.mv];simp!;refine⟨U,w,pw,kvs,ρ,rfl,Y4 ok.1.1 (by decide),hw1,hw2,hpw,hr.tm ok.1,?_⟩
  simp!;refine Y5 (λc=>?_) (λc=>?_)
  ·have e:Wg (.jump U j) ρ w i=j:=if_pos c;rw[e]at q;delta Mt;simp!;exact q
  ·have e:Wg (.jump U j) ρ w i=(i:Int)+1:=if_neg c;rw[e]at q;delta B0;simp!;exact q
abbrev Gd:SpM:=λvs M Q=>∃(pw:Addr) (w:Nat) (kvs:List (Key×MV)) (ρ:Str->Int) (ns:List Str) (s:Stp) (k:Nat) (wd:MV),vs=[.int w,s.mv,.ref pw,wd]/\s.ok ns k/\1≤w/\w≤64/\M pw=some (.dic kvs)/\kvs.length≤1000/\readsOk ns kvs ρ w/\
 ∀p,M p=none->Q (.ref p) (updM M p (.dic (CY s kvs ρ w wd)))
theorem _8g:MonW Gd:=by walk_at "m"
theorem _c2(T:Txt K mg t):FnOk P w K mg base CX0 50 t.gI t.dg ["width","step","words","word"] (liSp K Gd):=by
 refine T.aG.F.okM _bV (fC (G:=MC) (Φ:=[("worth",(UM 40))]) T rfl (fMc ⟨(CV _),nl0⟩) (fMc ⟨⟨_,_,_,FnOk.mono (CW T 40) (by decide),T.ae.m,T.ae.F.kp,T.ae.b⟩,nl0⟩)) Fo _cj (fun vs M Q h=>?_) (fun vs M Q h=>?_)
 ·obtain⟨_,_,_,_,_,_,_,_,rfl,_⟩:=h;rfl
 obtain⟨pw,w,kvs,ρ,ns,s,k,wd,rfl,ok,hw1,hw2,hpw,hkl,hr,q⟩:=h;show wSs _ _ _ [some (.int w),some s.mv,some (.ref pw),some wd,none] M;delta Fo MB
 simp![hpw]
 intro p hp;have hpw2:=SameM.new hp (.dic kvs) _ _ hpw;have hp2:updM M p (.dic kvs) p=some (.dic kvs):=X9;have q:=q p hp;delta MA;cases s with
 |take f x=>
  simp only[Stp.mv];simp!;delta Mz;simp!;refine⟨by lia,?_⟩
  rw[YF];delta B3;simp!;delta B1;simp!;exact q
 |give f U=>
  simp only[Stp.mv];simp!;delta B3;simp!;delta B1;simp!;exact q
 |put x U=>
  simp only[Stp.mv];simp!;delta B3;simp!;delta Mx;simp!;refine⟨U,w,pw,kvs,ρ,rfl,Y4 ok.2.1 (by decide),hw1,hw2,hpw2,hr.tm ok.2,?_⟩
  simp!;refine⟨by lia,?_⟩
  rw[YF];delta B1;simp!;exact q
 |jump U j=>
  simp only[Stp.mv];simp!;delta B3;simp!;delta B1;simp!;exact q
abbrev Ge:SpM:=λvs M Q=>∃(x:MV) (pw:Addr) (ss:List Stp) (i w:Nat) (kvs:List (Key×MV)) (ρ:Str->Int) (ns:List Str) (s:Stp) (wd:MV),vs=[.int w,x,.int i,.ref pw,wd]/\CQ M x (ss.map Stp.mv)/\ss[i]?=some s/\s.ok ns ss.length/\1≤w/\w≤64/\M pw=some (.dic kvs)/\kvs.length≤1000/\readsOk ns kvs ρ w/\
 ∀p,M p=none->Q (.tup [.int (Wg s ρ w i),.ref p]) (updM M p (.dic (CY s kvs ρ w wd)))
theorem _ew:MonW Ge:=by walk_at "m"
theorem _kH(T:Txt K mg t):FnOk P w K mg base CX0 51 t.cK t.dF ["width","steps","number","words","word"] (liSp K Ge):=by
 refine T.bU.F.okM _kj (fC (G:=ME) (Φ:=[("number_after",Gc),("words_after",Gd)]) T rfl (fMc ⟨_7O,(fMc ⟨_8g,nl0⟩)⟩) (fMc ⟨⟨_,_,_,FnOk.mono (_b2 T) (by decide),T.aE.m,T.aE.F.kp,T.aE.b⟩,(fMc ⟨⟨_,_,_,FnOk.mono (_c2 T) (by decide),T.aG.m,T.aG.F.kp,T.aG.b⟩,nl0⟩)⟩)) Fp _lc (fun vs M Q h=>?_) (fun vs M Q h=>?_)
 ·obtain⟨_,_,_,_,_,_,_,_,_,_,rfl,_⟩:=h;rfl
 obtain⟨x,pw,ss,i,w,kvs,ρ,ns,s,wd,rfl,hx,hs,ok,hw1,hw2,hpw,hkl,hr,q⟩:=h;show wSs _ _ _ [some (.int w),some x,some (.int i),some (.ref pw),some wd] M;delta Fp MD;simp!;refine⟨x,pw,ss,i,w,kvs,ρ,ns,s,rfl,hx,hs,ok,hw1,hw2,hpw,hr,?_⟩;refine Qw hx hs ?_;refine⟨pw,w,kvs,ρ,ns,s,_,wd,rfl,ok,hw1,hw2,hpw,hkl,hr,λp hp=>?_⟩;exact q p hp
def szs(ts:List Tm):Nat:=(ts.map Tm.size).sum
theorem Qx(a b:List Tm):szs (a++b)=szs a+szs b:=by unfold szs;rw[Y1,List.sum_append]
theorem _mq(a:Tm):szs [a]=a.size:=by simp[szs]
theorem Qy{T:Tm}:∀{ts:List Tm},T∈ts->T.size≤szs ts
 |U::ts,h=>by
  have e:szs (U::ts)=U.size+szs ts:=by simp[szs]
  rcases Xl.mp h with z|z
  ·subst z;lia
  ·have:=Qy z;lia
noncomputable def Tm.kids:Tm->List Tm
 |.num _=>[]
 |.var _=>[]
 |.two _ a b=>[a,b]
 |.pick c a b=>[c,a,b]
theorem Tm.size_kids:∀T:Tm,T.size=1+szs T.kids
 |.num _=>rfl
 |.var _=>rfl
 |.two _ a b=>by simp[Tm.size,Tm.kids,szs]
 |.pick c a b=>by simp[Tm.size,Tm.kids,szs]
def mxd(ts:List Tm):Nat:=ts.foldl (λa T=>max a T.depth) 0
theorem _nk(ts:List Tm)(T:Tm):mxd (ts++[T])=max (mxd ts) T.depth:=by unfold mxd;rw[Dw];rfl
theorem Tm.depth_kids:∀T:Tm,T.depth=mxd T.kids+1
 |.num _=>rfl
 |.var _=>rfl
 |.two _ a b=>by simp[Tm.depth,Tm.kids,mxd];lia
 |.pick c a b=>by simp[Tm.depth,Tm.kids,mxd];lia
theorem Tm.kid_depth{T U:Tm}(h:U∈T.kids):U.depth<T.depth:=by
 cases T<;>simp[Tm.kids]at h
 ·rcases h with rfl|rfl<;>(simp only[Tm.depth];lia)
 ·rcases h with rfl|rfl|rfl<;>(simp only[Tm.depth];lia)
theorem Tm.kid_size{T U:Tm}(h:U∈T.kids):U.size<T.size:=by
 rw[T.size_kids];have:=Qy h;lia
def rds(ts:List Tm):List Str:=(ts.map Tm.reads).flatten
theorem _mB(ts:List Tm)(T:Tm):rds (ts++[T])=rds ts++T.reads:=by simp[rds]
theorem Tm.reads_kids:∀T:Tm,(∀x,T≠.var x)->T.reads=rds T.kids
 |.num _,_=>rfl
 |.var x,h=>absurd rfl (h x)
 |.two _ a b,_=>by simp[Tm.reads,Tm.kids,rds]
 |.pick c a b,_=>by simp[Tm.reads,Tm.kids,rds]
theorem Tm.reads_len:∀T:Tm,T.reads.length≤T.size
 |.num _=>by simp[Tm.reads]
 |.var _=>by simp[Tm.reads,Tm.size]
 |.two _ a b=>by
  have:=a.reads_len;have:=b.reads_len;simp[Tm.reads,Tm.size];lia
 |.pick c a b=>by
  have:=a.reads_len;have:=b.reads_len;have:=c.reads_len;simp[Tm.reads,Tm.size];lia
theorem Qz:∀ts:List Tm,(rds ts).length≤szs ts
 |[]=>Xg _
 |T::ts=>by
  have:=Qz ts;have:=T.reads_len;have e:szs (T::ts)=T.size+szs ts:=by simp[szs]
  have e2:rds (T::ts)=T.reads++rds ts:=by simp[rds]
  rw[e,e2,Yw];lia
theorem _k8(ts:List Tm)(i:Nat):szs (ts.take i)≤szs ts:=by
 have e1:=Qx (ts.take i) (ts.drop i);rw[List.take_append_drop]at e1;lia
theorem QA(x:MV)(xs:List MV):cutM (x::xs) (some 1) none=xs:=by
 have:=_hA (x::xs) 1
 simpa using this
abbrev Ba:SpM:=λvs M Q=>∃T:Tm,vs=[T.mv]/\∀p,M p=none->Q (.ref p) (updM M p (.lst (T.kids.map Tm.mv)))
theorem QB:MonW Ba:=by walk_at "m"
theorem QC(T:Txt K mg t):FnOk P w K mg base CX0 1 t.cY t.dM ["T"] (liSp K Ba):=by
 refine T.aw.F.okM _aP (fC (G:=LJ) (Φ:=[]) T rfl nl0 nl0) F8 _bD (λvs M Q h=>?_) (λvs M Q h=>?_)
 ·obtain⟨T,rfl,_⟩:=h;rfl
 obtain⟨U,rfl,q⟩:=h;show wSs _ _ _ [some U.mv] M;delta F8 LI;cases U with
 |num m=>
  simp only[Tm.mv];simp!;delta F7;simp!;exact q
 |var x=>
  simp only[Tm.mv];simp!;delta F7;simp!;exact q
 |two f a b=>
  simp only[Tm.mv];simp!;rw[if_neg (Qt f),if_neg (Ga f),F6];simp!;rw[QA];exact q
 |pick c a b=>
  simp only[Tm.mv];simp!;delta F6;simp!;rw[QA];exact q
abbrev Bb(n:Nat):SpM:=λvs M Q=>∃T:Tm,vs=[T.mv]/\T.depth≤n/\∀M',SameM M M'->Q (.tup [.int (T.size:Nat),.int (T.depth:Nat)]) M'
theorem QD(n:Nat):MonW (Bb n):=by walk_at "m"
theorem QE(T:Txt K mg t):∀n:Nat,FnOk P w K mg base CX0 (n+8) t.fA t.fN ["T"] (liSp K (Bb n))
 |0=>by
  have no:∀vs M Q,¬Bb 0 vs M Q:=λvs M Q h=>by
   obtain⟨T,_,h0,_⟩:=h;have:=T.depth_pos;lia
  exact⟨λvs H Q E ⟨ms,M,r,rh,h⟩=>absurd h (no _ _ _),λA outer s H args us vs Q E _ _ _ _ ⟨ms,M,r,rh,h⟩=>absurd h (no _ _ _)⟩
 |n+1=>by
  have ih:=QE T n;refine T.aq.F.okM _h6 (fC (G:=LR) (Φ:=[("parts_within",Ba),("size_of",(Bb n))]) T rfl (fMc ⟨QB,(fMc ⟨(QD _),nl0⟩)⟩) (fMc ⟨⟨_,_,_,FnOk.mono (QC T) (by lia),T.aw.m,T.aw.F.kp,T.aw.b⟩,(fMc ⟨⟨_,_,_,ih,T.aq.m,T.aq.F.kp,T.aq.b⟩,nl0⟩)⟩)) F9 _hD (fun vs M Q h=>?_) (fun vs M Q h=>?_)
  ·obtain⟨T,rfl,_⟩:=h;rfl
  obtain⟨U,rfl,hn,q⟩:=h;show wSs _ _ _ [some U.mv,none,none,none,none] M;delta F9 LQ;simp!;delta LP;simp!;delta LO;simp!;refine⟨U,rfl,λpk hpk=>?_⟩;have s1:=SameM.new hpk (.lst (U.kids.map Tm.mv));have h1:updM M pk (.lst (U.kids.map Tm.mv)) pk=some (.lst (U.kids.map Tm.mv)):=X9;generalize updM M pk (.lst (U.kids.map Tm.mv))=M1 at*
  simp![h1]
  obtain⟨J,hJ⟩:∃J:Nat->Sm->MH->Prop,∀i σ M2,J i σ M2↔∃(v3 v4:Option MV),SameM M1 M2/\σ=[some U.mv,some (.int ((1+szs (U.kids.take i):Nat):Int)),some (.int ((mxd (U.kids.take i):Nat):Int)),v3,v4]:=⟨_,λ_ _ _=>Ym⟩;refine⟨J,(hJ _ _ _).2 ⟨_,_,SameM.refl _,rfl⟩,λi σ M2 hj=>?_,λi x σ M2 hx hj=>?_,λσ M2 hj=>?_⟩
  ·obtain⟨_,_,s2,_⟩:=(hJ _ _ _).1 hj;exact s2 _ _ h1
  ·obtain⟨v3,v4,s2,rfl⟩:=(hJ _ _ _).1 hj;obtain⟨hi,rfl⟩:=YQ hx;have hk:=U.kid_depth (XV hi);delta LN;simp!;refine⟨U.kids[i],rfl,by lia,λM3 s3=>?_⟩
   delta LM;simp!;delta LL;simp!;have et:U.kids.take (i+1)=U.kids.take i++[U.kids[i]]:=by rw[U2,Xc hi];rfl
   have e1:((1+szs (U.kids.take i):Nat):Int)+(U.kids[i].size:Nat)=((1+szs (U.kids.take (i+1)):Nat):Int):=by rw[et,Qx,_mq];lia
   have e2:(if((U.kids[i].depth:Nat):Int)>(mxd (U.kids.take i):Nat)then((U.kids[i].depth:Nat):Int)else(mxd (U.kids.take i):Nat))=((mxd (U.kids.take (i+1)):Nat):Int):=by
    rw[et,_nk];split<;>lia
   rw[e1,e2];exact(hJ _ _ _).2 ⟨_,_,s2.trans s3,rfl⟩
  ·obtain⟨v3,v4,s2,rfl⟩:=(hJ _ _ _).1 hj;have e:U.kids.take (Src.lst pk (U.kids.map Tm.mv)).len=U.kids:=by simp[Src.len]
   rw[e];delta LK;simp!;have:=q M2 (s1.trans s2);rw[U.size_kids,U.depth_kids]at this;exact this
abbrev Wh(n:Nat):SpM:=λvs M Q=>∃T:Tm,vs=[T.mv]/\T.depth≤n/\T.size≤4000/\∀p M',SameM M M'->M p=none->M' p=some (.lst (T.reads.map MV.str))->Q (.ref p) M'
theorem QF(n:Nat):MonW (Wh n):=by walk_at "m"
theorem QG(T:Txt K mg t):∀n:Nat,FnOk P w K mg base CX0 (n+8) t.eR t.cT ["T"] (liSp K (Wh n))
 |0=>by
  have no:∀vs M Q,¬Wh 0 vs M Q:=λvs M Q h=>by
   obtain⟨T,_,h0,_⟩:=h;have:=T.depth_pos;lia
  exact⟨λvs H Q E ⟨ms,M,r,rh,h⟩=>absurd h (no _ _ _),λA outer s H args us vs Q E _ _ _ _ ⟨ms,M,r,rh,h⟩=>absurd h (no _ _ _)⟩
 |n+1=>by
  have ih:=QG T n;refine T.ax.F.okM _db (fC (G:=LX) (Φ:=[("names_read",(Wh n)),("parts_within",Ba)]) T rfl (fMc ⟨(QF _),(fMc ⟨QB,nl0⟩)⟩) (fMc ⟨⟨_,_,_,ih,T.ax.m,T.ax.F.kp,T.ax.b⟩,(fMc ⟨⟨_,_,_,FnOk.mono (QC T) (by lia),T.aw.m,T.aw.F.kp,T.aw.b⟩,nl0⟩)⟩)) Fb _dI (fun vs M Q h=>?_) (fun vs M Q h=>?_)
  ·obtain⟨T,rfl,_⟩:=h;rfl
  obtain⟨U,rfl,hn,hz,q⟩:=h;show wSs _ _ _ [some U.mv,none,none] M;have rest:(∀x,U≠.var x)->wSs [("names_read",Wh n),("parts_within",Ba)] Fa {nx:=fun x M'=>Q MV.non M',rt:=Q} [some U.mv,none,none] M:=by
   intro hv;delta Fa;simp!;intro p0 hp0;have s0:=SameM.new hp0 (.lst []);have h0:updM M p0 (.lst []) p0=some (.lst ([]:List MV)):=X9;generalize updM M p0 (.lst [])=M0 at*;delta LU;simp!;refine⟨U,rfl,λpk hpk=>?_⟩;have s1:=SameM.new hpk (.lst (U.kids.map Tm.mv));have h1:updM M0 pk (.lst (U.kids.map Tm.mv)) pk=some (.lst (U.kids.map Tm.mv)):=X9;have h01:=s1 _ _ h0;have t1:=s0.trans s1;have nk:M pk=none:=s0.free hpk;generalize updM M0 pk (.lst (U.kids.map Tm.mv))=M1 at*
   simp![h1]
   have ne:p0≠pk:=by
    intro e;rw[e]at h0;rw[h0]at hpk;cases hpk
   obtain⟨J,hJ⟩:∃J:Nat->Sm->MH->Prop,∀i σ M2,J i σ M2↔∃(v2:Option MV),SameM M M2/\M2 pk=some (.lst (U.kids.map Tm.mv))/\M2 p0=some (.lst ((rds (U.kids.take i)).map MV.str))/\σ=[some U.mv,some (.ref p0),v2]:=⟨_,λ_ _ _=>Ym⟩;refine⟨J,(hJ _ _ _).2 ⟨_,t1,h1,h01,rfl⟩,λi σ M2 hj=>?_,λi x σ M2 hx hj=>?_,λσ M2 hj=>?_⟩
   ·obtain⟨_,_,g1,_⟩:=(hJ _ _ _).1 hj;exact g1
   ·obtain⟨v2,s2,g1,g2,rfl⟩:=(hJ _ _ _).1 hj;obtain⟨hi,rfl⟩:=YQ hx;have hk:=U.kid_depth (XV hi);have hk2:=U.kid_size (XV hi);delta LT;simp!;simp only[g2];simp!;refine⟨⟨_,rfl⟩,?_⟩;refine⟨U.kids[i],rfl,by lia,by lia,λp3 M3 s3 n3 g3=>?_⟩
    have g1':=s3 _ _ g1;have g2':=s3 _ _ g2;simp!;have l1:=Qz (U.kids.take i);have l2:=_k8 U.kids i;have l3:=U.size_kids;have l4:=U.kids[i].reads_len;refine⟨_,g2',_,g3,by simp only[Xa];lia,(hJ _ _ _).2 ⟨_,(s2.trans s3).upd hp0 _,by rw[Xb ne.symm];exact g1',?_,rfl⟩⟩
    rw[X9,U2,Xc hi,E1,_mB,Y1]
   ·obtain⟨v2,s2,g1,g2,rfl⟩:=(hJ _ _ _).1 hj;have e:U.kids.take (Src.lst pk (U.kids.map Tm.mv)).len=U.kids:=by simp[Src.len]
    rw[e,<- U.reads_kids hv]at g2;delta LS;simp!;exact q p0 M2 s2 hp0 g2
  delta Fb LW;cases U with
  |num m=>
   simp only[Tm.mv];simp!;exact rest (λ_ e=>by cases e)
  |var x=>
   simp only[Tm.mv];simp!;delta LV;simp!;exact λp hp=>q p _ (SameM.new hp _) hp X9
  |two f a b=>
   simp only[Tm.mv];simp!;rw[if_neg (Ga f)];exact rest (λ_ e=>by cases e)
  |pick c a b=>
   simp only[Tm.mv];simp!;exact rest (λ_ e=>by cases e)
abbrev Gf:SpM:=λvs M Q=>∃(T:Tm) (N:List Str),vs=[T.mv]/\T.depth≤40/\T.size≤4000/\(∀x∈T.reads,x∈N)/\N.length<64/\
 ∀p M' (ys:List Str),SameM M M'->M p=none->M' p=some (.lst (ys.map MV.str))->ys.Nodup->(∀y,y∈ys↔y∈T.reads)->PyProof.Rows.sortedS ys=true->Q (.ref p) M'
theorem _c8:MonW Gf:=by walk_at "m"
theorem _hf(T:Txt K mg t):FnOk P w K mg base CX0 50 t.du t.dI ["T"] (liSp K Gf):=by
 refine T.aK.F.okM _h5 (fC (G:=LZ) (Φ:=[("names_read",(Wh 40))]) T rfl (fMc ⟨(QF _),nl0⟩) (fMc ⟨⟨_,_,_,FnOk.mono (QG T 40) (by decide),T.ax.m,T.ax.F.kp,T.ax.b⟩,nl0⟩)) Fc _hC (fun vs M Q h=>?_) (fun vs M Q h=>?_)
 ·obtain⟨T,N,rfl,_⟩:=h;rfl
 obtain⟨U,N,rfl,hn,hz,hN,hl,q⟩:=h;show wSs _ _ _ [some U.mv] M;delta Fc LY;simp!;refine⟨U,rfl,hn,hz,λp1 M1 s1 n1 h1=>?_⟩;have hb:scanBound=4096:=rfl;have:=U.reads_len;exact⟨p1,U.reads,N,rfl,h1,by lia,hN,hl,λp ys hp a1 a2 a3=>q p _ ys (s1.trans (SameM.new hp _)) (s1.free hp) X9 a1 a2 a3⟩
abbrev QH:SpM:=λ_ _ _=>False
theorem _nt:MonW QH:=λ_ h=>h.elim
theorem _nW{P:Xv}{w:Xm}{K:X4}{mg:Str->Option X0}{base:Heap}{k:Nat}{f:Addr}{fd:Xh}{ps:List Str}:FnOk P w K mg base CX0 k f fd ps (liSp K λ_ _ _=>False):=
 ⟨λ_ _ _ _ ⟨_,_,_,_,h⟩=>h.elim,λ_ _ _ _ _ _ _ _ _ _ _ _ _ ⟨_,_,_,_,h⟩=>h.elim⟩
def Zr(z:Str):Prop:=1≤z.length/\z.length≤8/\∀c∈z.cps.toList,97≤c/\c≤122
theorem QI{a b:Nat}:([a]:List Nat)<[b]↔a<b:=by
 rw[List.cons_lt_cons_iff];constructor
 ·rintro(h|⟨_,h⟩)
  ·exact h
  ·exact absurd h (by simp)
 ·exact .inl
theorem _sb:(("a":Str)).cps.toList=[97]:=by decide+kernel
theorem _sa:(("z":Str)).cps.toList=[122]:=by decide+kernel
theorem le_a{c:Nat}(h:97≤c):(!decide ((⟨#[c]⟩:Str).cps.toList<(("a":Str)).cps.toList))=true:=by
 rw[_sb];have:¬((⟨#[c]⟩:Str).cps.toList<[97]):=λz=>by
  have z:([c]:List Nat)<[97]:=z;rw[QI]at z;lia
 simpa using this
theorem le_z{c:Nat}(h:c≤122):(!decide ((("z":Str)).cps.toList<(⟨#[c]⟩:Str).cps.toList))=true:=by
 rw[_sa];have:¬([122]<(⟨#[c]⟩:Str).cps.toList):=λz=>by
  have z:([122]:List Nat)<[c]:=z;rw[QI]at z;lia
 simpa using this
abbrev Gg:SpM:=λvs M Q=>∃z:Str,vs=[.str z]/\Zr z/\∀M',SameM M M'->Q (.bl true) M'
theorem _c9:MonW Gg:=by walk_at "m"
theorem _hg(T:Txt K mg t):FnOk P w K mg base CX0 1 t.gE t.dJ ["text"] (liSp K Gg):=by
 refine T.bM.F.okM _h8 (fC (G:=MG) (Φ:=[]) T rfl nl0 nl0) Fq _hF (λvs M Q h=>?_) (λvs M Q h=>?_)
 ·obtain⟨z,rfl,_⟩:=h;rfl
 obtain⟨z,rfl,⟨g1,g2,g3⟩,q⟩:=h;show wSs _ _ _ [some (.str z)] M;delta Fq MF;simp!;refine⟨by lia,?_⟩
 rw[if_pos (by lia:(1:Int)≤(z.length:Int))]
 rw[if_pos (by lia:(z.length:Int)≤8)]
 refine _O z.cps.toList (λc=>.str ⟨#[c]⟩) (λ_=>.bl true) ?_ ?_ (λj f sp h=>by simp at h) λD hD=>?_
 ·simp!;have:z.cps.toList.length=z.length:=XY;exact⟨rfl,by lia,trivial⟩
 ·intro c hc M' s;obtain⟨h1,h2⟩:=g3 c hc;simp only[sCm,Xy,Yc,Yp,Yq,Yj,Y8];simp!;rw[if_pos (by simpa using le_a h1)]
  simpa using le_z h2
 simp!;refine⟨z.cps.toList.map λ_=>true,by rw[Ys];rfl,?_⟩
 have e:((z.cps.toList.map λ_=>true).all id)=true:=by simp
 rw[e];exact q _ (SameM.new hD _)
theorem Gh{z:Str}{zs:List Str}:inV (toV (.str z)) ((zs.map MV.str).map toV)=decide (z∈zs):=by
 unfold inV
 induction zs with
 |nil=>simp
 |cons a r ih=>
  rw[Xy,Xy,ZB,ih];have e:eqV (toV (.str a)) (toV (.str z))=decide (a=z):=by
   show(a==z)=decide (a=z);by_cases h:a=z
   ·subst h;simp
   ·simp[h]
  rw[e];by_cases h:a=z
  ·simp[h]
  ·have h':¬z=a:=λw=>h w.symm;simp[h,h']
theorem QJ(zs:List Str):(zs.map MV.str).all YG=true:=by
 rw[BG];intro v hv;obtain⟨x,_,rfl⟩:=XS.mp hv
 rfl
abbrev Bc:SpM:=λvs M Q=>∃(z:Str) (e:Addr) (zs:List Str),vs=[.str z,.ref e]/\M e=some (.lst (zs.map MV.str))/\Zr z/\z∉zs/\∀M',SameM M M'->Q .non M'
theorem Gi:MonW Bc:=by walk_at "m"
theorem Gj(T:Txt K mg t):FnOk P w K mg base CX0 2 t.hV t.cF ["text","earlier"] (liSp K Bc):=by
 refine T.aI.F.okM _bY (fC (G:=MK) (Φ:=[("is_name",Gg)]) T rfl (fMc ⟨_c9,nl0⟩) (fMc ⟨fE T.bM (_hg T),nl0⟩)) Fr _cm (fun vs M Q h=>?_) (fun vs M Q h=>?_)
 ·obtain⟨z,a,zs,rfl,_⟩:=h;rfl
 obtain⟨z,a,zs,rfl,h1,h2,h3,q⟩:=h;show wSs _ _ _ [some (.str z),some (.ref a)] M;delta Fr MJ;simp!;refine⟨z,rfl,h2,λM1 s1=>?_⟩;simp!;delta MI;simp!;refine .inl ⟨_,s1 _ _ h1,rfl,QJ zs,?_⟩;rw[Gh,decide_eq_false h3];simp!;exact q M1 s1
def Leaf(v:MV):Prop:=(∃i,v=.int i)\/∃z,v=.str z
def FroD:Nat->MH->MV->MV->Prop
 |0,_,v,v'=>Leaf v/\v'=v
 |n+1,M,v,v'=>(Leaf v/\v'=v)\/∃ps:List (MV×MV),(v=.tup (ps.map (·.1))\/∃a,v=.ref a/\M a=some (.lst (ps.map (·.1))))/\v'=.tup (ps.map (·.2))/\ps.length≤1000/\∀p∈ps,FroD n M p.1 p.2
theorem FroD.keep{M M':MH}(s:SameM M M'):∀{n:Nat} {v v':MV},FroD n M v v'->FroD n M' v v'
 |0,_,_,h=>h
 |n+1,v,v',h=>by
  rcases h with h|⟨ps,h1,h2,h3,h4⟩
  ·exact .inl h
  ·refine .inr ⟨ps,?_,h2,h3,λp hp=>(h4 p hp).keep s⟩;rcases h1 with h1|⟨a,e,h1⟩
   ·exact .inl h1
   ·exact .inr ⟨a,e,s _ _ h1⟩
abbrev ZS(n:Nat):SpM:=λvs M Q=>∃v v',vs=[v]/\FroD n M v v'/\∀M',SameM M M'->Q v' M'
theorem CZ(n:Nat):MonW (ZS n):=by walk_at "m"
theorem _g0{n:Nat}(hΦ:∀(j:Nat) f sp,([("frozen",ZS n)]:List (Str×SpM))[j]?=some (f,sp)->MonW sp) {vs:List MV} {M:MH} {Q:QM} (h:ZS (n+1) vs M Q):wSs [("frozen",ZS n)] We {nx:=fun _ M'=>Q .non M',rt:=Q} (A4 1 vs) M:=by
 obtain⟨v,v',rfl,hf,q⟩:=h;show wSs _ _ _ [some v] M;delta We FH;rcases hf with⟨l,rfl⟩|⟨ps,h1,rfl,h3,h4⟩
 ·rcases l with⟨i,rfl⟩|⟨z,rfl⟩
  ·simp!;simp only[decide_false,VJ,Yk,if_false,reduceCtorEq,ne_eq,not_false_eq_true,true_and];delta Wd;simp!;exact q M (SameM.refl _)
  ·simp!;simp only[decide_false,VJ,Yk,if_false,reduceCtorEq,ne_eq,not_false_eq_true,true_and];delta Wd;simp!;exact q M (SameM.refl _)
 ·have go:wSs [("frozen",ZS n)] FG {nx:=fun σ M=>wSs [("frozen",ZS n)] Wd {nx:=fun _ M'=>Q .non M',rt:=Q} σ M,rt:=Q} [some v] M:=by
   delta FG;simp!;refine _jt ps (·.1) (·.2) ?_ ?_ hΦ λD M' hD s hd=>?_
   ·rcases h1 with rfl|⟨a,rfl,ha⟩
    ·simp!;exact⟨rfl,by lia,trivial,λ_ _ h=>h⟩
    ·simp![ha]
     exact⟨rfl,by lia,ha,λ_ _ h=>h⟩
   ·intro p hp M' s;simp only[sCm,Xy,Yc,Yp,Yq,Yj,Y8];simp!;exact⟨p.1,p.2,rfl,(h4 p hp).keep s,λM2 s2=>⟨rfl,s2⟩⟩
   simp![hd]
   exact q M' s
  rcases h1 with rfl|⟨a,rfl,ha⟩
  ·simp!;simp only[decide_true,BV,BU,if_true,reduceCtorEq,ne_eq,not_false_eq_true,true_and];exact go
  ·simp![ha]
   simp only[decide_true,BV,BU,if_true,reduceCtorEq,ne_eq,not_false_eq_true,true_and];exact go
theorem QK(T:Txt K mg t):∀n:Nat,FnOk P w K mg base CX0 (n+8) t.cD t.fJ ["value"] (liSp K (ZS n))
 |0=>by
  refine T.ak.F.okM Kt (fC (G:=FI) (Φ:=[("frozen",QH)]) T rfl (fMc ⟨@_nt,nl0⟩) (fMc ⟨⟨_,_,_,_nW,T.ak.m,T.ak.F.kp,T.ak.b⟩,nl0⟩)) We NN (fun vs M Q h=>?_) (fun vs M Q h=>?_)
  ·obtain⟨v,v',rfl,_⟩:=h;rfl
  obtain⟨v,v',rfl,⟨l,rfl⟩,q⟩:=h;show wSs _ _ _ [some v'] M;delta We FH;rcases l with⟨i,rfl⟩|⟨z,rfl⟩
  ·simp!;simp only[decide_false,VJ,Yk,if_false,reduceCtorEq,ne_eq,not_false_eq_true,true_and];delta Wd;simp!;exact q M (SameM.refl _)
  ·simp!;simp only[decide_false,VJ,Yk,if_false,reduceCtorEq,ne_eq,not_false_eq_true,true_and];delta Wd;simp!;exact q M (SameM.refl _)
 |n+1=>by
  have ih:=QK T n;refine T.ak.F.okM Kt (fC (G:=FI) (Φ:=[("frozen",(ZS n))]) T rfl (fMc ⟨(CZ _),nl0⟩) (fMc ⟨⟨_,_,_,ih,T.ak.m,T.ak.F.kp,T.ak.b⟩,nl0⟩)) We NN (fun vs M Q h=>?_) (fun vs M Q h=>?_)
  ·obtain⟨v,v',rfl,_⟩:=h;rfl
  exact _g0 (UL (fMc ⟨CZ n,nl0⟩)) h
structure Isl where
 name:Str
 prs:List (Str×Int)
 stps:List Stp
structure Fer where
 name:Str
 giver:Str
 taker:Str
 k:Nat
 st:Nat
structure Wld where
 w:Nat
 isl:List Isl
 fer:List Fer
def prV(p:Str×Int):MV:=.tup [.str p.1,.int p.2]
noncomputable def Fer.mv(f:Fer):MV:=.tup [.str f.name,.str f.giver,.str f.taker,.int f.k,.int f.st]
def Isl.mv(I:Isl):MV:=.tup [.str I.name,.tup (I.prs.map prV),.tup (I.stps.map Stp.mv)]
def Wld.mv(W:Wld):MV:=.tup [.int W.w,.tup (W.isl.map Isl.mv),.tup (W.fer.map Fer.mv)]
def Isl.vars(I:Isl):List Str:=I.prs.map (·.1)
def Wld.fns(W:Wld):List Str:=W.fer.map (·.name)
def Wld.ins(W:Wld):List Str:=W.isl.map (·.name)
def TmIn(ns:List Str)(T:Tm):Prop:=T.depth≤8/\T.size≤30/\∀x∈T.reads,x∈ns
def ZT(fs:List Str)(ns:List Str)(n:Nat):Stp->Prop
 |.take f x=>f∈fs/\x∈ns
 |.give f T=>f∈fs/\TmIn ns T
 |.put x T=>x∈ns/\TmIn ns T
 |.jump T i=>TmIn ns T/\0≤i/\i≤(n:Int)
structure IslOk (w:Nat) (fs:List Str) (I:Isl):Prop where
 nv:I.prs.length≤6
 ns:I.stps.length≤12
 nd:I.vars.Nodup
 gd:∀x∈I.vars,Zr x
 wd:∀p∈I.prs,0≤p.2/\p.2<2^w
 st:∀s∈I.stps,ZT fs I.vars I.stps.length s
structure FerOk (is:List Str) (f:Fer):Prop where
 g:f.giver∈is
 t:f.taker∈is
 ne:f.giver≠f.taker
 k3:f.k≤3
 s1:1≤f.st
 s3:f.st≤3
def ZU(F:List Fer)(z:Str):Stp->Prop
 |.take f _=>∀x∈F,x.name=f->x.taker=z
 |.give f _=>∀x∈F,x.name=f->x.giver=z
 |_=>True
structure Wld.Good (W:Wld):Prop where
 w1:1≤W.w
 w2:W.w≤64
 i5:W.isl.length≤5
 f6:W.fer.length≤6
 fg:∀z∈W.fns,Zr z
 ig:∀z∈W.ins,Zr z
 nd:(W.fns++W.ins).Nodup
 io:∀I∈W.isl,IslOk W.w W.fns I
 fo:∀f∈W.fer,FerOk W.ins f
 en:∀I∈W.isl,∀s∈I.stps,ZU W.fer I.name s
def IslIn(M:MH)(I:Isl)(y:MV):Prop:=∃a b,y=.tup [.str I.name,.ref a,.ref b]/\M a=some (.lst (I.prs.map prV))/\M b=some (.lst (I.stps.map Stp.mv))
theorem IslIn.keep{M M':MH}(s:SameM M M'){I:Isl}{y:MV}(h:IslIn M I y):IslIn M' I y:=by
 obtain⟨a,b,e,h1,h2⟩:=h;exact⟨a,b,e,s _ _ h1,s _ _ h2⟩
def IslsIn(M:MH)(Is:List Isl)(ys:List MV):Prop:=ys.length=Is.length/\∀(i:Nat) (I:Isl) (y:MV),Is[i]?=some I->ys[i]?=some y->IslIn M I y
theorem IslsIn.keep{M M':MH}(s:SameM M M'){Is:List Isl}{ys:List MV}(h:IslsIn M Is ys):IslsIn M' Is ys:=⟨h.1,λi z y a b=>(h.2 i z y a b).keep s⟩
theorem IslsIn.mem{M:MH}{Is:List Isl}{ys:List MV}(h:IslsIn M Is ys){y:MV}(hy:y∈ys):∃I∈Is,IslIn M I y:=by
 obtain⟨i,hi,rfl⟩:=Y6 hy;have hi2:i<Is.length:=by rw[<- h.1];exact hi
 exact⟨Is[i],XV hi2,h.2 i _ _ (Xc hi2) (Xc hi)⟩
theorem IslsIn.fst{M:MH}{Is:List Isl}{ys:List MV}(h:IslsIn M Is ys){f:MV->MV}(hf:∀z r,f (.tup (.str z::r))=.str z):ys.map f=(Is.map (·.name)).map MV.str:=by
 apply BE;intro i;rw[Xq,Xq,Xq];by_cases hi:i<ys.length
 ·have hi2:i<Is.length:=by rw[<- h.1];exact hi
  obtain⟨a,b,e,_⟩:=h.2 i _ _ (Xc hi2) (Xc hi);rw[Xc hi2,Xc hi,e];show some (f _)=_;rw[hf];rfl
 ·have hi2:¬i<Is.length:=by rw[<- h.1];exact hi
  rw[UA (by lia),UA (by lia)];rfl
abbrev D0:SpM:=λvs M Q=>∃i:Int,vs=[.int i]/\Q (.bl true) M
theorem QL:MonW D0:=by walk_at "m"
theorem QN(T:Txt K mg t):FnOk P w K mg base CX0 1 t.gN t.dk ["value"] (liSp K D0):=by
 refine T.aQ.F.okM _fu (fC (G:=Kv) (Φ:=[]) T rfl nl0 nl0) EG _g6 (λvs M Q h=>?_) (λvs M Q h=>?_)
 ·obtain⟨i,rfl,_⟩:=h;rfl
 obtain⟨i,rfl,q⟩:=h;show wSs _ _ _ [some (.int i)] M;delta EG Ku;simp!
 simpa using q
abbrev D3:SpM:=λvs M Q=>∃i:Int,vs=[.int i]/\1≤i/\i≤64/\Q (.bl true) M
theorem QO:MonW D3:=by walk_at "m"
theorem _fx(T:Txt K mg t):FnOk P w K mg base CX0 2 t.ic t.dh ["number"] (liSp K D3):=by
 refine T.aH.F.okM _ft (fC (G:=Kx) (Φ:=[("is_whole",D0)]) T rfl (fMc ⟨QL,nl0⟩) (fMc ⟨fE T.aQ (QN T),nl0⟩)) EH _g5 (fun vs M Q h=>?_) (fun vs M Q h=>?_)
 ·obtain⟨i,rfl,_⟩:=h;rfl
 obtain⟨i,rfl,h1,h2,q⟩:=h;show wSs _ _ _ [some (.int i)] M;delta EH Kw;simp!;refine⟨i,rfl,?_⟩;simp!;rw[if_pos h1,decide_eq_true h2];exact q
abbrev Gk:SpM:=λvs M Q=>∃(k:Nat) (i:Int),vs=[.int k,.int i]/\k≤64/\0≤i/\i<2^k/\Q (.bl true) M
theorem _fD:MonW Gk:=by walk_at "m"
theorem _ne(T:Txt K mg t):FnOk P w K mg base CX0 2 t.gS t.gA ["width","number"] (liSp K Gk):=by
 refine T.bZ.F.okM _my (fC (G:=KE) (Φ:=[("is_whole",D0),("two_to",Zq)]) T rfl (fMc ⟨QL,(fMc ⟨CS,nl0⟩)⟩) (fMc ⟨fE T.aQ (QN T),(fMc ⟨fE T.aC (CT T),nl0⟩)⟩)) EJ _o8 (fun vs M Q h=>?_) (fun vs M Q h=>?_)
 ·obtain⟨k,i,rfl,_⟩:=h;rfl
 obtain⟨k,i,rfl,h1,h2,h3,q⟩:=h;show wSs _ _ _ [some (.int k),some (.int i)] M;delta EJ KD;simp!;refine⟨i,rfl,?_⟩;simp!;rw[if_pos h2];refine⟨k,rfl,h1,?_⟩;simp!;rw[decide_eq_true h3];exact q
abbrev Bd:SpM:=λvs M Q=>∃(z:Str) (e:Addr) (zs:List Str),vs=[.str z,.ref e]/\M e=some (.lst (zs.map MV.str))/\z∈zs/\Q .non M
theorem Gm:MonW Bd:=by walk_at "m"
theorem Gn(T:Txt K mg t):FnOk P w K mg base CX0 1 t.b9 t.aZ ["name","known"] (liSp K Bd):=by
 refine T.am.F.okM Ks (fC (G:=Fu) (Φ:=[]) T rfl nl0 nl0) B4 ML (λvs M Q h=>?_) (λvs M Q h=>?_)
 ·obtain⟨z,a,zs,rfl,_⟩:=h;rfl
 obtain⟨z,a,zs,rfl,h1,h2,q⟩:=h;show wSs _ _ _ [some (.str z),some (.ref a)] M;delta B4 Ft;simp!;refine .inl ⟨_,h1,rfl,QJ zs,?_⟩;rw[Gh,decide_eq_true h2];simp!;exact q
theorem Go{α:Type} [DecidableEq α] {zs:List α}(nd:zs.Nodup){j:Nat}{z:α}(hz:zs[j]?=some z):z∉zs.take j:=λhm=>by
 obtain⟨hj,rfl⟩:=XO.mp hz;obtain⟨k,hk,e1⟩:=Y6 hm;have hk2:k<j:=by rw[YI]at hk;lia
 rw[List.getElem_take]at e1;have:=(BF nd).mp e1;lia
theorem Gp{α β:Type}{f:α->β}{zs:List α}{j:Nat}{z:α}(hz:zs[j]?=some z):(zs.take j).map f++[f z]=(zs.take (j+1)).map f:=by
 rw[U2,hz,Y1];rfl
abbrev D4:SpM:=λvs M Q=>∃(f:Addr) (F:List Fer),vs=[.ref f]/\M f=some (.lst (F.map Fer.mv))/\F.length≤6/\(F.map (·.name)).Nodup/\(∀x∈F,Zr x.name)/\∀M',SameM M M'->Q .non M'
theorem QP:MonW D4:=by walk_at "m"
theorem _5x(T:Txt K mg t):FnOk P w K mg base CX0 3 t.cQ t.eS ["ferries"] (liSp K D4):=by
 refine T.aL.F.okM _5p (fC (G:=MR) (Φ:=[("refuse_name",Bc)]) T rfl (fMc ⟨Gi,nl0⟩) (fMc ⟨fE T.aI (Gj T),nl0⟩)) Fv _6s (fun vs M Q h=>?_) (fun vs M Q h=>?_)
 ·obtain⟨f,F,rfl,_⟩:=h;rfl
 obtain⟨f,F,rfl,hf,h6,nd,hg,q⟩:=h;show wSs _ _ _ [some (.ref f),none,none] M;delta Fv MQ;simp!;intro p hp;have s1:=SameM.new hp (.lst []);have hf1:=s1 _ _ hf;have hp1:updM M p (.lst []) p=some (.lst []):=X9;have old:∀a o,M a=some o->a≠p:=λa o h=>neM h hp;generalize updM M p _=M1 at*;delta MP
 simp![hf1]
 obtain⟨J,hJ⟩:∃J:Nat->Sm->MH->Prop,∀j σ M',J j σ M'↔SameM M M'/\M' p=some (.lst (((F.map (·.name)).take j).map MV.str))/\∃v,σ=[some (.ref f),some (.ref p),v]:=⟨_,λ_ _ _=>Ym⟩;refine⟨J,(hJ _ _ _).mpr ⟨s1,by simpa using hp1,_,rfl⟩,λj σ M' h=>((hJ _ _ _).mp h).1 _ _ hf,?_,?_⟩
 ·rintro j y σ M' hy h;obtain⟨s2,hp2,v,rfl⟩:=(hJ _ _ _).mp h;obtain⟨hj,rfl⟩:=YQ hy;have hj:j<F.length:=hj;have hz:(F.map (·.name))[j]?=some F[j].name:=by rw[Xq,Xc hj];rfl
  delta MN
  simp![Fer.mv]
  refine⟨F[j].name,p,(F.map (·.name)).take j,rfl,hp2,hg _ (XV hj),Go nd hz,λM3 s3=>?_⟩;have hp3:=s3 _ _ hp2;simp!;delta MM
  simp![Fer.mv,hp3,Xa,YI]
  refine⟨⟨_,rfl⟩,by lia,(hJ _ _ _).mpr ⟨λa o h=>by rw[Xb (old a o h)];exact s3 _ _ (s2 _ _ h),?_,_,rfl⟩⟩
  rw[X9,Gp hz]
 ·rintro σ M' h;obtain⟨s2,_⟩:=(hJ _ _ _).mp h;exact q _ s2
abbrev D5:SpM:=λvs M Q=>∃(k:Nat) (f:Addr) (ps:List (Str×Int)),vs=[.int k,.ref f]/\M f=some (.lst (ps.map prV))/\k≤64/\ps.length≤6/\(ps.map (·.1)).Nodup/\(∀x∈ps,Zr x.1/\0≤x.2/\x.2<2^k)/\∀M',SameM M M'->Q .non M'
theorem QQ:MonW D5:=by walk_at "m"
theorem _7K(T:Txt K mg t):FnOk P w K mg base CX0 3 t.di t.gR ["width","pairs"] (liSp K D5):=by
 refine T.bz.F.okM _7G (fC (G:=N0) (Φ:=[("fits",Gk),("refuse_name",Bc)]) T rfl (fMc ⟨_fD,(fMc ⟨Gi,nl0⟩)⟩) (fMc ⟨fE T.bZ (_ne T),(fMc ⟨fE T.aI (Gj T),nl0⟩)⟩)) Fw _7Y (fun vs M Q h=>?_) (fun vs M Q h=>?_)
 ·obtain⟨k,f,F,rfl,_⟩:=h;rfl
 obtain⟨k,f,F,rfl,hf,hk,h6,nd,hg,q⟩:=h;show wSs _ _ _ [some (.int k),some (.ref f),none,none,none] M;delta Fw MZ;simp!;intro p hp;have s1:=SameM.new hp (.lst []);have hf1:=s1 _ _ hf;have hp1:updM M p (.lst []) p=some (.lst []):=X9;have old:∀a o,M a=some o->a≠p:=λa o h=>neM h hp;generalize updM M p _=M1 at*;delta MY
 simp![hf1]
 obtain⟨J,hJ⟩:∃J:Nat->Sm->MH->Prop,∀j σ M',J j σ M'↔SameM M M'/\M' p=some (.lst (((F.map (·.1)).take j).map MV.str))/\∃v v',σ=[some (.int k),some (.ref f),some (.ref p),v,v']:=⟨_,λ_ _ _=>Ym⟩;refine⟨J,(hJ _ _ _).mpr ⟨s1,by simpa using hp1,_,_,rfl⟩,λj σ M' h=>((hJ _ _ _).mp h).1 _ _ hf,?_,?_⟩
 ·rintro j y σ M' hy h;obtain⟨s2,hp2,v,v',rfl⟩:=(hJ _ _ _).mp h;obtain⟨hj,rfl⟩:=YQ hy;have hj:j<F.length:=hj;have hz:(F.map (·.1))[j]?=some F[j].1:=by rw[Xq,Xc hj];rfl
  obtain⟨g1,g2,g3⟩:=hg _ (XV hj);delta MX
  simp![prV]
  delta MW;simp!;refine⟨F[j].1,p,(F.map (·.1)).take j,rfl,hp2,g1,Go nd hz,λM3 s3=>?_⟩;have hp3:=s3 _ _ hp2;simp!;delta MU
  simp![hp3,Xa,YI]
  refine⟨⟨_,rfl⟩,by lia,?_⟩
  delta MS
  simp![prV]
  refine⟨k,F[j].2,rfl,hk,g2,g3,?_⟩;simp!;refine(hJ _ _ _).mpr ⟨λa o h=>by rw[Xb (old a o h)];exact s3 _ _ (s2 _ _ h),?_,_,_,rfl⟩
  rw[X9,Gp hz]
 ·rintro σ M' h;obtain⟨s2,_⟩:=(hJ _ _ _).mp h;exact q _ s2
abbrev Gq:SpM:=λvs M Q=>∃(U:Tm) (e:Addr) (ns:List Str),vs=[U.mv,.ref e]/\M e=some (.lst (ns.map MV.str))/\ns.length≤6/\TmIn ns U/\∀M',SameM M M'->Q .non M'
theorem _8h:MonW Gq:=by walk_at "m"
theorem _c3(T:Txt K mg t):FnOk P w K mg base CX0 51 t.fO t.ee ["T","known"] (liSp K Gq):=by
 refine T.bj.F.okM _bW (fC (G:=N5) (Φ:=[("refuse_unknown",Bd),("size_of",(Bb 8)),("vars_in",Gf)]) T rfl (fMc ⟨Gm,(fMc ⟨(QD _),(fMc ⟨_c8,nl0⟩)⟩)⟩) (fMc ⟨⟨_,_,_,FnOk.mono (Gn T) (by decide),T.am.m,T.am.F.kp,T.am.b⟩,(fMc ⟨⟨_,_,_,FnOk.mono (QE T 8) (by decide),T.aq.m,T.aq.F.kp,T.aq.b⟩,(fMc ⟨⟨_,_,_,FnOk.mono (_hf T) (by decide),T.aK.m,T.aK.F.kp,T.aK.b⟩,nl0⟩)⟩)⟩)) Fy _ck (fun vs M Q h=>?_) (fun vs M Q h=>?_)
 ·obtain⟨U,a,ns,rfl,_⟩:=h;rfl
 obtain⟨U,a,ns,rfl,ha,h6,⟨hd,hs,hr⟩,q⟩:=h;show wSs _ _ _ [some U.mv,some (.ref a),none,none] M;delta Fy N4;simp!;refine⟨U,rfl,hd,λM1 s1=>?_⟩;simp!;delta N3;simp!;rw[if_neg (by lia:¬((U.size:Nat):Int)>30)]
 rw[if_neg (by lia:¬((U.depth:Nat):Int)>8)]
 delta N2;simp!;refine⟨U,ns,rfl,by lia,by lia,hr,by lia,λp M2 ys s2 hp hp2 nd hm _=>?_⟩
 simp![hp2]
 obtain⟨J,hJ⟩:∃J:Nat->Sm->MH->Prop,∀j σ M',J j σ M'↔M'=M2/\∃v v',σ=[some U.mv,some (.ref a),v,v']:=⟨_,λ_ _ _=>Ym⟩;refine⟨J,(hJ _ _ _).mpr ⟨rfl,_,_,rfl⟩,λj σ M' h=>by rw[((hJ _ _ _).mp h).1];exact hp2,?_,?_⟩
 ·rintro j y σ M' hy h;obtain⟨rfl,v,v',rfl⟩:=(hJ _ _ _).mp h;obtain⟨hj,rfl⟩:=YQ hy;delta N1;simp!;refine⟨ys[j],a,ns,rfl,s2 _ _ (s1 _ _ ha),hr _ ((hm _).mp (XV hj)),?_⟩;simp!;exact(hJ _ _ _).mpr ⟨rfl,_,_,rfl⟩
 ·rintro σ M' h;obtain⟨rfl,_⟩:=(hJ _ _ _).mp h;exact q _ (s1.trans s2)
theorem Gr:(Stp.take f x).mv=.tup [.str "take",.str f,.str x]:=rfl
theorem Gs:(Stp.give f U).mv=.tup [.str "give",.str f,U.mv]:=rfl
theorem Gu:(Stp.put f U).mv=.tup [.str "put",.str f,U.mv]:=rfl
theorem Gv:(Stp.jump U i).mv=.tup [.str "jump",U.mv,.int i]:=rfl
abbrev D6:SpM:=λvs M Q=>∃(S:Stp) (a b:Addr) (ns fs:List Str) (n:Nat),vs=[S.mv,.ref a,.int n,.ref b]/\M a=some (.lst (ns.map MV.str))/\M b=some (.lst (fs.map MV.str))/\ns.length≤6/\ZT fs ns n S/\∀M',SameM M M'->Q .non M'
theorem QR:MonW D6:=by walk_at "m"
theorem _c4(T:Txt K mg t):FnOk P w K mg base CX0 52 t.fP t.dQ ["step","known","count","ferry_names"] (liSp K D6):=by
 refine T.b0.F.okM _bX (fC (G:=Nh) (Φ:=[("refuse_term",Gq),("refuse_unknown",Bd)]) T rfl (fMc ⟨_8h,(fMc ⟨Gm,nl0⟩)⟩) (fMc ⟨fE T.bj (_c3 T),(fMc ⟨fE T.am (Gn T),nl0⟩)⟩)) FA _cl (fun vs M Q h=>?_) (fun vs M Q h=>?_)
 ·obtain⟨S,a,b,ns,fs,n,rfl,_⟩:=h;rfl
 obtain⟨S,a,b,ns,fs,n,rfl,ha,hb,h6,hS,q⟩:=h;show wSs _ _ _ [some S.mv,some (.ref a),some (.int n),some (.ref b)] M;delta FA Nf;cases S with
 |take f x=>
  obtain⟨h1,h2⟩:=hS
  simp![Gr]
  delta N7;simp!;refine⟨f,b,fs,rfl,hb,h1,?_⟩;simp!;delta N6;simp!;refine⟨x,a,ns,rfl,ha,h2,?_⟩;simp!;exact q _ (SameM.refl _)
 |give f U=>
  obtain⟨h1,h2⟩:=hS
  simp![Gs]
  delta CN;simp!;delta N9;simp!;refine⟨f,b,fs,rfl,hb,h1,?_⟩;simp!;delta N8;simp!;refine⟨U,a,ns,rfl,ha,h6,h2,λM1 s1=>?_⟩;simp!;exact q _ s1
 |put f U=>
  obtain⟨h1,h2⟩:=hS
  simp![Gu]
  delta CN;simp!;delta Fz;simp!;delta Nb;simp!;refine⟨f,a,ns,rfl,ha,h1,?_⟩;simp!;delta Na;simp!;refine⟨U,a,ns,rfl,ha,h6,h2,λM1 s1=>?_⟩;simp!;exact q _ s1
 |jump U i=>
  obtain⟨h1,h2,h3⟩:=hS
  simp![Gv]
  delta CN;simp!;delta Fz;simp!;delta Nd;simp!;refine⟨U,a,ns,rfl,ha,h6,h1,λM1 s1=>?_⟩;simp!;delta Nc;simp!;rw[if_pos h2];rw[if_neg (by lia:¬¬i≤(n:Int))]
  exact q _ s1
abbrev Gw:SpM:=λvs M Q=>∃(k:Nat) (I:Isl) (y:MV) (b:Addr) (fs:List Str),vs=[.int k,y,.ref b]/\k≤64/\IslIn M I y/\M b=some (.lst (fs.map MV.str))/\IslOk k fs I/\∀M',SameM M M'->Q .non M'
theorem _6J:MonW Gw:=by walk_at "m"
theorem _am(T:Txt K mg t):FnOk P w K mg base CX0 53 t.cm t.hG ["width","island","ferry_names"] (liSp K Gw):=by
 refine T.c7.F.okM _ak (fC (G:=Np) (Φ:=[("refuse_step",D6),("refuse_variables",D5)]) T rfl (fMc ⟨QR,(fMc ⟨QQ,nl0⟩)⟩) (fMc ⟨fE T.b0 (_c4 T),(fMc ⟨fE T.bz (_7K T),nl0⟩)⟩)) FB _av (fun vs M Q h=>?_) (fun vs M Q h=>?_)
 ·obtain⟨k,I,y,b,fs,rfl,_⟩:=h;rfl
 obtain⟨k,I,y,fa,fs,rfl,hk,⟨a,b,rfl,ha,hb⟩,hfa,ok,q⟩:=h;show wSs _ _ _ [some (.int k),some (.tup [.str I.name,.ref a,.ref b]),some (.ref fa),none,none] M;have l1:=ok.nv;have l2:=ok.ns;delta FB No
 simp![ha,Xa]
 refine Y5 (λz=>by lia) (λ_=>?_)
 delta Nn
 simp![hb,Xa]
 refine Y5 (λz=>by lia) (λ_=>?_)
 delta Nm;simp!;refine⟨k,a,I.prs,rfl,ha,hk,l1,ok.nd,λx hx=>⟨ok.gd _ (XS.mpr ⟨x,hx,rfl⟩),ok.wd _ hx⟩,λM1 s1=>?_⟩;simp!;have ha1:=s1 _ _ ha;delta Nk;simp!;refine _O I.prs prV (fun p=>.str p.1) ?_ ?_ (UL (Φ:=[("refuse_step",D6),("refuse_variables",D5)]) (fMc ⟨QR,(fMc ⟨QQ,nl0⟩)⟩)) fun D hD=>?_
 ·simp![ha1]
  exact⟨rfl,by lia,ha1⟩
 ·intro p hp M' s;simp only[sCm,Xy,Yc,Yp,Yq,Yj,Y8]
  simp![prV]
  try exact⟨rfl,rfl⟩
 have eV:(I.prs.map λp=>MV.str p.1)=I.vars.map MV.str:=by unfold Isl.vars;rw[Ys];rfl
 rw[eV];have s2:=s1.trans (SameM.new hD (.lst (I.vars.map MV.str)));have hD2:updM M1 D (.lst (I.vars.map MV.str)) D=some (.lst (I.vars.map MV.str)):=X9;generalize updM M1 D _=M2 at*;have hb2:=s2 _ _ hb;delta Nj
 simp![hb2]
 obtain⟨J,hJ⟩:∃J:Nat->Sm->MH->Prop,∀j σ M',J j σ M'↔SameM M2 M'/\∃v,σ=[some (.int k),some (.tup [.str I.name,.ref a,.ref b]),some (.ref fa),some (.ref D),v]:=⟨_,λ_ _ _=>Ym⟩;refine⟨J,(hJ _ _ _).mpr ⟨SameM.refl _,_,rfl⟩,λj σ M' h=>((hJ _ _ _).mp h).1 _ _ hb2,?_,?_⟩
 ·rintro j y σ M' hy h;obtain⟨s3,v,rfl⟩:=(hJ _ _ _).mp h;obtain⟨hj,rfl⟩:=YQ hy;have hj:j<I.stps.length:=hj;have hb3:=s3 _ _ hb2;delta Ni
  simp![hb3,Xa]
  refine⟨I.stps[j],D,fa,I.vars,fs,I.stps.length,rfl,s3 _ _ hD2,s3 _ _ (s2 _ _ hfa),by unfold Isl.vars;rw[Xa];exact l1,ok.st _ (XV hj),λM4 s4=>?_⟩
  simp!;exact(hJ _ _ _).mpr ⟨s3.trans s4,_,rfl⟩
 ·rintro σ M' h;obtain⟨s3,_⟩:=(hJ _ _ _).mp h;exact q _ (s2.trans s3)
abbrev D7:SpM:=λvs M Q=>∃(k:Nat) (p b:Addr) (Is:List Isl) (ys:List MV) (fs:List Str),vs=[.int k,.ref p,.ref b]/\k≤64/\M p=some (.lst ys)/\IslsIn M Is ys/\Is.length≤5/\fs.length≤6/\M b=some (.lst (fs.map MV.str))/\(fs++Is.map (·.name)).Nodup/\(∀I∈Is,Zr I.name)/\(∀I∈Is,IslOk k fs I)/\∀M',SameM M M'->Q .non M'
theorem QS:MonW D7:=by walk_at "m"
theorem _8Y(T:Txt K mg t):FnOk P w K mg base CX0 54 t.ga t.gz ["width","islands","ferry_names"] (liSp K D7):=by
 refine T.aF.F.okM _8V (fC (G:=Ny) (Φ:=[("refuse_island",Gw),("refuse_name",Bc)]) T rfl (fMc ⟨_6J,(fMc ⟨Gi,nl0⟩)⟩) (fMc ⟨fE T.c7 (_am T),(fMc ⟨fE T.aI (Gj T),nl0⟩)⟩)) FC _9e (fun vs M Q h=>?_) (fun vs M Q h=>?_)
 ·obtain⟨k,p,b,Is,ys,fs,rfl,_⟩:=h;rfl
 obtain⟨k,p,f,Is,ys,fs,rfl,hk,hp,hI,h5,hf6,hf,nd,hg,ok,q⟩:=h;show wSs _ _ _ [some (.int k),some (.ref p),some (.ref f),none,none] M;delta FC Nw
 simp![hf]
 intro e he;have s1:=SameM.new he (.lst (fs.map MV.str));have he1:updM M e (.lst (fs.map MV.str)) e=some (.lst (fs.map MV.str)):=X9;have hp1:=s1 _ _ hp;have old:∀a o,M a=some o->a≠e:=λa o h=>neM h he;generalize updM M e _=M1 at*;delta Nv
 simp![hp1]
 obtain⟨J,hJ⟩:∃J:Nat->Sm->MH->Prop,∀j σ M',J j σ M'↔SameM M M'/\M' e=some (.lst ((fs++(Is.map (·.name)).take j).map MV.str))/\∃v,σ=[some (.int k),some (.ref p),some (.ref f),some (.ref e),v]:=⟨_,λ_ _ _=>Ym⟩;refine⟨J,(hJ _ _ _).mpr ⟨s1,by simpa using he1,_,rfl⟩,λj σ M' h=>((hJ _ _ _).mp h).1 _ _ hp,?_,?_⟩
 ·rintro j y σ M' hy h;obtain⟨s2,he2,v,rfl⟩:=(hJ _ _ _).mp h;have hy:ys[j]?=some y:=hy;have hj:j<Is.length:=by rw[<- hI.1];exact(XO.mp hy).1
  have hi:Is[j]?=some Is[j]:=Xc hj;have hz:(Is.map (·.name))[j]?=some Is[j].name:=by rw[Xq,hi];rfl
  have hm:=XV hj;obtain⟨a,b,rfl,_⟩:=(hI.keep s2).2 j Is[j] y hi hy;have nin:Is[j].name∉fs++(Is.map (·.name)).take j:=by
   rw[Zi]at nd;intro z;rcases YJ.mp z with z|z
   ·exact nd.2.2 _ z _ (XS.mpr ⟨_,hm,rfl⟩) rfl
   ·exact Go nd.2.1 hz z
  delta Nu;simp!;refine⟨Is[j].name,e,fs++(Is.map (·.name)).take j,rfl,he2,hg _ hm,nin,λM3 s3=>?_⟩;have he3:=s3 _ _ he2;simp!;delta Nr
  simp![he3,Xa,Yw,YI]
  refine⟨⟨_,rfl⟩,by lia,?_⟩
  have s4:SameM M (updM M3 e (.lst ((fs++(Is.map (·.name)).take j).map MV.str++[.str Is[j].name]))):=λa o h=>by rw[Xb (old a o h)];exact s3 _ _ (s2 _ _ h)
  have he4:updM M3 e (.lst ((fs++(Is.map (·.name)).take j).map MV.str++[.str Is[j].name])) e=some (.lst ((fs++(Is.map (·.name)).take (j+1)).map MV.str)):=by
   rw[X9,Y1,Y1,Vy,Gp hz]
  generalize updM M3 e _=M4 at*;delta Nq;simp!;refine⟨k,Is[j],_,f,fs,rfl,hk,(hI.keep s4).2 j _ _ hi hy,s4 _ _ hf,ok _ hm,λM5 s5=>?_⟩;simp!;exact(hJ _ _ _).mpr ⟨s4.trans s5,s5 _ _ he4,_,rfl⟩
 ·rintro σ M' h;obtain⟨s2,_⟩:=(hJ _ _ _).mp h;exact q _ s2
abbrev D9:SpM:=λvs M Q=>∃(x:Fer) (e:Addr) (zs:List Str),vs=[x.mv,.ref e]/\M e=some (.lst (zs.map MV.str))/\FerOk zs x/\Q .non M
theorem QT:MonW D9:=by walk_at "m"
theorem _b1(T:Txt K mg t):FnOk P w K mg base CX0 2 t.cJ t.eu ["ferry","island_names"] (liSp K D9):=by
 refine T.aM.F.okM _aO (fC (G:=NE) (Φ:=[("refuse_unknown",Bd)]) T rfl (fMc ⟨Gm,nl0⟩) (fMc ⟨fE T.am (Gn T),nl0⟩)) FD _bC (fun vs M Q h=>?_) (fun vs M Q h=>?_)
 ·obtain⟨x,a,zs,rfl,_⟩:=h;rfl
 obtain⟨x,a,zs,rfl,ha,ok,q⟩:=h;show wSs _ _ _ [some (.tup [.str x.name,.str x.giver,.str x.taker,.int x.k,.int x.st]),some (.ref a)] M;have k3:=ok.k3;have t1:=ok.s1;have t3:=ok.s3;delta FD ND;simp!;refine⟨_,a,zs,rfl,ha,ok.g,?_⟩;simp!;delta NC;simp!;refine⟨_,a,zs,rfl,ha,ok.t,?_⟩;simp!;delta NB;simp!;rw[if_neg ok.ne];delta NA;simp!;rw[if_pos (by lia:(0:Int)≤(x.k:Int))]
 rw[if_neg (by lia:¬¬(x.k:Int)≤3)]
 delta Nz;simp!;rw[if_pos (by lia:(1:Int)≤(x.st:Int))]
 rw[if_neg (by lia:¬¬(x.st:Int)≤3)]
 exact q
theorem _hb{F:List Fer}{g:Fer->Str}:∀{c:List (Key×MV)},(F.map (·.name)).Nodup->(∀x∈F,valM c (Xs x.name)=none)->∀x∈F,valM ((F.map λy=>((Xs y.name:Key),MV.str (g y))).foldl (λc z=>putM c z.1 z.2) c) (Xs x.name)=some (.str (g x)):=by
 have stay:∀(F:List Fer) (c:List (Key×MV)) (z:Str),(∀y∈F,y.name≠z)->valM ((F.map λy=>((Xs y.name:Key),MV.str (g y))).foldl (λc z=>putM c z.1 z.2) c) (Xs z)=valM c (Xs z):=by
  intro F
  induction F with
  |nil=>intro c z _;rfl
  |cons y r ih=>
   intro c z h;rw[Xy,VD,ih _ _ (λy hy=>h y (XR _ hy)),CO,if_neg (λe=>h y (Ye ..) (VU e).symm)]
 induction F with
 |nil=>intro c _ _ x hx;cases hx
 |cons y r ih=>
  intro c nd h x hx;rw[Xy,YB]at nd;rw[Xy,VD];rcases Xl.mp hx with rfl|hx
  ·rw[stay _ _ _ (λz hz e=>nd.1 (XS.mpr ⟨z,hz,e⟩)),CO,if_pos rfl]
  ·refine ih nd.2 (λz hz=>?_) x hx;rw[CO,if_neg (λe=>nd.1 (XS.mpr ⟨z,hz,VU e⟩))];exact h z (XR _ hz)
def dirK(F:List Fer)(g:Fer->Str):List (Key×MV):=YM (F.map λy=>((Xs y.name:Key),MV.str (g y)))
theorem QU{F:List Fer}{g:Fer->Str}(nd:(F.map (·.name)).Nodup){x:Fer}(hx:x∈F):valM (dirK F g) (Xs x.name)=some (.str (g x)):=_hb nd (λ_ _=>rfl) x hx
abbrev Da:SpM:=λvs M Q=>∃(z:Str) (S:Stp) (a b:Addr) (F:List Fer),vs=[.str z,S.mv,.ref a,.ref b]/\M a=some (.dic (dirK F (·.giver)))/\M b=some (.dic (dirK F (·.taker)))/\(F.map (·.name)).Nodup/\ZU F z S/\(∀f,(∃x,S=.take f x)\/(∃U,S=.give f U)->f∈F.map (·.name))/\Q .non M
theorem QV:MonW Da:=by walk_at "m"
theorem _7J(T:Txt K mg t):FnOk P w K mg base CX0 1 t.fw t.d0 ["name","step","givers","takers"] (liSp K Da):=by
 refine T.b7.F.okM _7F (fC (G:=NG) (Φ:=[]) T rfl nl0 nl0) FE _7X (λvs M Q h=>?_) (λvs M Q h=>?_)
 ·obtain⟨z,S,a,b,F,rfl,_⟩:=h;rfl
 obtain⟨z,S,a,b,F,rfl,ha,hb,nd,hE,hF,q⟩:=h;show wSs _ _ _ [some (.str z),some S.mv,some (.ref a),some (.ref b)] M;delta FE NF;cases S with
 |take f x=>
  obtain⟨y,hy,rfl⟩:=XS.mp (hF f (.inl ⟨x,rfl⟩));have v:=QU (g:=(·.taker)) nd hy;have e:=hE y hy rfl
  simp![Gr,hb,v,e]
  delta B5
  simp![Gr]
  exact q
 |give f U=>
  obtain⟨y,hy,rfl⟩:=XS.mp (hF f (.inr ⟨U,rfl⟩));have v:=QU (g:=(·.giver)) nd hy;have e:=hE y hy rfl
  simp![Gs]
  delta B5
  simp![Gs,ha,v,e]
  exact q
 |put f U=>
  simp![Gu]
  delta B5
  simp![Gu]
  exact q
 |jump U i=>
  simp![Gv]
  delta B5
  simp![Gv]
  exact q
theorem _dn{fs:List Str}(h:ZT fs ns n S):∀f,(∃x,S=.take f x)\/(∃U,S=.give f U)->f∈fs:=by
 rintro f (⟨x,rfl⟩|⟨U,rfl⟩)
 ·exact h.1
 ·exact h.1
abbrev Db:SpM:=λvs M Q=>∃(p f:Addr) (ys:List MV) (Is:List Isl) (F:List Fer),vs=[.ref p,.ref f]/\M p=some (.lst ys)/\IslsIn M Is ys/\Is.length≤5/\M f=some (.lst (F.map Fer.mv))/\F.length≤6/\(F.map (·.name)).Nodup/\
 (∀I∈Is,I.stps.length≤12/\∀s∈I.stps,ZU F I.name s/\∃ns n,ZT (F.map (·.name)) ns n s)/\∀M',SameM M M'->Q .non M'
theorem QW:MonW Db:=by walk_at "m"
theorem QX(F:List Fer)(g:Fer->Str):(F.map λx=>MV.tup [.str x.name,.str (g x)])=(F.map λy=>((Xs y.name:Key),MV.str (g y))).map prM:=by rw[Ys];rfl
theorem _6I(T:Txt K mg t):FnOk P w K mg base CX0 2 t.cr t.fU ["islands","ferries"] (liSp K Db):=by
 refine T.aN.F.okM _6G (fC (G:=NM) (Φ:=[("refuse_wrong_end",Da)]) T rfl (fMc ⟨QV,nl0⟩) (fMc ⟨fE T.b7 (_7J T),nl0⟩)) FF _6M (fun vs M Q h=>?_) (fun vs M Q h=>?_)
 ·obtain⟨p,f,ys,Is,F,rfl,_⟩:=h;rfl
 obtain⟨p,f,ys,Is,F,rfl,hp,hI,h5,hf,h6,nd,hE,q⟩:=h;show wSs _ _ _ [some (.ref p),some (.ref f),none,none,none,none] M;have hΦ:=(UL (Φ:=[("refuse_wrong_end",Da)]) (fMc ⟨QV,nl0⟩));delta FF NL;simp!;refine _O F Fer.mv (λx=>.tup [.str x.name,.str x.giver]) ?_ ?_ hΦ λD hD=>?_
 ·simp![hf]
  exact⟨rfl,by lia,hf⟩
 ·intro x hx M' s;simp only[sCm,Xy,Yc,Yp,Yq,Yj,Y8]
  simp![Fer.mv]
  try exact⟨rfl,rfl⟩
 rw[QX F (·.giver)];have s1:=SameM.new hD (.lst ((F.map λy=>((Xs y.name:Key),MV.str y.giver)).map prM));have d1:updM M D (.lst ((F.map λy=>((Xs y.name:Key),MV.str y.giver)).map prM)) D=some (.lst ((F.map λy=>((Xs y.name:Key),MV.str y.giver)).map prM)):=X9;generalize updM M D _=M1 at*;simp!;refine⟨_,d1,λa ha=>?_⟩;have s2:=s1.trans (SameM.new ha (.dic (dirK F (·.giver))));have ha2:updM M1 a (.dic (dirK F (·.giver))) a=some (.dic (dirK F (·.giver))):=X9
 change wSs _ _ _ _ (updM M1 a (.dic (dirK F (·.giver))))
 generalize updM M1 a _=M2 at*;have hf2:=s2 _ _ hf;delta NK;simp!;refine _O F Fer.mv (λx=>.tup [.str x.name,.str x.taker]) ?_ ?_ hΦ λD2 hD2=>?_
 ·simp![hf2]
  exact⟨rfl,by lia,hf2⟩
 ·intro x hx M' s;simp only[sCm,Xy,Yc,Yp,Yq,Yj,Y8]
  simp![Fer.mv]
  try exact⟨rfl,rfl⟩
 rw[QX F (·.taker)];have s3:=SameM.new hD2 (.lst ((F.map λy=>((Xs y.name:Key),MV.str y.taker)).map prM));have d3:updM M2 D2 (.lst ((F.map λy=>((Xs y.name:Key),MV.str y.taker)).map prM)) D2=some (.lst ((F.map λy=>((Xs y.name:Key),MV.str y.taker)).map prM)):=X9;generalize updM M2 D2 _=M3 at*;simp!;refine⟨_,d3,λb hb=>?_⟩;have s4:=s3.trans (SameM.new hb (.dic (dirK F (·.taker))));have hb4:updM M3 b (.dic (dirK F (·.taker))) b=some (.dic (dirK F (·.taker))):=X9
 change wSs _ _ _ _ (updM M3 b (.dic (dirK F (·.taker))))
 generalize updM M3 b _=M4 at*;have ha4:=s4 _ _ ha2;have s5:=s2.trans s4;have hp4:=s5 _ _ hp;have hI4:=hI.keep s5;delta NJ
 simp![hp4]
 obtain⟨J,hJ⟩:∃J:Nat->Sm->MH->Prop,∀j σ M',J j σ M'↔M'=M4/\∃v v',σ=[some (.ref p),some (.ref f),some (.ref a),some (.ref b),v,v']:=⟨_,λ_ _ _=>Ym⟩;refine⟨J,(hJ _ _ _).mpr ⟨rfl,_,_,rfl⟩,λj σ M' h=>by rw[((hJ _ _ _).mp h).1];exact hp4,?_,?_⟩
 ·rintro j y σ M' hy h;obtain⟨rfl,v,v',rfl⟩:=(hJ _ _ _).mp h;obtain⟨I,hm,c,d,rfl,hc,hd⟩:=hI4.mem (Xz hy);obtain⟨l12,hS⟩:=hE I hm;delta NI
  simp![hd]
  obtain⟨J2,hJ2⟩:∃J2:Nat->Sm->MH->Prop,∀j σ M,J2 j σ M↔M=M'/\∃v',σ=[some (.ref p),some (.ref f),some (.ref a),some (.ref b),some (.tup [.str I.name,.ref c,.ref d]),v']:=⟨_,λ_ _ _=>Ym⟩;refine⟨J2,(hJ2 _ _ _).mpr ⟨rfl,_,rfl⟩,λj σ M h=>by rw[((hJ2 _ _ _).mp h).1];exact hd,?_,?_⟩
  ·rintro i x σ M'' hx h2;obtain⟨rfl,v',rfl⟩:=(hJ2 _ _ _).mp h2;obtain⟨hi,rfl⟩:=YQ hx;have hi:i<I.stps.length:=hi;obtain⟨e1,ns,n,e2⟩:=hS _ (XV hi);delta NH;simp!;refine⟨I.name,I.stps[i],a,b,F,rfl,ha4,hb4,nd,e1,_dn e2,?_⟩;simp!;exact(hJ2 _ _ _).mpr ⟨rfl,_,rfl⟩
  ·rintro σ M'' h2;obtain⟨rfl,v',rfl⟩:=(hJ2 _ _ _).mp h2
   try simp!
   exact(hJ _ _ _).mpr ⟨rfl,_,_,rfl⟩
 ·rintro σ M' h;obtain⟨rfl,_⟩:=(hJ _ _ _).mp h;exact q _ s5
theorem FroD.up:∀{n:Nat} {v v':MV},FroD n M v v'->FroD (n+1) M v v'
 |0,_,_,h=>.inl h
 |n+1,v,v',h=>by
  rcases h with h|⟨ps,h1,h2,h3,h4⟩
  ·exact .inl h
  ·exact .inr ⟨ps,h1,h2,h3,λp hp=>(h4 p hp).up⟩
theorem FroD.to(h:FroD n M v v')(l:n≤m):FroD m M v v':=by
 obtain⟨d,rfl⟩:∃d,m=n+d:=⟨m - n,by lia⟩
 clear l
 induction d with
 |zero=>exact h
 |succ d ih=>exact ih.up
theorem fro_str:FroD 0 M (.str z) (.str z):=⟨.inr ⟨z,rfl⟩,rfl⟩
theorem fro_int:FroD 0 M (.int i) (.int i):=⟨.inl ⟨i,rfl⟩,rfl⟩
theorem _V(l:xs.length≤1000)(h:∀x∈xs,FroD n M x x):FroD (n+1) M (.tup xs) (.tup xs):=by
 have e1:(xs.map λx=>(x,x)).map (·.1)=xs:=by rw[Ys];exact BJ xs
 have e2:(xs.map λx=>(x,x)).map (·.2)=xs:=by rw[Ys];exact BJ xs
 refine .inr ⟨xs.map λx=>(x,x),.inl (by rw[e1]),by rw[e2],by rw[Xa];exact l,λp hp=>?_⟩
 obtain⟨x,hx,rfl⟩:=XS.mp hp;exact h x hx
theorem Gx(e:M a=some (.lst xs))(l:xs.length≤1000)(h:∀x∈xs,FroD n M x x):FroD (n+1) M (.ref a) (.tup xs):=by
 have e1:(xs.map λx=>(x,x)).map (·.1)=xs:=by rw[Ys];exact BJ xs
 have e2:(xs.map λx=>(x,x)).map (·.2)=xs:=by rw[Ys];exact BJ xs
 refine .inr ⟨xs.map λx=>(x,x),.inr ⟨a,rfl,by rw[e1];exact e⟩,by rw[e2],by rw[Xa];exact l,λp hp=>?_⟩
 obtain⟨x,hx,rfl⟩:=XS.mp hp;exact h x hx
theorem UN:∀U:Tm,FroD U.depth M U.mv U.mv
 |.num n=>_V (xs:=[.str "num",.int n]) (by simp) (by
   intro x hx;simp only[Xl,XL,or_false]at hx;rcases hx with rfl|rfl
   ·exact fro_str
   ·exact fro_int)
 |.var z=>_V (xs:=[.str "var",.str z]) (by simp) (by
   intro x hx;simp only[Xl,XL,or_false]at hx;rcases hx with rfl|rfl
   ·exact fro_str
   ·exact fro_str)
 |.two f a b=>by
  have ha:=UN (M:=M) a;have hb:=UN (M:=M) b;show FroD (1+max a.depth b.depth) M (.tup [.str f.str,a.mv,b.mv]) (.tup [.str f.str,a.mv,b.mv]);rw[Nat.add_comm];refine _V (by simp) λx hx=>?_
  simp only[Xl,XL,or_false]at hx;rcases hx with rfl|rfl|rfl
  ·exact fro_str.to (YK _)
  ·exact ha.to (by lia)
  ·exact hb.to (by lia)
 |.pick c a b=>by
  have hc:=UN (M:=M) c;have ha:=UN (M:=M) a;have hb:=UN (M:=M) b;show FroD (1+max c.depth (max a.depth b.depth)) M (.tup [.str "pick",c.mv,a.mv,b.mv]) (.tup [.str "pick",c.mv,a.mv,b.mv]);rw[Nat.add_comm];refine _V (by simp) λx hx=>?_
  simp only[Xl,XL,or_false]at hx;rcases hx with rfl|rfl|rfl|rfl
  ·exact fro_str.to (YK _)
  ·exact hc.to (by lia)
  ·exact ha.to (by lia)
  ·exact hb.to (by lia)
theorem _mr{fs:List Str}(h:ZT fs ns n S):FroD 9 M S.mv S.mv:=by
 cases S with
 |take f x=>
  refine _V (xs:=[.str "take",.str f,.str x]) (by simp) fun v hv=>?_
  simp only[Xl,XL,or_false]at hv;rcases hv with rfl|rfl|rfl<;>exact fro_str.to (by decide)
 |give f U=>
  refine _V (xs:=[.str "give",.str f,U.mv]) (by simp) fun v hv=>?_
  simp only[Xl,XL,or_false]at hv;rcases hv with rfl|rfl|rfl
  ·exact fro_str.to (by decide)
  ·exact fro_str.to (by decide)
  ·exact(UN U).to h.2.1
 |put f U=>
  refine _V (xs:=[.str "put",.str f,U.mv]) (by simp) fun v hv=>?_
  simp only[Xl,XL,or_false]at hv;rcases hv with rfl|rfl|rfl
  ·exact fro_str.to (by decide)
  ·exact fro_str.to (by decide)
  ·exact(UN U).to h.2.1
 |jump U i=>
  refine _V (xs:=[.str "jump",U.mv,.int i]) (by simp) fun v hv=>?_
  simp only[Xl,XL,or_false]at hv;rcases hv with rfl|rfl|rfl
  ·exact fro_str.to (by decide)
  ·exact(UN U).to h.1.1
  ·exact fro_int.to (by decide)
theorem _nA{k:Nat}{fs:List Str}(ok:IslOk k fs I)(h:IslIn M I y):FroD 11 M y I.mv:=by
 obtain⟨a,b,rfl,ha,hb⟩:=h;have l1:=ok.nv;have l2:=ok.ns;refine .inr ⟨[(.str I.name,.str I.name),(.ref a,.tup (I.prs.map prV)),(.ref b,.tup (I.stps.map Stp.mv))],.inl rfl,rfl,by simp,λp hp=>?_⟩
 simp only[Xl,XL,or_false]at hp;rcases hp with rfl|rfl|rfl
 ·exact fro_str.to (by decide)
 ·refine Gx ha (by rw[Xa];lia) λx hx=>?_
  obtain⟨q,_,rfl⟩:=XS.mp hx;refine(_V (n:=0) (xs:=[.str q.1,.int q.2]) (by simp) λv hv=>?_).to (by decide)
  simp only[Xl,XL,or_false]at hv;rcases hv with rfl|rfl
  ·exact fro_str
  ·exact fro_int
 ·refine Gx hb (by rw[Xa];lia) λx hx=>?_
  obtain⟨S,hS,rfl⟩:=XS.mp hx;exact _mr (ok.st S hS)
theorem _nX(f:Fer):FroD 1 M f.mv f.mv:=by
 refine _V (xs:=[.str f.name,.str f.giver,.str f.taker,.int f.k,.int f.st]) (by simp) λv hv=>?_
 simp only[Xl,XL,or_false]at hv;rcases hv with rfl|rfl|rfl|rfl|rfl
 ·exact fro_str
 ·exact fro_str
 ·exact fro_str
 ·exact fro_int
 ·exact fro_int
theorem _kR{k:Nat}{fs:List Str}(hp:M p=some (.lst ys))(h:IslsIn M Is ys)(l:Is.length≤5)(ok:∀I∈Is,IslOk k fs I):FroD 12 M (.ref p) (.tup (Is.map Isl.mv)):=by
 have hl:=h.1;have e1:(ys.zip (Is.map Isl.mv)).map (·.1)=ys:=List.map_fst_zip (by rw[Xa];lia)
 have e2:(ys.zip (Is.map Isl.mv)).map (·.2)=Is.map Isl.mv:=List.map_snd_zip (by rw[Xa];lia)
 refine .inr ⟨ys.zip (Is.map Isl.mv),.inr ⟨p,rfl,by rw[e1];exact hp⟩,by rw[e2],by rw[List.length_zip,Xa];lia,λq hq=>?_⟩
 obtain⟨i,hi,rfl⟩:=Y6 hq;rw[List.length_zip,Xa]at hi;have hi1:i<ys.length:=by lia
 have hi2:i<Is.length:=by lia
 rw[List.getElem_zip,Dy];exact _nA (ok _ (XV hi2)) (h.2 i _ _ (Xc hi2) (Xc hi1))
def fstM:MV->MV
 |.tup (x::_)=>x
 |v=>v
abbrev Be:SpM:=λvs M Q=>∃(p f:Addr) (ys:List MV) (W:Wld),vs=[.int W.w,.ref p,.ref f]/\M p=some (.lst ys)/\IslsIn M W.isl ys/\M f=some (.lst (W.fer.map Fer.mv))/\W.Good/\∀M',SameM M M'->Q W.mv M'
theorem QY:MonW Be:=by walk_at "m"
theorem _nd(T:Txt K mg t):FnOk P w K mg base CX0 56 t.fF t.fZ ["width","islands","ferries"] (liSp K Be):=by
 refine T.c9.F.okM _mx (fC (G:=NY) (Φ:=[("frozen",(ZS 13)),("is_width",D3),("refuse_ferry",D9),("refuse_ferry_names",D4),("refuse_islands",D7),("refuse_wrong_ends",Db)]) T rfl (fMc ⟨(CZ _),(fMc ⟨QO,(fMc ⟨QT,(fMc ⟨QP,(fMc ⟨QS,(fMc ⟨QW,nl0⟩)⟩)⟩)⟩)⟩)⟩) (fMc ⟨⟨_,_,_,FnOk.mono (QK T 13) (by decide),T.ak.m,T.ak.F.kp,T.ak.b⟩,(fMc ⟨⟨_,_,_,FnOk.mono (_fx T) (by decide),T.aH.m,T.aH.F.kp,T.aH.b⟩,(fMc ⟨⟨_,_,_,FnOk.mono (_b1 T) (by decide),T.aM.m,T.aM.F.kp,T.aM.b⟩,(fMc ⟨⟨_,_,_,FnOk.mono (_5x T) (by decide),T.aL.m,T.aL.F.kp,T.aL.b⟩,(fMc ⟨⟨_,_,_,FnOk.mono (_8Y T) (by decide),T.aF.m,T.aF.F.kp,T.aF.b⟩,(fMc ⟨⟨_,_,_,FnOk.mono (_6I T) (by decide),T.aN.m,T.aN.F.kp,T.aN.b⟩,nl0⟩)⟩)⟩)⟩)⟩)⟩)) FJ _o7 (fun vs M Q h=>?_) (fun vs M Q h=>?_)
 ·obtain⟨p,f,ys,W,rfl,_⟩:=h;rfl
 obtain⟨p,f,ys,W,rfl,hp,hI,hf,G,q⟩:=h;have hΦ:=UL (Φ:=[("frozen",ZS 13),("is_width",D3),("refuse_ferry",D9),("refuse_ferry_names",D4),("refuse_islands",D7),("refuse_wrong_ends",Db)]) (fMc ⟨CZ 13,fMc ⟨QO,fMc ⟨QT,fMc ⟨QP,fMc ⟨QS,fMc ⟨QW,fun _ h=>nomatch h⟩⟩⟩⟩⟩⟩);show wSs _ _ _ [some (.int W.w),some (.ref p),some (.ref f),none,none] M;have w1:=G.w1;have w2:=G.w2;have i5:=G.i5;have f6:=G.f6;have hl:=hI.1;have nd:=Zi.mp G.nd;delta FJ NX;simp!;refine⟨W.w,rfl,by lia,by lia,?_⟩
 simp!;delta NW
 simp![hp]
 refine Y5 (λz=>by lia) (λ_=>?_)
 delta NV
 simp![hf,Xa]
 refine Y5 (λz=>by lia) (λ_=>?_)
 delta NU;simp!;refine⟨f,W.fer,rfl,hf,f6,nd.1,λx hx=>G.fg _ (XS.mpr ⟨x,hx,rfl⟩),λM1 s1=>?_⟩;simp!;have hf1:=s1 _ _ hf;delta NT;simp!;refine _O W.fer Fer.mv (λx=>.str x.name) ?_ ?_ hΦ λD hD=>?_
 ·simp![hf1]
  exact⟨rfl,by lia,hf1⟩
 ·intro x hx M' s;simp only[sCm,Xy,Yc,Yp,Yq,Yj,Y8]
  simp![Fer.mv]
  try exact⟨rfl,rfl⟩
 have eF:(W.fer.map λx=>MV.str x.name)=W.fns.map MV.str:=by unfold Wld.fns;rw[Ys];rfl
 rw[eF];have s2:=s1.trans (SameM.new hD (.lst (W.fns.map MV.str)));have hD2:updM M1 D (.lst (W.fns.map MV.str)) D=some (.lst (W.fns.map MV.str)):=X9;generalize updM M1 D _=M2 at*
 try simp!
 refine⟨W.w,p,D,W.isl,ys,W.fns,rfl,w2,s2 _ _ hp,hI.keep s2,i5,by unfold Wld.fns;rw[Xa];exact f6,hD2,G.nd,λI hi=>G.ig _ (XS.mpr ⟨I,hi,rfl⟩),G.io,λM3 s3=>?_⟩
 have s4:=s2.trans s3;have hp3:=s4 _ _ hp;have hf3:=s4 _ _ hf;have hI3:=hI.keep s4;simp!;delta NS;simp!;refine _O ys (λy=>y) fstM ?_ ?_ hΦ λD hD=>?_
 ·simp![hp3]
  exact⟨by simp[Src.items],by lia,hp3⟩
 ·intro y hy M' s;obtain⟨I,_,a,b,rfl,_⟩:=hI3.mem hy;simp only[sCm,Xy,Yc,Yp,Yq,Yj,Y8];simp!
  rfl
 have eI:ys.map fstM=W.ins.map MV.str:=hI.fst λz r=>rfl;rw[eI];have s5:=s4.trans (SameM.new hD (.lst (W.ins.map MV.str)));have hD5:updM M3 D (.lst (W.ins.map MV.str)) D=some (.lst (W.ins.map MV.str)):=X9;generalize updM M3 D _=M5 at*;have hf5:=s5 _ _ hf;delta NR
 simp![hf5]
 obtain⟨J,hJ⟩:∃J:Nat->Sm->MH->Prop,∀j σ M',J j σ M'↔M'=M5/\∃v,σ=[some (.int W.w),some (.ref p),some (.ref f),some (.ref D),v]:=⟨_,λ_ _ _=>Ym⟩;refine⟨J,(hJ _ _ _).mpr ⟨rfl,_,rfl⟩,λj σ M' h=>by rw[((hJ _ _ _).mp h).1];exact hf5,?_,?_⟩
 ·rintro j y σ M' hy h;obtain⟨rfl,v,rfl⟩:=(hJ _ _ _).mp h;obtain⟨hj,rfl⟩:=YQ hy;have hj:j<W.fer.length:=hj;delta NQ;simp!;refine⟨W.fer[j],D,W.ins,rfl,hD5,G.fo _ (XV hj),?_⟩;simp!;exact(hJ _ _ _).mpr ⟨rfl,_,rfl⟩
 ·rintro σ M' h;obtain⟨rfl,v,rfl⟩:=(hJ _ _ _).mp h;delta NP;simp!;refine⟨p,f,ys,W.isl,W.fer,rfl,s5 _ _ hp,hI.keep s5,i5,hf5,f6,nd.1,λI hi=>⟨(G.io I hi).ns,λS hS=>⟨G.en I hi S hS,_,_,(G.io I hi).st S hS⟩⟩,λM6 s6=>?_⟩;have s7:=s5.trans s6;simp!;delta NO;simp!;refine⟨_,W.mv,rfl,?_,λM' s'=>q M' (s7.trans s')⟩;refine .inr ⟨[(.int W.w,.int W.w),(.ref p,.tup (W.isl.map Isl.mv)),(.ref f,.tup (W.fer.map Fer.mv))],.inl rfl,rfl,by simp,λz hz=>?_⟩
  simp only[Xl,XL,or_false]at hz;rcases hz with rfl|rfl|rfl
  ·exact fro_int.to (by decide)
  ·exact _kR (s7 _ _ hp) (hI.keep s7) i5 G.io
  ·refine(Gx (n:=1) (s7 _ _ hf) (by rw[Xa];lia) λx hx=>?_).to (by decide)
   obtain⟨y,_,rfl⟩:=XS.mp hx;exact _nX y
theorem _fz(m:Nat):∀n:Nat,(m^^^n)+2*(m&&& n)=m+n:=by
 induction m using Nat.strongRecOn with
 |ind m ih=>
  intro n;by_cases h0:m=0
  ·subst h0;simp
  ·have ih':=ih (m/2) (by lia) (n/2)
   rw[<- Nat.xor_div_two,<- Nat.and_div_two]at ih';have x1:=@Nat.xor_mod_two_eq_one m n;have a1:=@Nat.and_mod_two_eq_one m n;lia
def seen(o n c:Nat):Nat:=o^^^((o^^^n)&&& c)
def ZW(x k:Nat):Nat:=x/2^k%2
theorem _lf(x k:Nat):ZW x k=0\/ZW x k=1:=by unfold ZW;lia
theorem _le(x k:Nat):ZW x k=(x.testBit k).toNat:=by
 rw[Nat.testBit_eq_decide_div_mod_eq];have:=_lf x k;unfold ZW at*;rcases this with h|h<;>simp[h]
theorem Dc(x k:Nat):x%2^(k+1)=x%2^k+ZW x k*2^k:=by
 rw[Nat.mod_pow_succ,BZ];rfl
theorem QZ(o n c k:Nat):ZW (seen o n c) k=if ZW c k=1 then ZW n k else ZW o k:=by
 simp only[_le,seen,Nat.testBit_xor,DM];cases o.testBit k<;>cases n.testBit k<;>cases c.testBit k<;>simp
theorem R0{k:Nat}(ho:o<2^k)(hn:n<2^k):seen o n c<2^k:=by
 unfold seen;refine DK ho ?_;exact DJ Nat.and_le_left (DK ho hn)
theorem seen_ones{k:Nat}(ho:o<2^k)(hn:n<2^k):seen o n (2^k - 1)=n:=by
 unfold seen;rw[Nat.and_two_pow_sub_one_eq_mod,V1 (DK ho hn),<- Nat.xor_assoc,Nat.xor_self,Nat.zero_xor]
theorem R4(o n c:Nat):∀k,seen o n c%2^k+seen n o c%2^k=o%2^k+n%2^k
 |0=>by simp[Nat.mod_one]
 |k+1=>by
  have ih:=R4 o n c k;rw[Dc,Dc,Dc,Dc,QZ,QZ];split<;>lia
theorem seen_both{k:Nat}(ho:o<2^k)(hn:n<2^k):seen o n c+seen n o c=o+n:=by
 have h:=R4 o n c k;rw[V1 (R0 ho hn),V1 (R0 hn ho),V1 ho,V1 hn]at h;exact h
theorem Dd(m n:Nat):Ck (m:Int) (n:Int)=((m^^^n:Nat):Int):=by
 rw[PyProof.Rows.bitXor_and,Hk (WB m) (WB n),YL,YL];have:=_fz m n;lia
theorem _lg(m n:Nat):Cj (m:Int) (n:Int)=((m&&& n:Nat):Int):=by
 rw[Hk (WB m) (WB n),YL,YL]
def gray(n:Nat):Nat:=n^^^(n/2)
noncomputable def ugF:Nat->Nat->Nat->Nat
 |0,n,_=>n
 |k+1,n,a=>if a=0 then n else ugF k (n^^^a) (a/2)
theorem _k1:∀k n,ugF k n 0=n
 |0,_=>rfl
 |k+1,n=>by simp[ugF]
def Wi(w:Nat):Nat:=ugF 64 w (w/2)
def De(x:Nat):Bool:=x==1||x==2||x==4||x==8
def ZoB(m:Nat):Bool:=(Xr (2^(m+1))).all λn=>decide (gray n<16)&&decide (Wi (gray n)=n)&&De (gray n^^^gray ((n+1)%2^(m+1)))
theorem _k2:(Xr 4).all ZoB=true:=by decide+kernel
theorem R5(hm:m<4)(hn:n<2^(m+1)):gray n<16/\Wi (gray n)=n/\De (gray n^^^gray ((n+1)%2^(m+1)))=true:=by
 have h1:=BG.mp _k2 m (Zb.mpr hm);have h2:=BG.mp h1 n (Zb.mpr hn);simp only[XX,decide_eq_true_eq]at h2;exact⟨h2.1.1,h2.1.2,h2.2⟩
theorem _oe(h:De x=true):x&&& c=0\/x&&& c=x:=by
 have key:∀i:Nat,(2^i&&& c)=0\/(2^i&&& c)=2^i:=λi=>by
  cases h:c.testBit i with
  |false=>
   left
   refine Nat.eq_of_testBit_eq λj=>?_;rw[DM,Nat.testBit_two_pow,Nat.zero_testBit];by_cases e:i=j
   ·subst e;rw[h,BR]
   ·rw[decide_eq_false e,Wz]
  |true=>
   right
   refine Nat.eq_of_testBit_eq λj=>?_;rw[DM,Nat.testBit_two_pow];by_cases e:i=j
   ·subst e;rw[h,Bool.and_true]
   ·rw[decide_eq_false e,Wz]
 unfold De at h;simp only[BQ,beq_iff_eq]at h;rcases h with((rfl|rfl)|rfl)|rfl
 ·exact key 0
 ·exact key 1
 ·exact key 2
 ·exact key 3
set_option tactic.hygienic true in
theorem _ia(hm:m<4)(h:a=b\/a=b+1):
  seen (gray (b%2^(m+1))) (gray (a%2^(m+1))) c=if c&&&(gray (a%2^(m+1))^^^gray (b%2^(m+1)))=0 then gray (b%2^(m+1))else gray (a%2^(m+1)):=by
 have pos:0<2^(m+1):=Zn _;have hb:=R5 hm (VM b pos);have ea:a=b+1->(b%2^(m+1)+1)%2^(m+1)=a%2^(m+1):=λe=>by rw[e,Nat.mod_add_mod]
 unfold seen;rcases h with rfl|h
 ·rw[Nat.xor_self,Nat.and_zero,if_pos rfl,Nat.zero_and,Nat.xor_zero]
 ·have hx:=hb.2.2;rw[ea h]at hx;rw[Nat.and_comm c,Nat.xor_comm (gray (a%2^(m+1)))];rcases _oe (c:=c) hx with e|e
  ·rw[e,if_pos rfl,Nat.xor_zero]
  ·rw[e,<- Nat.xor_assoc,Nat.xor_self,Nat.zero_xor];split
   ·rename_i z
    rw[z]at hx;cases hx
   ·rfl
structure Ab where
 k:Nat
 ws:List Nat
 tn:Nat
 gp:Nat
 tp:Nat
 gm:Int
 tm:Int
 gx:List Nat
 tx:List Nat
 lg:Nat
 lt:Nat
def Zs(k n p:Nat)(fresh:Bool)(c:Nat):Nat:=if fresh=true/\c&&&(gray (n%2^(k+1))^^^gray (p%2^(k+1)))=0 then p else n
def XI(xs:List Nat):Nat:=xs.getLastD 0
def Ab.gSamp(A:Ab)(c:Nat):Nat:=Zs A.k A.tn A.tp (decide (A.gm<A.tm)) c
def Ab.tSamp(A:Ab)(c:Nat):Nat:=Zs A.k A.ws.length A.gp (decide (A.tm<A.gm)) c
def Ab.gives(A:Ab)(w:Option Nat):Bool:=w.isSome&&decide (A.ws.length<XI A.gx+2^A.k)
def Ab.takes(A:Ab)(w:Bool):Bool:=w&&decide (XI A.tx≠A.tn)
noncomputable def Ab.giver(A:Ab)(m:Int)(c:Nat)(w:Option Nat):Ab:=
 {A with ws:=if A.gives w=true then A.ws++[w.getD 0]else A.ws,gp:=A.ws.length,gm:=m,gx:=A.gSamp c::A.gx.dropLast,lg:=A.tn}
noncomputable def Ab.taker(A:Ab)(m:Int)(c:Nat)(w:Bool):Ab:=
 {A with tn:=if A.takes w=true then A.tn+1 else A.tn,tp:=A.tn,tm:=m,tx:=A.tSamp c::A.tx.dropLast,lt:=A.ws.length}
structure Ab.Ok (A:Ab):Prop where
 k4:A.k<4
 gl:1≤A.gx.length/\A.gx.length≤3
 tl:A.tx.length=A.gx.length
 g1:A.gp≤A.ws.length/\A.ws.length≤A.gp+1
 t1:A.tp≤A.tn/\A.tn≤A.tp+1
 gs:A.gx.Pairwise (·≥ ·)
 ts:A.tx.Pairwise (·≥ ·)
 gb:∀d∈A.gx,d≤A.lg/\A.ws.length≤d+2^A.k
 tb:∀c∈A.tx,c≤A.lt/\A.tn≤c
 lg1:A.lg≤A.tn
 lt1:A.lt≤A.ws.length
 lg2:A.gm<A.tm->A.lg≤A.tp
 lt2:A.tm<A.gm->A.lt≤A.gp
theorem Bf:∀{xs:List Nat},1≤xs.length->xs=xs.dropLast++[XI xs]
 |[],h=>by simp at h
 |[a],_=>rfl
 |a::b::s,_=>by
  have ih:=Bf (xs:=b::s) (by simp)
  have e:XI (a::b::s)=XI (b::s):=by simp[XI]
  rw[e];show a::b::s=a::((b::s).dropLast++[XI (b::s)]);rw[<- ih]
theorem _f(h:1≤xs.length):XI xs∈xs:=by
 have e:=Bf h;rw[e];have e2:XI (xs.dropLast++[XI xs])=XI xs:=by rw[<- e]
 rw[e2];simp
theorem _jR{k n p:Nat}{f:Bool}{c:Nat}:Zs k n p f c=p\/Zs k n p f c=n:=by
 unfold Zs;split
 ·exact .inl rfl
 ·exact .inr rfl
theorem _jQ{k:Nat}:Zs k n p false c=n:=by simp[Zs]
theorem R6{k:Nat}(h1:p≤n)(h2:l≤n)(h3:f=true->l≤p):l≤Zs k n p f c/\Zs k n p f c≤n:=by
 cases f with
 |false=>rw[_jQ];exact⟨h2,Xg _⟩
 |true=>
  rcases @_jR k n p true c with e|e
  all_goals first|exact⟨by rw[e];exact h3 rfl,by rw[e];exact h1⟩|exact⟨by rw[e];exact h2,by rw[e];exact Xg _⟩
theorem Ab.Ok.gSamp{A:Ab}(h:A.Ok)(c:Nat):A.lg≤A.gSamp c/\A.gSamp c≤A.tn:=R6 h.t1.1 h.lg1 (λf=>h.lg2 (of_decide_eq_true f))
theorem Ab.Ok.tSamp{A:Ab}(h:A.Ok)(c:Nat):A.lt≤A.tSamp c/\A.tSamp c≤A.ws.length:=R6 h.g1.1 h.lt1 (λf=>h.lt2 (of_decide_eq_true f))
theorem Ab.Ok.room{A:Ab}(h:A.Ok):A.tn≤A.ws.length/\A.ws.length≤A.tn+2^A.k:=by
 have a:=h.gb _ (_f h.gl.1);have b:=h.tb _ (_f (by rw[h.tl];exact h.gl.1))
 have:=h.lg1;have:=h.lt1;lia
set_option tactic.hygienic true in
theorem Ab.Ok.giver{A:Ab}(h:A.Ok){m:Int}{c:Nat}{w:Option Nat}(hm:A.tm<m):(A.giver m c w).Ok:=by
 have hs:=h.gSamp c;have hl:=h.gb _ (_f h.gl.1);have rm:=h.room;have gn:∃n,(A.giver m c w).ws.length=n/\A.ws.length≤n/\n≤A.ws.length+1/\n≤XI A.gx+2^A.k:=by
  unfold Ab.giver;dsimp only;split
  ·rename_i e
   unfold Ab.gives at e;simp only[XX,decide_eq_true_eq]at e;exact⟨_,rfl,by simp,by simp,by simp;lia⟩
  ·exact⟨_,rfl,by lia,by lia,by lia⟩
 obtain⟨n,en,n1,n2,n3⟩:=gn;refine⟨h.k4,?_,?_,?_,h.t1,?_,h.ts,?_,?_,Xg _,?_,λz=>?_,λz=>?_⟩
 ·show 1≤(A.gSamp c::A.gx.dropLast).length/\(A.gSamp c::A.gx.dropLast).length≤3;have:=h.gl;simp only[Yr,Wq];lia
 ·show A.tx.length=(A.gSamp c::A.gx.dropLast).length;have:=h.gl;have:=h.tl;simp[Wq];lia
 ·rw[en];exact⟨n1,n2⟩
 ·show(A.gSamp c::A.gx.dropLast).Pairwise (·≥ ·);rw[Dv];refine⟨λd hd=>?_,HR (List.dropLast_sublist _) h.gs⟩;have:=(h.gb d (BD _ hd)).1;show d≤A.gSamp c;lia
 ·intro d hd;rw[en];show d≤A.tn/\n≤d+2^A.k;rcases Xl.mp hd with rfl|hd
  ·have:=hl.1;exact⟨hs.2,by lia⟩
  ·have hm:=BD _ hd;refine⟨Y4 (h.gb d hm).1 h.lg1,?_⟩;have:XI A.gx≤d:=by
    have e:=Bf h.gl.1;have p:=h.gs;rw[e]at p;exact(List.pairwise_append.mp p).2.2 d hd _ (Y3.mpr rfl)
   lia
 ·exact h.tb
 ·rw[en];exact Y4 h.lt1 n1
 ·exact absurd z (by show¬m<A.tm;lia)
 ·exact h.lt1
set_option tactic.hygienic true in
theorem Ab.Ok.taker{A:Ab}(h:A.Ok){m:Int}{c:Nat}{w:Bool}(hm:A.gm<m):(A.taker m c w).Ok:=by
 have hs:=h.tSamp c;have tl1:1≤A.tx.length:=by rw[h.tl];exact h.gl.1
 have hl:=h.tb _ (_f tl1);have rm:=h.room;have gn:∃n,(A.taker m c w).tn=n/\A.tn≤n/\n≤A.tn+1/\n≤XI A.tx:=by
  unfold Ab.taker;dsimp only;split
  ·rename_i e
   unfold Ab.takes at e;simp only[XX,decide_eq_true_eq]at e;exact⟨_,rfl,by simp,by simp,by lia⟩
  ·exact⟨_,rfl,by lia,by lia,by lia⟩
 obtain⟨n,en,n1,n2,n3⟩:=gn;refine⟨h.k4,h.gl,?_,h.g1,?_,h.gs,?_,?_,?_,?_,Xg _,λz=>?_,λz=>?_⟩
 ·show(A.tSamp c::A.tx.dropLast).length=A.gx.length;have:=h.tl;simp[Wq];lia
 ·rw[en];exact⟨n1,n2⟩
 ·show(A.tSamp c::A.tx.dropLast).Pairwise (·≥ ·);rw[Dv];refine⟨λd hd=>?_,HR (List.dropLast_sublist _) h.ts⟩;have:=(h.tb d (BD _ hd)).1;show d≤A.tSamp c;lia
 ·exact h.gb
 ·intro d hd;rw[en];show d≤A.ws.length/\n≤d;rcases Xl.mp hd with rfl|hd
  ·exact⟨hs.2,by have:=hl.1;lia⟩
  ·have hm:=BD _ hd;refine⟨Y4 (h.tb d hm).1 h.lt1,?_⟩;have:XI A.tx≤d:=by
    have e:=Bf tl1;have p:=h.ts;rw[e]at p;exact(List.pairwise_append.mp p).2.2 d hd _ (Y3.mpr rfl)
   lia
 ·rw[en];exact Y4 h.lg1 n1
 ·exact h.lg1
 ·exact absurd z (by show¬m<A.gm;lia)
def ab0(k st:Nat):Ab:=⟨k,[],0,0,0,-1,-1,Xi st 0,Xi st 0,0,0⟩
theorem R7(n:Nat):(Xi n 0).Pairwise (·≥ ·):=by
 induction n with
 |zero=>exact .nil
 |succ n ih=>rw[Za,Dv];exact⟨λd hd=>by rw[UV hd];exact Xg _,ih⟩
theorem _qu{k st:Nat}(hk:k<4)(h1:1≤st)(h3:st≤3):(ab0 k st).Ok:=by
 refine⟨hk,by simpa [ab0]using⟨h1,h3⟩,by simp[ab0],by simp[ab0],by simp[ab0],R7 _,R7 _,?_,?_,Xg _,Xg _,λz=>Xg _,λz=>Xg _⟩
 ·intro d hd;rw[UV hd];exact⟨Xg _,YK _⟩
 ·intro d hd;rw[UV hd];exact⟨Xg _,Xg _⟩
def PlOk(A:Ab)(pl:List (Nat×Nat×Int)):Prop:=pl.length=2^A.k/\∀j (hj:j<A.ws.length),A.ws.length≤j+2^A.k->∃ah,pl[j%2^A.k]?=some (A.ws[j],ah,A.gm)/\(j<A.gp->ah=A.ws[j])
noncomputable def YR(A:Ab)(m:Int)(w:Option Nat)(pl:List (Nat×Nat×Int)):List (Nat×Nat×Int):=
 (Xr pl.length).map λi=>((if A.gives w=true/\i=A.ws.length%2^A.k then w.getD 0 else(pl.getD i (0,0,0)).1),(pl.getD i (0,0,0)).1,m)
theorem _pR{a b n:Nat}(h1:a<b)(h2:b<a+n):a%n≠b%n:=by
 intro e;have h3:(b - a)%n=0:=Nat.sub_mod_eq_zero_of_mod_eq e.symm;rw[V1 (by lia)]at h3
 lia
theorem _hd{A:Ab}{m:Int}{c:Nat}{w:Option Nat}{pl:List (Nat×Nat×Int)}(h:PlOk A pl):PlOk (A.giver m c w) (YR A m w pl):=by
 have kpos:0<2^A.k:=Zn _;refine⟨?_,?_⟩
 ·show(YR A m w pl).length=2^A.k;simp[YR,h.1]
 ·intro j hj hr;have hr:(A.giver m c w).ws.length≤j+2^A.k:=hr;show∃ah,(YR A m w pl)[j%2^A.k]?=some ((A.giver m c w).ws[j],ah,m)/\(j<A.ws.length->ah=(A.giver m c w).ws[j]);have lt:j%2^A.k<pl.length:=by rw[h.1];exact VM _ kpos
  have get:(YR A m w pl)[j%2^A.k]?=some ((if A.gives w=true/\j%2^A.k=A.ws.length%2^A.k then w.getD 0 else(pl.getD (j%2^A.k) (0,0,0)).1),(pl.getD (j%2^A.k) (0,0,0)).1,m):=by
   unfold YR;rw[Xq,Wr lt]
   rfl
  rw[get];by_cases g:A.gives w=true
  ·have ew:(A.giver m c w).ws=A.ws++[w.getD 0]:=by unfold Ab.giver;rw[if_pos g]
   have hj2:j<A.ws.length+1:=by rw[ew]at hj;simpa using hj
   have hr2:A.ws.length+1≤j+2^A.k:=by rw[ew]at hr;simpa using hr
   by_cases e:j=A.ws.length
   ·subst e;refine⟨(pl.getD (A.ws.length%2^A.k) (0,0,0)).1,?_,λz=>absurd z (V2 _)⟩;rw[if_pos ⟨g,rfl⟩];simp[ew]
   ·have hj3:j<A.ws.length:=by lia
    obtain⟨ah,ha,_⟩:=h.2 j hj3 (by lia)
    have ne:=_pR (n:=2^A.k) hj3 (by lia)
    have eg:pl.getD (j%2^A.k) (0,0,0)=(A.ws[j],ah,A.gm):=by rw[Yo,ha];rfl
    have ewj:(A.giver m c w).ws[j]=A.ws[j]:=by simp[ew,hj3]
    refine⟨A.ws[j],?_,λ_=>ewj.symm⟩;rw[if_neg (λz=>ne z.2),eg,ewj]
  ·have ew:(A.giver m c w).ws=A.ws:=by unfold Ab.giver;rw[if_neg g]
   have hj3:j<A.ws.length:=by rw[ew]at hj;exact hj
   obtain⟨ah,ha,_⟩:=h.2 j hj3 (by rw[ew]at hr;exact hr)
   have eg:pl.getD (j%2^A.k) (0,0,0)=(A.ws[j],ah,A.gm):=by rw[Yo,ha];rfl
   have ewj:(A.giver m c w).ws[j]=A.ws[j]:=by simp[ew]
   refine⟨A.ws[j],?_,λ_=>ewj.symm⟩;rw[if_neg (λz=>g z.1),eg,ewj]
theorem _hV{A:Ab}(h:A.Ok){pl:List (Nat×Nat×Int)}(hp:PlOk A pl)(ht:XI A.tx≠A.tn):∃(hj:A.tn<A.ws.length) (ah:Nat),pl[A.tn%2^A.k]?=some (A.ws[A.tn],ah,A.gm)/\(A.tm<A.gm->ah=A.ws[A.tn]):=by
 have tl1:1≤A.tx.length:=by rw[h.tl];exact h.gl.1
 have hl:=h.tb _ (_f tl1);have rm:=h.room;have l1:=h.lt1;have hj:A.tn<A.ws.length:=by lia
 obtain⟨ah,ha,hb⟩:=hp.2 A.tn hj rm.2;exact⟨hj,ah,ha,λz=>hb (by have:=h.lt2 z;lia)⟩
theorem _i9(a c:Nat):seen a a c=a:=by simp[seen]
theorem _kl{A:Ab}(h:A.Ok):(((A.ws.length:Int) - ((XI A.gx%2^(A.k+1):Nat):Int))%((2^(A.k+1):Nat):Int)<((2^A.k:Nat):Int))↔A.ws.length<XI A.gx+2^A.k:=by
 have a:=h.gb _ (_f h.gl.1);have rm:=h.room;have l1:=h.lg1;have e:((A.ws.length:Int) - ((XI A.gx%2^(A.k+1):Nat):Int))%((2^(A.k+1):Nat):Int)=((A.ws.length - XI A.gx:Nat):Int):=by
  rw[DP,C2,Int.emod_emod,<- C2];have:(A.ws.length:Int) - (XI A.gx:Int)=((A.ws.length - XI A.gx:Nat):Int):=by lia
  rw[this,<- DP,V1 (by rw[Nat.pow_succ];have:=Zn A.k;lia)]
 rw[e];lia
theorem R8{A:Ab}(h:A.Ok):(((A.tn:Int) - ((XI A.tx%2^(A.k+1):Nat):Int))%((2^(A.k+1):Nat):Int)=0)↔XI A.tx=A.tn:=by
 have tl1:1≤A.tx.length:=by rw[h.tl];exact h.gl.1
 have a:=h.tb _ (_f tl1);have rm:=h.room;have l1:=h.lt1;have p:=Zn A.k;rw[DP,C2,Int.emod_emod,<- C2];constructor
 ·intro z;have d:=Int.dvd_of_emod_eq_zero z;have d':((2^(A.k+1):Nat):Int)∣((XI A.tx - A.tn:Nat):Int):=by
   have:((XI A.tx - A.tn:Nat):Int)= -((A.tn:Int) - (XI A.tx:Int)):=by lia
   rw[this];exact Int.dvd_neg.mpr d
  have d2:=Int.natCast_dvd_natCast.mp d';have:=Nat.eq_zero_of_dvd_of_lt d2 (by rw[Nat.pow_succ];lia)
  lia
 ·intro z;rw[z,Int.sub_self];rfl
abbrev Gy:SpM:=λvs M Q=>∃(o n c:Nat),vs=[.int o,.int n,.int c]/\Q (.int (seen o n c:Nat)) M
theorem _fE:MonW Gy:=by walk_at "m"
theorem _nf(T:Txt K mg t):FnOk P w K mg base CX0 1 t.gH t.cE ["old","new","choice"] (liSp K Gy):=by
 refine T.bO.F.okM _mz (fC (G:=KI) (Φ:=[]) T rfl nl0 nl0) EL _o9 (λvs M Q h=>?_) (λvs M Q h=>?_)
 ·obtain⟨o,n,c,rfl,_⟩:=h;rfl
 obtain⟨o,n,c,rfl,q⟩:=h;show wSs _ _ _ [some (.int o),some (.int n),some (.int c)] M;delta EL KH;simp!;rw[Dd,_lg,Dd];exact q
abbrev Bg:SpM:=λvs M Q=>∃w:Int,vs=[.int w]/\Q (.tup [.int w,.int w,.int (-1)]) M
theorem R9:MonW Bg:=by walk_at "m"
theorem Ra(T:Txt K mg t):FnOk P w K mg base CX0 1 t.eL t.cX ["word"] (liSp K Bg):=by
 refine T.aO.F.okM _dd (fC (G:=KU) (Φ:=[]) T rfl nl0 nl0) EO _dK (λvs M Q h=>?_) (λvs M Q h=>?_)
 ·obtain⟨n,rfl,_⟩:=h;rfl
 obtain⟨n,rfl,q⟩:=h;show wSs _ _ _ [some (.int n)] M;delta EO KS;simp!;exact q
abbrev UO:SpM:=λvs M Q=>∃a b c w m:Int,vs=[.tup [.int a,.int b,.int c],.int w,.int m]/\Q (.tup [.int w,.int a,.int m]) M
theorem Gz:MonW UO:=by walk_at "m"
theorem Rb(T:Txt K mg t):FnOk P w K mg base CX0 1 t.gX t.eU ["sign","word","moment"] (liSp K UO):=by
 refine T.aU.F.okM _kh (fC (G:=KY) (Φ:=[]) T rfl nl0 nl0) EQ _la (λvs M Q h=>?_) (λvs M Q h=>?_)
 ·obtain⟨a,b,c,w,m,rfl,_⟩:=h;rfl
 obtain⟨a,b,c,w,m,rfl,q⟩:=h;show wSs _ _ _ [some (.tup [.int a,.int b,.int c]),some (.int w),some (.int m)] M;delta EQ KW;simp!;exact q
abbrev Vh:SpM:=λvs M Q=>∃(a b:Nat) (m s:Int) (c:Nat),vs=[.tup [.int a,.int b,.int m],.int s,.int c]/\Q (.int ((if s<m then seen b a c else a:Nat):Int)) M
theorem Rc:MonW Vh:=by walk_at "m"
theorem Re(T:Txt K mg t):FnOk P w K mg base CX0 2 t.eJ t.fi ["sign","since","choice"] (liSp K Vh):=by
 refine T.aW.F.okM _h7 (fC (G:=L5) (Φ:=[("amid",Gy)]) T rfl (fMc ⟨_fE,nl0⟩) (fMc ⟨fE T.bO (_nf T),nl0⟩)) ES _hE (fun vs M Q h=>?_) (fun vs M Q h=>?_)
 ·obtain⟨a,b,m,s,c,rfl,_⟩:=h;rfl
 obtain⟨a,b,m,s,c,rfl,q⟩:=h;show wSs _ _ _ [some (.tup [.int a,.int b,.int m]),some (.int s),some (.int c)] M;delta ES L4;simp!;refine Y5 (λh=>?_) (λh=>?_)
 ·rw[if_pos h]at q;delta L3;simp!;exact⟨b,a,c,rfl,q⟩
 ·rw[if_neg h]at q;delta L1;simp!;exact q
abbrev GA:SpM:=λvs M Q=>∃(w:Int) (k:Nat),vs=[.int w,.int k]/\1≤k/\k≤3/\Q (.tup ((Xi k w).map MV.int)) M
theorem _8i:MonW GA:=by walk_at "m"
theorem GD{α:Type}(x:α):∀k:Nat,(Xi k [x]).flatten=Xi k x
 |0=>rfl
 |k+1=>by rw[Za,ZA,GD x k];rfl
theorem _c5(T:Txt K mg t):FnOk P w K mg base CX0 1 t.eW t.ff ["word","stages"] (liSp K GA):=by
 refine T.bC.F.okM _bZ (fC (G:=L0) (Φ:=[]) T rfl nl0 nl0) ER _cn (λvs M Q h=>?_) (λvs M Q h=>?_)
 ·obtain⟨w,k,rfl,_⟩:=h;rfl
 obtain⟨w,k,rfl,h1,h2,q⟩:=h;show wSs _ _ _ [some (.int w),some (.int k)] M;delta ER KZ;simp!;refine⟨by lia,by lia,?_⟩
 rw[YL,GD];rw[Ws]at q;exact q
abbrev GE:SpM:=λvs M Q=>∃(xs:List Int) (a:Int),vs=[.tup ((xs++[a]).map MV.int)]/\Q (.int a) M
theorem _fC:MonW GE:=by walk_at "m"
theorem _og(xs:List Int)(a:Int):atI ((xs++[a]).map MV.int) (-1)=some (.int a):=by
 unfold atI ixN;rw[if_neg (by decide),if_pos (by simp;lia)]
 have e:((-1:Int)+(((xs++[a]).map MV.int).length:Int)).toNat=xs.length:=by simp;lia
 rw[e];simp
theorem _nc(T:Txt K mg t):FnOk P w K mg base CX0 1 t.fY t.cC ["sight"] (liSp K GE):=by
 refine T.be.F.okM _mw (fC (G:=L9) (Φ:=[]) T rfl nl0 nl0) EU _o6 (λvs M Q h=>?_) (λvs M Q h=>?_)
 ·obtain⟨xs,a,rfl,_⟩:=h;rfl
 obtain⟨xs,a,rfl,q⟩:=h;show wSs _ _ _ [some (.tup ((xs++[a]).map MV.int))] M;delta EU L8;simp!;exact⟨_,_og xs a,q⟩
abbrev Df:SpM:=λvs M Q=>∃(xs:List Int) (a w:Int),vs=[.tup ((xs++[a]).map MV.int),.int w]/\xs.length≤100/\Q (.tup ((w::xs).map MV.int)) M
theorem _ev:MonW Df:=by walk_at "m"
theorem _kG(T:Txt K mg t):FnOk P w K mg base CX0 1 t.fR t.fS ["sight","word"] (liSp K Df):=by
 refine T.cc.F.okM _ki (fC (G:=L7) (Φ:=[]) T rfl nl0 nl0) ET _lb (λvs M Q h=>?_) (λvs M Q h=>?_)
 ·obtain⟨xs,a,w,rfl,_⟩:=h;rfl
 obtain⟨xs,a,w,rfl,hx,q⟩:=h;show wSs _ _ _ [some (.tup ((xs++[a]).map MV.int)),some (.int w)] M;delta ET L6;simp!;have len:([MV.int w]++(xs++[a]).map MV.int).length=xs.length+2:=by simp
 have e1:HT.sIx (xs.length+2) (xs.length+2) (some (-1))=xs.length+1:=by
  unfold HT.sIx;dsimp only;rw[if_pos (by decide)]
  lia
 have cut:cutM ([MV.int w]++(xs++[a]).map MV.int) none (some (-1))=(w::xs).map MV.int:=by
  unfold cutM;rw[len,e1,HT.sIx_none,Nat.sub_zero,DC,Y1,<- Vy];rw[Ha (by simp),Vw (by simp)]
  rfl
 refine⟨by simp;lia,?_⟩
 rw[cut];exact q
abbrev Bh:SpM:=λvs M Q=>∃n:Nat,vs=[.int n]/\Q (.int (gray n:Nat)) M
theorem Rf:MonW Bh:=by walk_at "m"
theorem Rg(T:Txt K mg t):FnOk P w K mg base CX0 1 t.cR t.gq ["n"] (liSp K Bh):=by
 refine T.aR.F.okM _h9 (fC (G:=KK) (Φ:=[]) T rfl nl0 nl0) EM _hG (λvs M Q h=>?_) (λvs M Q h=>?_)
 ·obtain⟨n,rfl,_⟩:=h;rfl
 obtain⟨n,rfl,q⟩:=h;show wSs _ _ _ [some (.int n)] M;delta EM KJ;simp!;have e:(n:Int)/2=((n/2:Nat):Int):=by lia
 rw[e,Dd];exact q
abbrev GF:SpM:=λvs M Q=>∃wd:Nat,vs=[.int wd]/\wd<2^60/\Q (.int (Wi wd:Nat)) M
theorem _ap:MonW GF:=by walk_at "m"
theorem _ek(T:Txt K mg t):FnOk P w K mg base CX0 1 t.dq t.cv ["word"] (liSp K GF):=by
 refine T.ci.F.okM _dZ (fC (G:=KR) (Φ:=[]) T rfl nl0 nl0) EN _eS (λvs M Q h=>?_) (λvs M Q h=>?_)
 ·obtain⟨n,rfl,_⟩:=h;rfl
 obtain⟨wd,rfl,hw,q⟩:=h;show wSs _ _ _ [some (.int wd),none,none] M;have half:∀a:Nat,(a:Int)/2=((a/2:Nat):Int):=λa=>by lia
 delta EN KQ;simp!;delta KP;simp!;rw[half];delta KO;simp!;refine⟨λm σ M'=>M'=M/\∃n a k:Nat,a=m/\a<2^k/\ugF k n a=Wi wd/\σ=[some (.int wd),some (.int n),some (.int a)],⟨wd/2,rfl,wd,wd/2,64,rfl,by lia,rfl,rfl⟩,?_⟩
 rintro m σ M' ⟨rfl,n,a,k,rfl,ha,hu,rfl⟩;simp!;refine Y5 (λc=>?_) (λc=>?_)
 ·delta KN;simp!;rw[Dd];delta KM;simp!;rw[half];obtain⟨k',rfl⟩:∃k',k=k'+1:=⟨k - 1,by
   cases k with
   |zero=>simp at ha;lia
   |succ k=>rfl⟩
  refine⟨a/2,by lia,?_⟩
  refine⟨_,k',by rw[Nat.pow_succ]at ha;lia,?_,rfl⟩
  rw[ugF,if_neg (by lia)]at hu
  exact hu
 ·have a0:a=0:=by lia
  subst a0;rw[_k1]at hu;rw[hu];delta KL;simp!;exact q
abbrev natM:Nat->MV:=λn=>.int n
abbrev sgnM(s:Nat×Nat×Int):MV:=.tup [.int s.1,.int s.2.1,.int s.2.2]
def Xk(tu n:Nat)(s:Nat×Nat×Int)(xs:List Nat):MO:=.ins "Side" [("turn",.int tu),("total",.int n),("sign",sgnM s),("sight",.tup (xs.map natM))]
theorem GG(xs:List Nat):xs.map natM=(xs.map λn:Nat=>(n:Int)).map MV.int:=by rw[Ys];rfl
theorem GH(a b:Nat):(a:Int)%(b:Int)=((a%b:Nat):Int):=by lia
theorem Rh{k:Nat}(hk:k<4)(h:p≤n/\n≤p+1)(s m:Int)(c:Nat):(if s<m then seen (gray (p%2^(k+1))) (gray (n%2^(k+1))) c else gray (n%2^(k+1)))=gray (Zs k n p (decide (s<m)) c%2^(k+1)):=by
 unfold Zs;by_cases e:s<m
 ·rw[if_pos e,_ia hk (a:=n) (b:=p) (by lia)]
  by_cases f:c&&&(gray (n%2^(k+1))^^^gray (p%2^(k+1)))=0
  ·rw[if_pos f,if_pos ⟨decide_eq_true e,f⟩]
  ·rw[if_neg f,if_neg (λz=>f z.2)]
 ·rw[if_neg e,if_neg (λz=>e (of_decide_eq_true z.1))]
abbrev Dh:SpM:=fun vs M Q=>∃(a:Addr) (tu st:Nat),vs=[.ref a,.int tu,.int st]/\M a=some (.ins "Side" [])/\1≤st/\st≤3/\Q .non (updM M a (Xk tu 0 (0,0,-1) (Xi st 0)))
theorem _6K:MonW Dh:=by walk_at "m"
theorem _an(T:Txt K mg t):FnOk P w K mg base CX0 2 t.aP t.bA ["self","turn","stages"] (liSp K Dh):=by
 refine T.gJ.okM _al (fC (G:=Lf) (Φ:=[("code_of",Bh),("first_sight",GA),("first_sign",Bg)]) T rfl (fMc ⟨Rf,(fMc ⟨_8i,(fMc ⟨R9,nl0⟩)⟩)⟩) (fMc ⟨fE T.aR (Rg T),(fMc ⟨fE T.bC (_c5 T),(fMc ⟨fE T.aO (Ra T),nl0⟩)⟩)⟩)) EV _aw (fun vs M Q h=>?_) (fun vs M Q h=>?_)
 ·obtain⟨a,tu,st,rfl,_⟩:=h;rfl
 obtain⟨a,tu,st,rfl,hM,h1,h3,q⟩:=h;show wSs _ _ _ [some (.ref a),some (.int tu),some (.int st)] M;have g0:gray 0=0:=by decide
 delta EV Ld
 simp![hM,putM]
 delta Lc
 simp![putM,YF]
 delta Lb
 simp![putM,YF]
 refine⟨0,rfl,?_⟩
 simp![putM,YF]
 refine⟨_,rfl,?_⟩
 simp![putM,YF]
 delta La
 simp![putM,YF]
 refine⟨0,rfl,?_⟩
 simp![putM,YF]
 refine⟨_,st,rfl,h1,h3,?_⟩
 simp![putM,YF]
 rw[g0];have e:List.map MV.int (Xi st (((0:Nat):Int)))=(Xi st 0).map natM:=by rw[Ws,Ws]
 rw[e];exact q
abbrev Vi:SpM:=λvs M Q=>∃(a:Addr) (tu n:Nat) (s:Nat×Nat×Int) (xs:List Nat),vs=[.ref a]/\M a=some (Xk tu n s xs)/\Q (.int s.2.2) M
theorem Ri:MonW Vi:=by walk_at "m"
theorem Rj(T:Txt K mg t):FnOk P w K mg base CX0 1 t.bw t.bF ["self"] (liSp K Vi):=by
 refine T.gL.okM _85 (fC (G:=Lh) (Φ:=[]) T rfl nl0 nl0) EW _8K (λvs M Q h=>?_) (λvs M Q h=>?_)
 ·obtain⟨a,tu,n,s,xs,rfl,_⟩:=h;rfl
 obtain⟨a,tu,n,s,xs,rfl,hM,q⟩:=h;show wSs _ _ _ [some (.ref a)] M;delta EW Lg
 simp![hM,Xk,valM]
 exact q
abbrev Us:SpM:=λvs M Q=>∃(a:Addr) (tu n:Nat) (s:Nat×Nat×Int) (xs:List Nat) (u:Nat),vs=[.ref a]/\M a=some (Xk tu n s (xs++[u]))/\u<2^60/\0<tu/\Q (.int (((n:Int) - (Wi u:Nat))%(tu:Int))) M
theorem GJ:MonW Us:=by walk_at "m"
theorem Rk(T:Txt K mg t):FnOk P w K mg base CX0 2 t.bW t.ck ["self"] (liSp K Us):=by
 refine T.cL.okM _5q (fC (G:=Lj) (Φ:=[("number_of",GF),("used",GE)]) T rfl (fMc ⟨_ap,(fMc ⟨_fC,nl0⟩)⟩) (fMc ⟨fE T.ci (_ek T),(fMc ⟨fE T.be (_nc T),nl0⟩)⟩)) EX _6t (fun vs M Q h=>?_) (fun vs M Q h=>?_)
 ·obtain⟨a,tu,n,s,xs,u,rfl,_⟩:=h;rfl
 obtain⟨a,tu,n,s,xs,u,rfl,hM,h1,h2,q⟩:=h;show wSs _ _ _ [some (.ref a)] M;delta EX Li
 simp![hM,Xk,valM]
 refine⟨xs.map (λn:Nat=>(n:Int)),(u:Int),by rw[GG,Y1];rfl,?_⟩
 simp![hM,Xk,valM]
 refine⟨u,rfl,h1,?_⟩
 simp![hM,Xk,valM]
 exact⟨by lia,q⟩
abbrev Ut:SpM:=λvs M Q=>∃(a:Addr) (tu n:Nat) (s:Nat×Nat×Int) (xs:List Nat),vs=[.ref a]/\M a=some (Xk tu n s xs)/\Q .non (updM M a (Xk tu (n+1) s xs))
theorem GK:MonW Ut:=by walk_at "m"
theorem Rm(T:Txt K mg t):FnOk P w K mg base CX0 1 t.bf t.bI ["self"] (liSp K Ut):=by
 refine T.i0.okM _e6 (fC (G:=Ll) (Φ:=[]) T rfl nl0 nl0) EY _eZ (λvs M Q h=>?_) (λvs M Q h=>?_)
 ·obtain⟨a,tu,n,s,xs,rfl,_⟩:=h;rfl
 obtain⟨a,tu,n,s,xs,rfl,hM,q⟩:=h;show wSs _ _ _ [some (.ref a)] M;delta EY Lk
 simp![hM,Xk,valM,putM]
 exact q
abbrev Uu:SpM:=λvs M Q=>∃(a:Addr) (tu n:Nat) (s:Nat×Nat×Int) (xs:List Nat) (u:Nat) (m:Int) (c:Nat) (o:Nat×Nat×Int),vs=[.ref a,.int m,.int c,sgnM o]/\M a=some (Xk tu n s (xs++[u]))/\xs.length≤100/\0<tu/\
 ∀d:Nat,(if s.2.2<o.2.2 then seen o.2.1 o.1 c else o.1)=d->Q (.int d) (updM M a (Xk tu n (gray (n%tu),s.1,m) (d::xs)))
theorem GM:MonW Uu:=by walk_at "m"
theorem Rn(T:Txt K mg t):FnOk P w K mg base CX0 3 t.bB t.bv ["self","moment","choice","other_sign"] (liSp K Uu):=by
 refine T.cG.okM _6H (_N (k:=2) (G:=Lq) (Φ:=[("code_of",Bh),("moved",Df),("sampled",Vh),("shown",UO)]) (Ψ:=[("Side_ring_ahead",Vi)]) (Χ:=[("code_of",Bh),("moved",Df),("sampled",Vh),("shown",UO),("Side_ring_ahead",Vi)]) rfl (_P T) (_Q T) rfl (fMc ⟨Rf,(fMc ⟨_ev,(fMc ⟨Rc,(fMc ⟨Gz,(fMc ⟨Ri,nl0⟩)⟩)⟩)⟩)⟩) (fMc ⟨fE T.aR (Rg T),(fMc ⟨fE T.cc (_kG T),(fMc ⟨fE T.aW (Re T),(fMc ⟨fE T.aU (Rb T),nl0⟩)⟩)⟩)⟩) (fMc ⟨⟨_,_,rfl,_,_,_,_,(FnOk.mono (Rj T) (by decide)),T.ag,T.ai,T.bc,T.bh⟩,nl0⟩) nl0 (_R T)) EZ _6N (fun vs M Q h=>?_) (fun vs M Q h=>?_)
 ·obtain⟨a,tu,n,s,xs,u,m,c,o,rfl,_⟩:=h;rfl
 obtain⟨a,tu,n,s,xs,u,m,c,o,rfl,hM,h1,h2,q⟩:=h;show wSs _ _ _ [some (.ref a),some (.int m),some (.int c),some (sgnM o),none] M;delta EZ Lp
 simp![hM,Xk,valM]
 refine⟨a,tu,n,s,xs++[u],rfl,hM,?_⟩
 simp![hM,Xk,valM]
 refine⟨o.1,o.2.1,o.2.2,s.2.2,c,rfl,?_⟩;obtain⟨d,hd⟩:∃d:Nat,(if s.2.2<o.2.2 then seen o.2.1 o.1 c else o.1)=d:=⟨_,rfl⟩;rw[hd];delta Lo
 simp![hM,Xk,valM]
 refine⟨by lia,?_⟩
 rw[GH];refine⟨_,rfl,?_⟩
 simp![hM,Xk,valM,putM]
 refine⟨s.1,s.2.1,s.2.2,_,m,rfl,?_⟩
 simp![hM,Xk,valM,putM]
 delta Ln
 simp![hM,Xk,valM,putM,YF]
 refine⟨xs.map (λn:Nat=>(n:Int)),(u:Int),(d:Int),by rw[GG,Y1];rfl,by rw[Xa];exact h1,?_⟩
 simp![hM,Xk,valM,putM,YF]
 delta Lm
 simp![hM,Xk,valM,putM,YF]
 have e:MV.int (d:Int)::List.map MV.int (xs.map λn:Nat=>(n:Int))=(d::xs).map natM:=by rw[Xy,GG]
 have z:=q d hd;rw[Xk,<- e]at z
 simpa only[Xy]using z
noncomputable def XU(p g u:Addr):MO:=.ins "Ferry" [("places",.ref p),("giver",.ref g),("taker",.ref u)]
abbrev Xj(k n:Nat):Nat:=gray (n%2^(k+1))
def wM:Option Nat->MV
 |none=>.non
 |some x=>.int x
structure FyAt (M:MH) (f p g u:Addr) (A:Ab):Prop where
 ok:A.Ok
 fe:M f=some (XU p g u)
 pls:∃pl,M p=some (.lst (pl.map sgnM))/\PlOk A pl
 gi:M g=some (Xk (2^(A.k+1)) A.ws.length (Xj A.k A.ws.length,Xj A.k A.gp,A.gm) (A.gx.map (Xj A.k)))
 ta:M u=some (Xk (2^(A.k+1)) A.tn (Xj A.k A.tn,Xj A.k A.tp,A.tm) (A.tx.map (Xj A.k)))
 ne:g≠u
def FrM(M M':MH)(l:List Addr):Prop:=∀a o,M a=some o->a∉l->M' a=some o
theorem FrM.refl(M:MH)(l:List Addr):FrM M M l:=λ_ _ h _=>h
theorem FrM.new{M M':MH}{l:List Addr}(h:FrM M M' l){p:Addr}(hp:M' p=none)(o:MO):FrM M (updM M' p o) l:=λa u e n=>by
 have:=h a u e n;rw[Xb (neM this hp)];exact this
theorem FrM.upd{M M':MH}{l:List Addr}(h:FrM M M' l){p:Addr}(hp:p∈l)(o:MO):FrM M (updM M' p o) l:=λa u e n=>by
 rw[Xb (λz=>n (by rw[z];exact hp))];exact h a u e n
theorem Di:Xk tu n s xs≠XU p g u:=by
 intro e;unfold Xk XU at e;injection e with e1 _;exact absurd e1 (by rw[Wf];decide)
theorem YZ{M:MH}{a b:Addr}{o u:MO}(h1:M a=some o)(h2:M b=some u)(n:o≠u):a≠b:=by
 intro e;subst e;rw[h1]at h2;cases h2;exact n rfl
theorem Ro{k:Nat}(hk:k<4):Xj k n<2^60/\Wi (Xj k n)=n%2^(k+1):=by
 have h:=R5 hk (VM n (Zn (k+1)));exact⟨YC h.1 (by decide),h.2.1⟩
theorem Rp{k:Nat}(h:1≤xs.length):xs.map (Xj k)=xs.dropLast.map (Xj k)++[Xj k (XI xs)]:=by
 have e:=Bf h;have:xs.map (Xj k)=(xs.dropLast++[XI xs]).map (Xj k):=by rw[<- e]
 rw[this,Y1];rfl
theorem _nz(h:j<n):ixN n (j:Int)=some j:=by
 unfold ixN;rw[if_pos (by lia),if_pos (by lia),YL]
abbrev Bi:SpM:=fun vs M Q=>∃(f:Addr) (k st:Nat),vs=[.ref f,.int k,.int st]/\M f=some (.ins "Ferry" [])/\k<4/\1≤st/\st≤3/\∀p g u M',M p=none->M g=none->M u=none->FrM M M' [f]->FyAt M' f p g u (ab0 k st)->Q .non M'
theorem Rq:MonW Bi:=by walk_at "m"
theorem _90(T:Txt K mg t):FnOk P w K mg base CX0 4 t.aT t.cf ["self","k","stages"] (liSp K Bi):=by
 refine T.fc.okM _8X (_N (k:=3) (G:=Lv) (Φ:=[("first_sign",Bg),("two_to",Zq)]) (Ψ:=[("Side___init__",Dh)]) (Χ:=[("first_sign",Bg),("two_to",Zq),("Side___init__",Dh)]) rfl (_P T) (_Q T) rfl (fMc ⟨R9,(fMc ⟨CS,(fMc ⟨_6K,nl0⟩)⟩)⟩) (fMc ⟨fE T.aO (Ra T),(fMc ⟨fE T.aC (CT T),nl0⟩)⟩) nl0 (fMc ⟨⟨_,_,rfl,_,_,_,_,_,(by decide:2+1≤3),_an T,T.ag,T.dl,T.fK,T.dr⟩,nl0⟩) (_R T)) F0 _9g (fun vs M Q h=>?_) (fun vs M Q h=>?_)
 ·obtain⟨f,k,st,rfl,_⟩:=h;rfl
 obtain⟨f,k,st,rfl,hM,hk,h1,h3,q⟩:=h;show wSs _ _ _ [some (.ref f),some (.int k),some (.int st)] M;have pk:∀j:Nat,((2:Int)^j)=((2^j:Nat):Int):=λj=>by rw[V7];rfl
 have kp0:(0:Int)≤((2^k:Nat):Int):=WB _;have k16:2^k≤8:=BW (by lia) (by lia:k≤3)
 delta F0 Lu
 simp![putM]
 refine⟨0,rfl,?_⟩
 simp![putM]
 intro p0 hp0;have fr0:=(FrM.refl M [f]).new hp0 (.lst [.tup [.int 0,.int 0,.int (-1)]]);have hf0:updM M p0 (.lst [.tup [.int 0,.int 0,.int (-1)]]) f=some (.ins "Ferry" []):=by rw[Xb (neM hM hp0)];exact hM
 have hp1:updM M p0 (.lst [.tup [.int 0,.int 0,.int (-1)]]) p0=some (.lst [.tup [.int 0,.int 0,.int (-1)]]):=X9;generalize updM M p0 _=M0 at*;refine⟨k,rfl,by lia,?_⟩
 simp![hp1,pk]
 rw[YL];refine⟨by lia,by lia,by lia,λp hp=>?_⟩
 have mp0:M p=none:=by
  cases e:M p with
  |none=>rfl
  |some o=>
   by_cases ez:p=f
   ·subst ez;rw[hf0]at hp;cases hp
   ·rw[fr0 p o e (by simpa using ez)]at hp;cases hp
 have fr1:=fr0.new hp (.lst (Xi (2^k) [MV.tup [.int 0,.int 0,.int (-1)]]).flatten);have hf1:updM M0 p (.lst (Xi (2^k) [MV.tup [.int 0,.int 0,.int (-1)]]).flatten) f=some (.ins "Ferry" []):=by rw[Xb (neM hf0 hp)];exact hf0
 have hpp:updM M0 p (.lst (Xi (2^k) [MV.tup [.int 0,.int 0,.int (-1)]]).flatten) p=some (.lst (Xi (2^k) [MV.tup [.int 0,.int 0,.int (-1)]]).flatten):=X9;generalize updM M0 p _=M1 at*
 simp![hf1,putM]
 have fr2:=fr1.upd (Y3.mpr rfl) (.ins "Ferry" [("places",.ref p)]);have hf2:updM M1 f (.ins "Ferry" [("places",.ref p)]) f=some (.ins "Ferry" [("places",.ref p)]):=X9;have jr:updM M1 f (.ins "Ferry" [("places",.ref p)]) p=some (.lst (Xi (2^k) [MV.tup [.int 0,.int 0,.int (-1)]]).flatten):=by rw[Xb (YZ hpp hf1 (by intro z;cases z))];exact hpp
 have free:∀z,updM M1 f (.ins "Ferry" [("places",.ref p)]) z=none->M z=none:=fun z hz=>by
  cases e:M z with
  |none=>rfl
  |some o=>
   by_cases ez:z=f
   ·subst ez;rw[hf2]at hz;cases hz
   ·rw[fr2 z o e (by simpa using ez)]at hz;cases hz
 generalize updM M1 f _=M2 at*;delta Ls
 simp![hf2,putM]
 refine⟨k+1,rfl,by lia,?_⟩
 simp![hf2,putM,pk]
 intro g hg;refine⟨g,2^(k+1),st,rfl,X9,h1,h3,rfl,?_⟩;rw[YF];have fr3:=fr2.new hg (Xk (2^(k+1)) 0 (0,0,-1) (Xi st 0));have hf3:updM M2 g (Xk (2^(k+1)) 0 (0,0,-1) (Xi st 0)) f=some (.ins "Ferry" [("places",.ref p)]):=by rw[Xb (neM hf2 hg)];exact hf2
 have jt:updM M2 g (Xk (2^(k+1)) 0 (0,0,-1) (Xi st 0)) p=some (.lst (Xi (2^k) [MV.tup [.int 0,.int 0,.int (-1)]]).flatten):=by rw[Xb (neM jr hg)];exact jr
 have hgg:updM M2 g (Xk (2^(k+1)) 0 (0,0,-1) (Xi st 0)) g=some (Xk (2^(k+1)) 0 (0,0,-1) (Xi st 0)):=X9;have mg0:=free g hg;generalize updM M2 g _=M3 at*
 simp![hf3,putM]
 have gf:g≠f:=YZ hgg hf3 (by intro z;unfold Xk at z;injection z with z1 _;exact absurd z1 (by rw[Wf];decide))
 have fr4:=fr3.upd (Y3.mpr rfl) (.ins "Ferry" [("places",.ref p),("giver",.ref g)]);have hf4:updM M3 f (.ins "Ferry" [("places",.ref p),("giver",.ref g)]) f=some (.ins "Ferry" [("places",.ref p),("giver",.ref g)]):=X9;have ju:updM M3 f (.ins "Ferry" [("places",.ref p),("giver",.ref g)]) p=some (.lst (Xi (2^k) [MV.tup [.int 0,.int 0,.int (-1)]]).flatten):=by rw[Xb (YZ jt hf3 (by intro z;cases z))];exact jt
 have hgg4:updM M3 f (.ins "Ferry" [("places",.ref p),("giver",.ref g)]) g=some (Xk (2^(k+1)) 0 (0,0,-1) (Xi st 0)):=by rw[Xb gf];exact hgg
 generalize updM M3 f _=M4 at*;have free4:∀z,M4 z=none->M z=none:=λz hz=>by
  cases e:M z with
  |none=>rfl
  |some o=>
   by_cases ez:z=f
   ·subst ez;rw[hf4]at hz;cases hz
   ·rw[fr4 z o e (by simpa using ez)]at hz;cases hz
 delta Lr
 simp![hf4,putM]
 refine⟨k+1,rfl,by lia,?_⟩
 simp![hf4,putM,pk]
 intro u hu;refine⟨u,2^(k+1),st,rfl,X9,h1,h3,rfl,?_⟩;rw[YF];have fr5:=fr4.new hu (Xk (2^(k+1)) 0 (0,0,-1) (Xi st 0));have hf5:updM M4 u (Xk (2^(k+1)) 0 (0,0,-1) (Xi st 0)) f=some (.ins "Ferry" [("places",.ref p),("giver",.ref g)]):=by rw[Xb (neM hf4 hu)];exact hf4
 have jv:updM M4 u (Xk (2^(k+1)) 0 (0,0,-1) (Xi st 0)) p=some (.lst (Xi (2^k) [MV.tup [.int 0,.int 0,.int (-1)]]).flatten):=by rw[Xb (neM ju hu)];exact ju
 have hgg5:updM M4 u (Xk (2^(k+1)) 0 (0,0,-1) (Xi st 0)) g=some (Xk (2^(k+1)) 0 (0,0,-1) (Xi st 0)):=by rw[Xb (neM hgg4 hu)];exact hgg4
 have huu:updM M4 u (Xk (2^(k+1)) 0 (0,0,-1) (Xi st 0)) u=some (Xk (2^(k+1)) 0 (0,0,-1) (Xi st 0)):=X9;have gu:=neM hgg4 hu;have mu0:=free4 u hu;generalize updM M4 u _=M5 at*
 simp![hf5,putM]
 have uf:u≠f:=YZ huu hf5 (by intro z;unfold Xk at z;injection z with z1 _;exact absurd z1 (by rw[Wf];decide))
 have fr6:=fr5.upd (Y3.mpr rfl) (XU p g u);have g0:gray 0=0:=by decide
 have g1:∀j,Xj j 0=0:=λj=>by unfold Xj;rw[Nat.zero_mod,g0]
 have gr:(Xi st 0).map (Xj k)=Xi st 0:=by rw[Ws,g1]
 refine q p g u _ mp0 mg0 mu0 fr6 ⟨_qu hk h1 h3,X9,⟨Xi (2^k) (0,0,-1),?_,by simp[ab0],λj hj=>absurd hj (by simp[ab0])⟩,?_,?_,gu⟩
 ·rw[Xb (YZ jv hf5 (by intro z;cases z)),jv,GD,Ws]
  rfl
 ·rw[Xb gf,hgg5];show some (Xk _ 0 (0,0,-1) _)=some (Xk (2^(k+1)) 0 (Xj k 0,Xj k 0,-1) ((Xi st 0).map (Xj k)));rw[g1,gr]
 ·rw[Xb uf,huu];show some (Xk _ 0 (0,0,-1) _)=some (Xk (2^(k+1)) 0 (Xj k 0,Xj k 0,-1) ((Xi st 0).map (Xj k)));rw[g1,gr]
abbrev Vj:SpM:=λvs M Q=>∃(f p g u:Addr) (A:Ab) (m:Int) (c:Nat) (x:Option Nat),vs=[.ref f,.int m,.int c,wM x]/\FyAt M f p g u A/\A.gm<m/\A.tm<m/\
 ∀p' M',M p'=none->FrM M M' [f,g,u]->FyAt M' f p' g u (A.giver m c x)->Q (.tup [.bl (A.gives x),.int (Xj A.k (A.gSamp c):Nat)]) M'
theorem _4O:MonW Vj:=by walk_at "m"
theorem _7M(T:Txt K mg t):FnOk P w K mg base CX0 4 t.bN t.cj ["self","moment","choice","word"] (liSp K Vj):=by
 refine T.dA.okM _7I (_N (k:=3) (G:=LB) (Φ:=[("shown",UO)]) (Ψ:=[("Side_grow",Ut),("Side_less_the_seen",Us),("Side_show_and_see",Uu)]) (Χ:=[("shown",UO),("Side_grow",Ut),("Side_less_the_seen",Us),("Side_show_and_see",Uu)]) rfl (_P T) (_Q T) rfl (fMc ⟨Gz,(fMc ⟨GK,(fMc ⟨GJ,(fMc ⟨GM,nl0⟩)⟩)⟩)⟩) (fMc ⟨fE T.aU (Rb T),nl0⟩) (fMc ⟨⟨_,_,rfl,_,_,_,_,(FnOk.mono (Rm T) (by decide)),T.ag,T.ai,T.c8,T.aY⟩,(fMc ⟨⟨_,_,rfl,_,_,_,_,(FnOk.mono (Rk T) (by decide)),T.ag,T.ai,T.br,T.ce⟩,(fMc ⟨⟨_,_,rfl,_,_,_,_,(FnOk.mono (Rn T) (by decide)),T.ag,T.ai,T.bX,T.bY⟩,nl0⟩)⟩)⟩) nl0 (_R T)) F3 _80 (fun vs M Q h=>?_) (fun vs M Q h=>?_)
 ·obtain⟨f,p,g,u,A,m,c,x,rfl,_⟩:=h;rfl
 obtain⟨f,p,g,u,A,m,c,x,rfl,hF,h1,h2,q⟩:=h;have hf:=hF.fe;obtain⟨pl,hp,hpl⟩:=hF.pls;have hg:=hF.gi;have hu:=hF.ta;have ok:=hF.ok;have hΦ:=(UL (Φ:=[("shown",UO),("Side_grow",Ut),("Side_less_the_seen",Us),("Side_show_and_see",Uu)]) (fMc ⟨Gz,(fMc ⟨GK,(fMc ⟨GJ,(fMc ⟨GM,nl0⟩)⟩)⟩)⟩));have kpos:0<2^A.k:=Zn _;have k8:2^A.k≤8:=BW (by lia) (by have:=ok.k4;lia:A.k≤3)
 have pll:pl.length=2^A.k:=hpl.1;have gs:=Ro (n:=XI A.gx) ok.k4;have eg:=Rp (k:=A.k) ok.gl.1;have gf:g≠f:=YZ hg hf Di;have uf:u≠f:=YZ hu hf Di;have tail:∀(M1:MH) (D:Addr) (n:Nat),FrM M M1 [f,g,u]->M1 f=some (XU p g u)->M1 p=some (.lst (pl.map sgnM))->M1 u=M u->M1 g=some (Xk (2^(A.k+1)) n (Xj A.k A.ws.length,Xj A.k A.gp,A.gm) (A.gx.map (Xj A.k)))->n=(A.giver m c x).ws.length->
   M1 D=some (.lst ((Xr pl.length).map λi=>MV.int ((if A.gives x=true/\i=A.ws.length%2^A.k then x.getD 0 else(pl.getD i (0,0,0)).1:Nat):Int)))->
   wSs ([("shown",UO),("Side_grow",Ut),("Side_less_the_seen",Us),("Side_show_and_see",Uu)]:List (Str×SpM)) F1 {nx:=fun _ M'=>Q .non M',rt:=Q} [some (.ref f),some (.int m),some (.int c),some (wM x),some (.ref D),some (.bl (A.gives x))] M1:=by
  intro M1 D n fr hf1 hp1 hu1 hg1 hn hD;delta F1;simp!;refine _O (Xr pl.length) (λi=>.int (0+(i:Nat))) (λi=>sgnM ((if A.gives x=true/\i=A.ws.length%2^A.k then x.getD 0 else(pl.getD i (0,0,0)).1),(pl.getD i (0,0,0)).1,m)) ?_ ?_ hΦ λD2 hD2=>?_
  ·simp![hD,Xa,UB]
   rw[YL];exact⟨by lia,by lia,rfl,by lia,trivial⟩
  ·intro i hi M' s;have hi:i<pl.length:=by simpa using hi
   have f':=s _ _ hf1;have p':=s _ _ hp1;have d':=s _ _ hD;simp only[sCm,Xy,Yc,Yp,Yq,Yj,Y8];have a1:atI (pl.map sgnM) (0+(i:Int))=some (sgnM (pl.getD i (0,0,0))):=by
    rw[WC];refine YE ?_;rw[Xq,Xc hi,Yo,Xc hi];rfl
   have a2:atI ((Xr pl.length).map λi=>MV.int ((if A.gives x=true/\i=A.ws.length%2^A.k then x.getD 0 else(pl.getD i (0,0,0)).1:Nat):Int)) (0+(i:Int))=some (.int ((if A.gives x=true/\i=A.ws.length%2^A.k then x.getD 0 else(pl.getD i (0,0,0)).1:Nat):Int)):=by
    rw[WC];refine YE ?_;rw[Xq,Wr hi];rfl
   simp![f',p',d',a1,a2,XU,valM]
   exact⟨_,_,_,_,_,rfl,rfl,rfl⟩
  have md2:M D2=none:=by
   cases e:M D2 with
   |none=>rfl
   |some o=>
    by_cases e1:D2=f
    ·subst e1;rw[hf1]at hD2;cases hD2
    ·by_cases e2:D2=g
     ·subst e2;rw[hg1]at hD2;cases hD2
     ·by_cases e3:D2=u
      ·subst e3;rw[hu1,hu]at hD2;cases hD2
      ·rw[fr D2 o e (by simp[e1,e2,e3])]at hD2;cases hD2
  have fr2:=fr.new hD2 (.lst ((Xr pl.length).map λi=>sgnM ((if A.gives x=true/\i=A.ws.length%2^A.k then x.getD 0 else(pl.getD i (0,0,0)).1),(pl.getD i (0,0,0)).1,m)));have hpl2:(Xr pl.length).map (λi=>sgnM ((if A.gives x=true/\i=A.ws.length%2^A.k then x.getD 0 else(pl.getD i (0,0,0)).1),(pl.getD i (0,0,0)).1,m))=(YR A m x pl).map sgnM:=by
   unfold YR;rw[Ys];rfl
  rw[hpl2]at fr2 ⊢;have hf2:updM M1 D2 (.lst ((YR A m x pl).map sgnM)) f=some (XU p g u):=by rw[Xb (neM hf1 hD2)];exact hf1
  have hg2:updM M1 D2 (.lst ((YR A m x pl).map sgnM)) g=some (Xk (2^(A.k+1)) n (Xj A.k A.ws.length,Xj A.k A.gp,A.gm) (A.gx.map (Xj A.k))):=by rw[Xb (neM hg1 hD2)];exact hg1
  have hu2:updM M1 D2 (.lst ((YR A m x pl).map sgnM)) u=M u:=by rw[Xb (neM (hu1.trans hu) hD2)];exact hu1
  have hd2:updM M1 D2 (.lst ((YR A m x pl).map sgnM)) D2=some (.lst ((YR A m x pl).map sgnM)):=X9;generalize updM M1 D2 _=M2 at*
  simp![hf2,XU,putM]
  have fr3:=fr2.upd (p:=f) (by simp) (XU D2 g u)
  have hf3:updM M2 f (XU D2 g u) f=some (XU D2 g u):=X9;have hg3:updM M2 f (XU D2 g u) g=some (Xk (2^(A.k+1)) n (Xj A.k A.ws.length,Xj A.k A.gp,A.gm) (A.gx.map (Xj A.k))):=by rw[Xb gf];exact hg2
  have hu3:updM M2 f (XU D2 g u) u=M u:=by rw[Xb uf];exact hu2
  have hd3:updM M2 f (XU D2 g u) D2=some (.lst ((YR A m x pl).map sgnM)):=by rw[Xb (YZ hd2 hf2 (by intro z;cases z))];exact hd2
  rw[XU]at fr3 hf3 hg3 hu3 hd3;generalize updM M2 f _=M3 at*;delta Lw;rw[hu]at hu3
  simp![hf3,hg3,hu3,Xk,valM]
  rw[eg]at hg3;refine⟨g,2^(A.k+1),n,(Xj A.k A.ws.length,Xj A.k A.gp,A.gm),A.gx.dropLast.map (Xj A.k),Xj A.k (XI A.gx),m,c,(Xj A.k A.tn,Xj A.k A.tp,A.tm),rfl,hg3,?_,Zn _,?_⟩
  ·have:=ok.gl;rw[Xa,Wq];lia
  intro d hd;have ed:d=Xj A.k (A.gSamp c):=by
   rw[<- hd];exact Rh ok.k4 ok.t1 _ _ c
  simp![ed]
  have fr4:=fr3.upd (p:=g) (by simp) (Xk (2^(A.k+1)) n (gray (n%2^(A.k+1)),Xj A.k A.ws.length,m) (d::A.gx.dropLast.map (Xj A.k)))
  rw[ed]at fr4;refine q D2 _ md2 fr4 ⟨ok.giver h2,?_,⟨YR A m x pl,?_,_hd hpl⟩,?_,?_,hF.ne⟩
  ·rw[Xb gf.symm];exact hf3
  ·rw[Xb (YZ hd3 hg3 (by intro z;unfold Xk at z;cases z))];exact hd3
  ·rw[X9];show _=some (Xk (2^(A.k+1)) (A.giver m c x).ws.length (Xj A.k (A.giver m c x).ws.length,Xj A.k A.ws.length,m) ((A.gSamp c::A.gx.dropLast).map (Xj A.k)));rw[<- hn];rfl
  ·rw[Xb hF.ne.symm];exact hu3
 show wSs _ _ _ [some (.ref f),some (.int m),some (.int c),some (wM x),none,none] M;delta F3 LA;simp!;refine _O pl sgnM (λs=>.int s.1) ?_ ?_ hΦ λD hD=>?_
 ·simp![hf,hp,XU,valM]
  exact⟨rfl,by lia,hp⟩
 ·intro s hs M' same;simp only[sCm,Xy,Yc,Yp,Yq,Yj,Y8];simp!
 have fr0:=(FrM.refl M [f,g,u]).new hD (.lst (pl.map λs=>MV.int s.1));have hf0:updM M D (.lst (pl.map λs=>MV.int s.1)) f=some (XU p g u):=by rw[Xb (neM hf hD)];exact hf
 have hp0:updM M D (.lst (pl.map λs=>MV.int s.1)) p=some (.lst (pl.map sgnM)):=by rw[Xb (neM hp hD)];exact hp
 have hg0:updM M D (.lst (pl.map λs=>MV.int s.1)) g=some (Xk (2^(A.k+1)) A.ws.length (Xj A.k A.ws.length,Xj A.k A.gp,A.gm) (A.gx.map (Xj A.k))):=by rw[Xb (neM hg hD)];exact hg
 have hu0:updM M D (.lst (pl.map λs=>MV.int s.1)) u=M u:=by rw[Xb (neM hu hD)]
 have hd0:updM M D (.lst (pl.map λs=>MV.int s.1)) D=some (.lst (pl.map λs=>MV.int s.1)):=X9;generalize updM M D _=M0 at*;have no:¬A.gives x=true->pl.map (λs=>MV.int s.1)=(Xr pl.length).map λi=>MV.int ((if A.gives x=true/\i=A.ws.length%2^A.k then x.getD 0 else(pl.getD i (0,0,0)).1:Nat):Int):=λz=>by
  refine BH (by simp) λi h1 h2=>?_
  have hi:i<pl.length:=by simpa using h1
  simp[z,hi]
 delta Lz;cases x with
 |none=>
  have z:¬A.gives none=true:=by simp[Ab.gives]
  have z':A.gives none=false:=by simpa using z
  simp![wM]
  delta F2
  simp![true_and]
  rw[no z]at hd0;have tl:=tail M0 D A.ws.length fr0 hf0 hp0 hu0 hg0 (by unfold Ab.giver;rw[if_neg z]) hd0
  rw[z',wM]at tl;exact tl
 |some y=>
  have jw:=hg0;rw[eg]at jw
  simp![wM,hf0,hg0,XU,Xk,valM]
  refine⟨g,_,_,_,_,_,rfl,jw,gs.1,Zn _,?_⟩
  simp![hd0]
  rw[gs.2,Xa,pll];have er:decide ((((A.ws.length:Int) - ((XI A.gx%2^(A.k+1):Nat):Int))%((2^(A.k+1):Nat):Int)<((2^A.k:Nat):Int)))=A.gives (some y):=by
   unfold Ab.gives;simp only[DZ,BT];exact decide_eq_decide.mpr (_kl ok)
  rw[er];delta F2;cases z:A.gives (some y)with
  |false=>
   simp![true_and]
   rw[no (by rw[z];exact Xx)]at hd0
   have tl:=tail M0 D A.ws.length fr0 hf0 hp0 hu0 hg0 (by unfold Ab.giver;rw[if_neg (by rw[z];exact Xx)]) hd0
   rw[z,wM]at tl;exact tl
  |true=>
   simp![true_and]
   delta Ly
   simp![wM,hf0,hg0,hd0,XU,Xk,valM,Xa]
   rw[pll,GH];refine⟨by lia,A.ws.length%2^A.k,_nz (VM _ kpos),?_⟩
   have fr1:FrM M (updM M0 D (.lst ((pl.map λs=>MV.int s.1).set (A.ws.length%2^A.k) (.int y)))) [f,g,u]:=λa o e n=>by
    rw[Xb (neM e hD)];exact fr0 a o e n
   have eset:(pl.map λs=>MV.int s.1).set (A.ws.length%2^A.k) (.int y)=(Xr pl.length).map λi=>MV.int ((if A.gives (some y)=true/\i=A.ws.length%2^A.k then(some y).getD 0 else(pl.getD i (0,0,0)).1:Nat):Int):=by
    refine BH (by simp) λi h1 h2=>?_
    have hi:i<pl.length:=by simpa using h1
    rw[Dz];by_cases e:A.ws.length%2^A.k=i
    ·subst e;rw[if_pos rfl];simp[z]
    ·rw[if_neg e];have e2:¬(A.gives (some y)=true/\i=A.ws.length%2^A.k):=λw=>e w.2.symm;simp[e2,hi]
   rw[eset]at fr1 ⊢;have hf1:updM M0 D (.lst ((Xr pl.length).map λi=>MV.int ((if A.gives (some y)=true/\i=A.ws.length%2^A.k then(some y).getD 0 else(pl.getD i (0,0,0)).1:Nat):Int))) f=some (XU p g u):=by rw[Xb (neM hf hD)];exact hf0
   have hp1:updM M0 D (.lst ((Xr pl.length).map λi=>MV.int ((if A.gives (some y)=true/\i=A.ws.length%2^A.k then(some y).getD 0 else(pl.getD i (0,0,0)).1:Nat):Int))) p=some (.lst (pl.map sgnM)):=by rw[Xb (neM hp hD)];exact hp0
   have hg1:updM M0 D (.lst ((Xr pl.length).map λi=>MV.int ((if A.gives (some y)=true/\i=A.ws.length%2^A.k then(some y).getD 0 else(pl.getD i (0,0,0)).1:Nat):Int))) g=some (Xk (2^(A.k+1)) A.ws.length (Xj A.k A.ws.length,Xj A.k A.gp,A.gm) (A.gx.map (Xj A.k))):=by rw[Xb (neM hg hD)];exact hg0
   have hu1:updM M0 D (.lst ((Xr pl.length).map λi=>MV.int ((if A.gives (some y)=true/\i=A.ws.length%2^A.k then(some y).getD 0 else(pl.getD i (0,0,0)).1:Nat):Int))) u=M u:=by rw[Xb (neM hu hD)];exact hu0
   have hd1:updM M0 D (.lst ((Xr pl.length).map λi=>MV.int ((if A.gives (some y)=true/\i=A.ws.length%2^A.k then(some y).getD 0 else(pl.getD i (0,0,0)).1:Nat):Int))) D=some (.lst ((Xr pl.length).map λi=>MV.int ((if A.gives (some y)=true/\i=A.ws.length%2^A.k then(some y).getD 0 else(pl.getD i (0,0,0)).1:Nat):Int))):=X9;generalize updM M0 D _=M1 at*;delta Lx
   simp![hf1,hg1,XU,Xk,valM]
   refine⟨g,_,_,_,_,rfl,hg1,?_⟩;have fr2:=fr1.upd (p:=g) (by simp) (Xk (2^(A.k+1)) (A.ws.length+1) (Xj A.k A.ws.length,Xj A.k A.gp,A.gm) (A.gx.map (Xj A.k)))
   have tl:=tail _ D (A.ws.length+1) fr2 (by rw[Xb gf.symm];exact hf1) (by rw[Xb (YZ hp1 hg1 (by intro z;unfold Xk at z;cases z))];exact hp1) (by rw[Xb hF.ne.symm];exact hu1) X9
    (by unfold Ab.giver;rw[if_pos z];simp) (by rw[Xb (YZ hd1 hg1 (by intro z;unfold Xk at z;cases z))];exact hd1)
   rw[z,wM]at tl;exact tl
noncomputable def takM(A:Ab)(x:Bool):MV:=if A.takes x=true then .int (A.ws.getD A.tn 0:Nat)else .non
abbrev Wj:SpM:=λvs M Q=>∃(f p g u:Addr) (A:Ab) (m:Int) (c:Nat) (x:Bool),vs=[.ref f,.int m,.int c,.bl x]/\FyAt M f p g u A/\A.gm<m/\A.tm<m/\
 ∀M',FrM M M' [f,g,u]->FyAt M' f p g u (A.taker m c x)->Q (.tup [takM A x,.int (Xj A.k (A.tSamp c):Nat)]) M'
theorem _4N:MonW Wj:=by walk_at "m"
set_option tactic.hygienic true in
theorem _7L(T:Txt K mg t):FnOk P w K mg base CX0 4 t.ca t.bH ["self","moment","choice","wished"] (liSp K Wj):=by
 refine T.de.okM _7H (_N (k:=3) (G:=LH) (Φ:=[("sampled",Vh)]) (Ψ:=[("Side_grow",Ut),("Side_less_the_seen",Us),("Side_ring_ahead",Vi),("Side_show_and_see",Uu)]) (Χ:=[("sampled",Vh),("Side_grow",Ut),("Side_less_the_seen",Us),("Side_ring_ahead",Vi),("Side_show_and_see",Uu)]) rfl (_P T) (_Q T) rfl (fMc ⟨Rc,(fMc ⟨GK,(fMc ⟨GJ,(fMc ⟨Ri,(fMc ⟨GM,nl0⟩)⟩)⟩)⟩)⟩) (fMc ⟨fE T.aW (Re T),nl0⟩) (fMc ⟨⟨_,_,rfl,_,_,_,_,(FnOk.mono (Rm T) (by decide)),T.ag,T.ai,T.c8,T.aY⟩,(fMc ⟨⟨_,_,rfl,_,_,_,_,(FnOk.mono (Rk T) (by decide)),T.ag,T.ai,T.br,T.ce⟩,(fMc ⟨⟨_,_,rfl,_,_,_,_,(FnOk.mono (Rj T) (by decide)),T.ag,T.ai,T.bc,T.bh⟩,(fMc ⟨⟨_,_,rfl,_,_,_,_,(FnOk.mono (Rn T) (by decide)),T.ag,T.ai,T.bX,T.bY⟩,nl0⟩)⟩)⟩)⟩) nl0 (_R T)) F5 _7Z (fun vs M Q h=>?_) (fun vs M Q h=>?_)
 ·obtain⟨f,p,g,u,A,m,c,x,rfl,_⟩:=h;rfl
 obtain⟨f,p,g,u,A,m,c,x,rfl,hF,h1,h2,q⟩:=h;have hf:=hF.fe;obtain⟨pl,hp,hpl⟩:=hF.pls;have hg:=hF.gi;have hu:=hF.ta;have ok:=hF.ok;have kpos:0<2^A.k:=Zn _;have k8:2^A.k≤8:=BW (by lia) (by have:=ok.k4;lia:A.k≤3)
 have pll:pl.length=2^A.k:=hpl.1;have gs:=Ro (n:=XI A.tx) ok.k4;have tl1:1≤A.tx.length:=by rw[ok.tl];exact ok.gl.1
 have eg:=Rp (k:=A.k) tl1;have gf:g≠f:=YZ hg hf Di;have uf:u≠f:=YZ hu hf Di;have up:u≠p:=YZ hu hp (by intro z;unfold Xk at z;cases z)
 have tail:∀(M1:MH) (n:Nat) (pz:Option MV),FrM M M1 [f,g,u]->M1 f=some (XU p g u)->M1 p=some (.lst (pl.map sgnM))->M1 g=M g->M1 u=some (Xk (2^(A.k+1)) n (Xj A.k A.tn,Xj A.k A.tp,A.tm) (A.tx.map (Xj A.k)))->n=(A.taker m c x).tn->
   wSs ([("sampled",Vh),("Side_grow",Ut),("Side_less_the_seen",Us),("Side_ring_ahead",Vi),("Side_show_and_see",Uu)]:List (Str×SpM)) F4 {nx:=fun _ M'=>Q .non M',rt:=Q} [some (.ref f),some (.int m),some (.int c),some (.bl x),some (takM A x),pz] M1:=by
  intro M1 n pz fr hf1 hp1 hg1 hu1 hn;rw[hg]at hg1;delta F4
  simp![hf1,hu1,hg1,XU,Xk,valM]
  rw[eg]at hu1;refine⟨u,2^(A.k+1),n,(Xj A.k A.tn,Xj A.k A.tp,A.tm),A.tx.dropLast.map (Xj A.k),Xj A.k (XI A.tx),m,c,(Xj A.k A.ws.length,Xj A.k A.gp,A.gm),rfl,hu1,?_,Zn _,?_⟩
  ·have:=ok.gl;have:=ok.tl;rw[Xa,Wq];lia
  intro d hd;have ed:d=Xj A.k (A.tSamp c):=by
   rw[<- hd];exact Rh ok.k4 ok.g1 _ _ c
  simp![ed]
  have fr4:=fr.upd (p:=u) (by simp) (Xk (2^(A.k+1)) n (gray (n%2^(A.k+1)),Xj A.k A.tn,m) (d::A.tx.dropLast.map (Xj A.k)))
  rw[ed]at fr4;refine q _ fr4 ⟨ok.taker h1,?_,⟨pl,?_,hpl⟩,?_,?_,hF.ne⟩
  ·rw[Xb uf.symm];exact hf1
  ·rw[Xb up.symm];exact hp1
  ·rw[Xb hF.ne];exact hg1
  ·rw[X9];show _=some (Xk (2^(A.k+1)) (A.taker m c x).tn (Xj A.k (A.taker m c x).tn,Xj A.k A.tn,m) ((A.tSamp c::A.tx.dropLast).map (Xj A.k)));rw[<- hn];rfl
 show wSs _ _ _ [some (.ref f),some (.int m),some (.int c),some (.bl x),none,none] M;delta F5 LG;simp!;delta LF;cases x with
 |false=>
  have z:¬A.takes false=true:=by simp[Ab.takes]
  simp![true_and]
  have tl:=tail M A.tn none (FrM.refl _ _) hf hp rfl hu (by unfold Ab.taker;rw[if_neg z])
  rw[takM,if_neg z]at tl;exact tl
 |true=>
  have jx:=hu;rw[eg]at jx
  simp![hf,hu,XU,Xk,valM]
  refine⟨u,_,_,_,_,_,rfl,jx,gs.1,Zn _,?_⟩
  simp![true_and]
  rw[gs.2];refine Y5 (λhne=>?_) (λhne=>?_)
  ·have ne:XI A.tx≠A.tn:=λe=>hne ((R8 ok).mpr e);have z:A.takes true=true:=by unfold Ab.takes;simpa using ne
   obtain⟨hj,ah,ha,hb⟩:=_hV ok hpl ne;delta LE
   simp![hf,hu,hp,XU,Xk,valM,Xa]
   rw[pll,GH];have a1:atI (pl.map sgnM) ((A.tn%2^A.k:Nat):Int)=some (sgnM (A.ws[A.tn],ah,A.gm)):=by
    refine YE ?_;rw[Xq,ha];rfl
   refine⟨by lia,_,a1,?_⟩
   delta LD
   simp![hf,hu,XU,Xk,valM]
   refine⟨u,_,_,_,_,rfl,hu,?_⟩
   simp![true_and]
   refine⟨A.ws[A.tn],ah,A.gm,A.tm,c,rfl,?_⟩;have ew:(if A.tm<A.gm then seen ah A.ws[A.tn] c else A.ws[A.tn])=A.ws[A.tn]:=by
    split
    ·rename_i w;rw[hb w,_i9]
    ·rfl
   rw[ew];delta LC
   simp![hf,hu,XU,Xk,valM]
   refine⟨u,_,_,_,_,rfl,hu,?_⟩;have fr2:=(FrM.refl M [f,g,u]).upd (p:=u) (by simp) (Xk (2^(A.k+1)) (A.tn+1) (Xj A.k A.tn,Xj A.k A.tp,A.tm) (A.tx.map (Xj A.k)))
   have tl:=tail _ (A.tn+1) (some (sgnM (A.ws[A.tn],ah,A.gm))) fr2 (by rw[Xb uf.symm];exact hf) (by rw[Xb up.symm];exact hp) (by rw[Xb hF.ne]) X9 (by unfold Ab.taker;rw[if_pos z])
   have eg2:A.ws.getD A.tn 0=A.ws[A.tn]:=by rw[Yo,Xc hj];rfl
   rw[takM,if_pos z,eg2]at tl;exact tl
  ·have e:XI A.tx=A.tn:=(R8 ok).mp (Decidable.not_not.mp hne);have z:¬A.takes true=true:=by unfold Ab.takes;simpa using e
   have tl:=tail M A.tn none (FrM.refl _ _) hf hp rfl hu (by unfold Ab.taker;rw[if_neg z])
   rw[takM,if_neg z]at tl;exact tl
theorem FyAt.same(h:FyAt M f p g u A)(s:∀a o,M a=some o->(∀xs,o=.lst xs->a=p)->M' a=some o):FyAt M' f p g u A:=by
 obtain⟨pl,hp,hpl⟩:=h.pls;exact⟨h.ok,s _ _ h.fe (λxs z=>by cases z),⟨pl,s _ _ hp (λxs _=>rfl),hpl⟩,s _ _ h.gi (λxs z=>by cases z),s _ _ h.ta (λxs z=>by cases z),h.ne⟩
theorem FyAt.keep(h:FyAt M f p g u A)(s:SameM M M'):FyAt M' f p g u A:=h.same λa o e _=>s a o e
theorem FyAt.put{M:MH}{f p g u q:Addr}{A:Ab}{xs:List MV}(h:FyAt M f p g u A)(hq:M q=some (.lst xs))(n:q≠p)(ys:List MV):FyAt (updM M q (.lst ys)) f p g u A:=h.same λa o e z=>by
 by_cases w:a=q
 ·subst w;rw[hq]at e;cases e;exact absurd (z xs rfl) n
 ·rw[Xb w];exact e
theorem Rr(h:FyAt M f p g u A)(hq:M q=some (.lst xs)):q∉ [f,g,u]:=by
 intro z;rcases Xl.mp z with rfl|z
 ·rw[h.fe]at hq;cases hq
 rcases Xl.mp z with rfl|z
 ·rw[h.gi]at hq;cases hq
 rcases Xl.mp z with rfl|z
 ·rw[h.ta]at hq;cases hq
 ·cases z
abbrev GN:SpM:=λvs M Q=>∃(ns:List Int) (k:Nat),vs=[.frl (ns.map .int),.int k]/\Q (.int (ns.getD k 0)) M
theorem _7P:MonW GN:=by walk_at "m"
theorem _b4(T:Txt K mg t):FnOk P w K mg base CX0 1 t.cN t.eX ["script","k"] (liSp K GN):=by
 refine T.bq.F.okM _aR (fC (G:=P3) (Φ:=[]) T rfl nl0 nl0) FY _bF (λvs M Q h=>?_) (λvs M Q h=>?_)
 ·obtain⟨ns,k,rfl,_⟩:=h;rfl
 obtain⟨ns,k,rfl,q⟩:=h;show wSs _ _ _ [some (.frl (ns.map .int)),some (.int k)] M;delta FY P2;simp!;refine Y5 (λc=>?_) (λc=>?_)
 ·rw[Xa]at c;have hk:k<ns.length:=by lia
  delta P1;simp!;have e:ns.getD k 0=ns[k]:=by simp[Yo,hk]
  rw[e]at q;exact⟨_,YE (by rw[Xq,Xc hk];rfl),q⟩
 ·rw[Xa]at c;have e:ns.getD k 0=0:=by simp[Yo,Dr.mpr (show ns.length≤k by lia)]
  rw[e]at q;delta P0;simp!;exact q
abbrev Bj:SpM:=λvs M Q=>∃i,vs=[.int i]/\Q (.bl true) M
theorem Rs:MonW Bj:=by walk_at "m"
theorem _dk(T:Txt K mg t):FnOk P w K mg base CX0 1 t.eK t.eQ ["found"] (liSp K Bj):=by
 refine T.bK.F.okM _de (fC (G:=P5) (Φ:=[]) T rfl nl0 nl0) FZ _dL (λvs M Q h=>?_) (λvs M Q h=>?_)
 ·obtain⟨i,rfl,_⟩:=h;rfl
 obtain⟨i,rfl,q⟩:=h;show wSs _ _ _ [some (.int i)] M;delta FZ P4;simp!
 simpa using q
def alph:Str:="abcdefghijklmnopqrstuvwxyz"
theorem _lp:alph.cps.toList.length=26:=by decide+kernel
theorem _jP:alph.length≤16777216:=by decide+kernel
theorem GO(h0:0≤i)(h1:i<26):∃c,atI alph.cps.toList i=some c:=by
 have hk:i.toNat<alph.cps.toList.length:=by rw[_lp];lia
 refine⟨alph.cps.toList[i.toNat],?_⟩;have:=YE (xs:=alph.cps.toList) (j:=i.toNat) (Xc hk)
 rwa [UF h0]at this
theorem Rt(c:Nat):(⟨#[c]⟩:Str).length=1:=rfl
theorem _oo(a b:Str):(a++b).length=a.length+b.length:=by
 show(a.cps++b.cps).size=_;rw[Array.size_append]
 rfl
def ltr(i:Int):Str:=match atI alph.cps.toList i with
 |some c=>⟨#[c]⟩
 |none=>U7
def YS(n k:Int):Str:=if n%3=2 then Txt.mul (ltr (n/192%26)) (1+(3*k+n/192)%7)++Txt.mul (ltr ((n/192%26+1+n/4992%25)%26)) (k/7)
 else Txt.mul (ltr (n/192%26)) (n/24%8%(1+n/3%8))++ltr ((n/4992+7*k)%26)++Txt.mul (ltr (n/192%26)) (1+n/3%8 - 1 - n/24%8%(1+n/3%8))
abbrev Bk:SpM:=λvs M Q=>∃(n k:Int),vs=[.int n,.int k]/\0≤k/\k≤50/\Q (.str (YS n k)) M
theorem Ru:MonW Bk:=by walk_at "m"
theorem Rv(T:Txt K mg t):FnOk P w K mg base CX0 1 t.dC t.eZ ["number","k"] (liSp K Bk):=by
 refine T.aX.F.okM _e5 (fC (G:=Pf) (Φ:=[]) T rfl nl0 nl0) G0 _eY (λvs M Q h=>?_) (λvs M Q h=>?_)
 ·obtain⟨n,k,rfl,_⟩:=h;rfl
 obtain⟨n,k,rfl,hk0,hk1,q⟩:=h;show wSs _ _ _ [some (.int n),some (.int k),none,none,none,none,none,none] M;delta G0 Pe;simp!;delta Pd;simp!;delta Pc;simp!;have al:=_jP;obtain⟨c1,a1⟩:=GO (i:=n/192%26) (by lia) (by lia)
 have e1:ltr (n/192%26)=⟨#[c1]⟩:=by unfold ltr;rw[a1]
 unfold YS at q;rw[e1]at q;refine Y5 (λc=>?_) (λc=>?_)
 ·rw[if_pos c]at q;delta Pb;simp!;obtain⟨c2,a2⟩:=GO (i:=(n/192%26+1+n/4992%25)%26) (by lia) (by lia)
  have e2:ltr ((n/192%26+1+n/4992%25)%26)=⟨#[c2]⟩:=by unfold ltr;rw[a2]
  rw[e2]at q;refine⟨al,c2,a2,?_⟩;delta Pa;simp!;refine⟨al,c1,a1,?_⟩;have l1:=Cu (z:=⟨#[c1]⟩) (i:=1+(3*k+n/192)%7) 8 (by lia) (Xg 1)
  have l2:=Cu (z:=⟨#[c2]⟩) (i:=k/7) 8 (by lia) (Xg 1)
  simp only[Rt];exact⟨by decide,by lia,by lia,by decide,by lia,by lia,by lia,q⟩
 ·rw[if_neg c]at q;obtain⟨lo,hlo⟩:∃lo:Int,1+n/3%8=lo:=⟨_,rfl⟩;obtain⟨c3,a3⟩:=GO (i:=(n/4992+7*k)%26) (by lia) (by lia)
  have e3:ltr ((n/4992+7*k)%26)=⟨#[c3]⟩:=by unfold ltr;rw[a3]
  rw[e3,hlo]at q;delta P9;simp!;rw[hlo];delta P8;simp!;have hp:(0:Int)<lo:=by lia
  refine⟨hp,?_⟩;obtain⟨at',hat⟩:∃at':Int,n/24%8%lo=at':=⟨_,rfl⟩;have h0:0≤at':=by rw[<- hat];exact ZC _ (by lia)
  have h1:at'<lo:=by rw[<- hat];exact U6 _ hp
  rw[hat]at q;rw[hat];delta P7;simp!;refine⟨al,c3,a3,?_⟩;delta P6;simp!;have l1:=Cu (z:=⟨#[c1]⟩) (i:=at') 8 (by lia) (Xg 1)
  have l2:=Cu (z:=⟨#[c1]⟩) (i:=lo - 1 - at') 8 (by lia) (Xg 1)
  refine⟨al,c1,a1,?_⟩;simp only[Rt,_oo];exact⟨by decide,by lia,by lia,by lia,al,c1,a1,by decide,by lia,by lia,by lia,q⟩
theorem Rw(c:Nat):∀(k:Nat) (acc:Array Nat),((Xi k #[c]).foldl (·++·) acc).toList=acc.toList++Xi k c
 |0,acc=>by simp
 |k+1,acc=>by
  rw[Za,VD,Rw c k,Array.toList_append,Vy,Za];rfl
theorem mul_one(c:Nat)(i:Int):(Txt.mul (⟨#[c]⟩:Str) i).cps.toList=Xi i.toNat c:=by
 unfold Txt.mul;by_cases h:i<1
 ·rw[if_pos h];have:i.toNat=0:=by lia
  rw[this];rfl
 rw[if_neg h];by_cases h2:(i==1||(⟨#[c]⟩:Str).length==0)=true
 ·rw[if_pos h2];rcases(BQ _ _).mp h2 with e|e
  ·have:i=1:=by simpa using e
   subst this;rfl
  ·have:(⟨#[c]⟩:Str).length=0:=by simpa using e
   cases this
 ·rw[if_neg h2];show((Xi i.toNat #[c]).foldl (·++·) #[]).toList=_;rw[Rw];rfl
theorem _op:alph.cps.toList=(Xr 26).map (97+·):=by decide+kernel
theorem Dj(h0:0≤i)(h1:i<26):ltr i=⟨#[97+i.toNat]⟩:=by
 unfold ltr;have hk:i.toNat<26:=by lia
 have e:atI alph.cps.toList i=some (97+i.toNat):=by
  have:=YE (xs:=alph.cps.toList) (j:=i.toNat) (v:=97+i.toNat) (by rw[_op,Xq,Wr hk];rfl)
  rwa [UF h0]at this
 rw[e]
theorem GP(a b:Str):(a++b).cps.toList=a.cps.toList++b.cps.toList:=by
 show(a.cps++b.cps).toList=_;rw[Array.toList_append]
theorem GQ(c:n%3=2){k:Int}(h0:0≤k)(h1:k≤10):∃c1 c2:Nat,c1≠c2/\97≤c1/\c1≤122/\97≤c2/\c2≤122/\c1=97+(n/192%26).toNat/\c2=97+((n/192%26+1+n/4992%25)%26).toNat/\(YS n k).cps.toList=Xi (1+(3*k+n/192)%7).toNat c1++Xi (k/7).toNat c2:=by
 refine⟨_,_,?_,?_,?_,?_,?_,rfl,rfl,?_⟩
 ·lia
 ·lia
 ·lia
 ·lia
 ·lia
 ·unfold YS;rw[if_pos c,GP,Dj (by lia) (by lia),Dj (by lia) (by lia),mul_one,mul_one]
theorem GR(c:¬n%3=2)(k:Int):∃at' lo c1:Nat,at'<lo/\lo≤8/\97≤c1/\c1≤122/\at'=(n/24%8%(1+n/3%8)).toNat/\
  (YS n k).cps.toList=Xi at' c1++(97+((n/4992+7*k)%26).toNat)::Xi (lo - 1 - at') c1:=by
 have h0:0≤n/24%8%(1+n/3%8):=ZC _ (by lia)
 have h1:n/24%8%(1+n/3%8)<1+n/3%8:=U6 _ (by lia)
 refine⟨(n/24%8%(1+n/3%8)).toNat,(1+n/3%8).toNat,97+(n/192%26).toNat,by lia,by lia,by lia,by lia,rfl,?_⟩
 unfold YS;rw[if_neg c,GP,GP,Dj (by lia) (by lia),Dj (by lia) (by lia),mul_one,mul_one]
 have e:(1+n/3%8 - 1 - n/24%8%(1+n/3%8)).toNat=(1+n/3%8).toNat - 1 - (n/24%8%(1+n/3%8)).toNat:=by lia
 rw[e,Vy];rfl
theorem Dk{k:Int}(h0:0≤k)(h1:k≤10):Zr (YS n k):=by
 have el:∀z:Str,z.length=z.cps.toList.length:=λz=>XY.symm;by_cases c:n%3=2
 ·obtain⟨c1,c2,ne,a1,a2,b1,b2,_,_,e⟩:=GQ c h0 h1;refine⟨?_,?_,?_⟩
  ·rw[el,e,Yw,Z9,Z9];lia
  ·rw[el,e,Yw,Z9,Z9];lia
  ·intro x hx;rw[e]at hx;rcases YJ.mp hx with hx|hx
   ·rw[UV hx];exact⟨a1,a2⟩
   ·rw[UV hx];exact⟨b1,b2⟩
 ·obtain⟨at',lo,c1,l1,l2,a1,a2,_,e⟩:=GR c k;refine⟨?_,?_,?_⟩
  ·rw[el,e,Yw,Yr,Z9,Z9];lia
  ·rw[el,e,Yw,Yr,Z9,Z9];lia
  ·intro x hx;rw[e]at hx;rcases YJ.mp hx with hx|hx
   ·rw[UV hx];exact⟨a1,a2⟩
   ·rcases Xl.mp hx with hx|hx
    ·rw[hx];lia
    ·rw[UV hx];exact⟨a1,a2⟩
theorem Bl{k:Int}(h0:0≤k)(h1:k≤10)(h0':0≤k')(h1':k'≤10)(h:YS n k=YS n k'):k=k':=by
 by_cases c:n%3=2
 ·obtain⟨c1,c2,ne,_,_,_,_,e1,e2,e⟩:=GQ c h0 h1;obtain⟨d1,d2,_,_,_,_,_,f1,f2,f⟩:=GQ c h0' h1';rw[<- e1]at f1;rw[<- e2]at f2;subst f1 f2;rw[<- h,e]at f;have p1:=congrArg (List.count d1) f;have p2:=congrArg (List.count d2) f;simp only[List.count_append,List.count_replicate,beq_iff_eq,if_true,ne,XN ne,if_false,Nat.add_zero,Nat.zero_add]at p1 p2
  try simp at p1 p2
  omega
 ·obtain⟨at',lo,c1,l1,l2,a1,a2,e0,e⟩:=GR c k;obtain⟨at2,lo2,c2,_,_,_,_,f0,f⟩:=GR c k';rw[<- e0]at f0;subst f0;rw[<- h,e]at f;have p:=congrArg (λl=>l[at2]?) f
  try simp only at p
  rw[Zy (by rw[Z9];exact Xg _),Zy (by rw[Z9];exact Xg _),Z9,Nat.sub_self]at p
  have p:97+((n/4992+7*k)%26).toNat=97+((n/4992+7*k')%26).toNat:=by simpa using p
  omega
abbrev Wk:SpM:=λvs M Q=>∃(n:Int) (a:Addr) (x y:Str),vs=[.int n,.ref a]/\M a=some (.lst [.str x,.str y])/\0≤n/\n≤10^8/\∀(U:Tm) M',SameM M M'->TmIn [x,y] U->Q U.mv M'
theorem Rx:MonW Wk:=by walk_at "m"
theorem at_two(h:i%2=i):atI [v,u] i=some (if i=0 then v else u):=by
 rcases(show i=0\/i=1 by lia)with e|e<;>rw[e]
 ·exact at0
 ·exact at1
theorem _en(T:Txt K mg t):FnOk P w K mg base CX0 1 t.hZ t.dR ["number","names"] (liSp K Wk):=by
 refine T.bd.F.okM _e3 (fC (G:=Pq) (Φ:=[]) T rfl nl0 nl0) G1 _eW (λvs M Q h=>?_) (λvs M Q h=>?_)
 ·obtain⟨n,a,x,y,rfl,_⟩:=h;rfl
 obtain⟨n,a,x,y,rfl,ha,n0,n1,q⟩:=h;show wSs _ _ _ [some (.int n),some (.ref a),none,none] M;obtain⟨z,hz,az⟩:∃z,(z=x\/z=y)/\atI [MV.str x,.str y] (n/8%2)=some (.str z):=by
  rcases(show n/8%2=0\/n/8%2=1 by lia)with e|e<;>rw[e]
  ·exact⟨x,.inl rfl,at0⟩
  ·exact⟨y,.inr rfl,at1⟩
 obtain⟨z',hz',az'⟩:∃z,(z=x\/z=y)/\atI [MV.str x,.str y] (n/224%2)=some (.str z):=by
  rcases(show n/224%2=0\/n/224%2=1 by lia)with e|e<;>rw[e]
  ·exact⟨x,.inl rfl,at0⟩
  ·exact⟨y,.inr rfl,at1⟩
 delta G1 Pp
 simp![ha,az]
 delta Po;simp!;intro p hp;obtain⟨r,hr⟩:∃r:Int,atI [MV.int (n/16%7 - 3),MV.int (n/16*1000000007%100000000000000000000)] (n/112%2)=some (.int r):=by
  rcases(show n/112%2=0\/n/112%2=1 by lia)with e|e<;>rw[e]
  ·exact⟨_,at0⟩
  ·exact⟨_,at1⟩
 refine⟨_,hr,?_⟩;have s1:=SameM.new hp (.lst [MV.int (n/16%7 - 3),MV.int (n/16*1000000007%100000000000000000000)]);generalize updM M p _=M1 at*;have ha1:=s1 _ _ ha;have rd:∀u,u∈ [z]->u∈ [x,y]:=λu hu=>by
  rw[Y3.mp hu];rcases hz with rfl|rfl<;>simp
 delta Pn;simp!;refine Y5 (λ_=>?_) (λc2=>?_)
 ·delta Pl;simp!;intro p2 hp2;have s2:=s1.trans (SameM.new hp2 (.lst [.tup [.str "var",.str z],.tup [.str "num",.int r]]));rcases(show n%2=0\/n%2=1 by lia)with e|e<;>rw[e]
  ·exact⟨_,at0,q (.var z) _ s2 ⟨by simp[Tm.depth],by simp[Tm.size],λu hu=>rd u hu⟩⟩
  ·exact⟨_,at1,q (.num r) _ s2 ⟨by simp[Tm.depth],by simp[Tm.size],λu hu=>by simp[Tm.reads]at hu⟩⟩
 delta Pk;simp!;refine Y5 (λc5=>?_) (λc5=>?_)
 ·delta Pj;simp!;intro p2 hp2;have s2:=s1.trans (SameM.new hp2 (.lst [.str "plus",.str "minus",.str "times"]));have fin:∀f:Form,Q (.tup [.str f.str,.tup [.str "var",.str z],.tup [.str "num",.int r]]) (updM M1 p2 (.lst [.str "plus",.str "minus",.str "times"])):=fun f=>
   q (.two f (.var z) (.num r)) _ s2 ⟨by simp[Tm.depth],by simp[Tm.size],λu hu=>rd u (by simpa [Tm.reads]using hu)⟩
  rcases(show n%8 - 2=0\/n%8 - 2=1\/n%8 - 2=2 by lia)with e|e|e<;>rw[e]
  ·exact⟨_,at0,fin .plus⟩
  ·exact⟨_,at1,fin .minus⟩
  ·exact⟨_,at2,fin .times⟩
 delta Pi;simp!;refine Y5 (λ_=>?_) (λ_=>?_)
 ·delta Ph;simp!;exact q (.pick (.two .less (.var z) (.num r)) (.num r) (.var z)) _ s1 ⟨by simp[Tm.depth],by simp[Tm.size],λu hu=>rd u (by simpa [Tm.reads]using hu)⟩
 ·delta Pg
  simp![ha1,az']
  refine q (.two .plus (.var z) (.var z')) _ s1 ⟨by simp[Tm.depth],by simp[Tm.size],λu hu=>?_⟩
  simp only[Tm.reads,Yj,Y8,Xl,XL,or_false]at hu;rcases hu with rfl|rfl
  ·rcases hz with rfl|rfl<;>simp
  ·rcases hz' with rfl|rfl<;>simp
theorem Ry{own:List Str}{fr:List Nat}{α:Type}(xs:List α)(f g:α->MV)(b:α->Bool)
  (hs:wSr Φ src σ M λS M1=>S.items=xs.map f/\xs.length<sizeLine/\S.okF M1/\M1=M)
  (ht:∀x∈xs,∀M',SameM M M'->wTg tg (f x) (sCm own fr σ) λσ2=>wE Φ test σ2 M' λv M2=>v=.bl (b x)/\M2=M'/\(b x=true->wE Φ elt σ2 M' λy M2=>y=g x/\M2=M'))
  (hΦ:∀(j:Nat) f sp,Φ[j]?=some (f,sp)->MonW sp) (q:∀D,M D=none->Q (.ref D) (updM M D (.lst ((xs.filter b).map g)))):wE Φ (.comp own fr src tg (.some test) elt) σ M Q:=by
 rw[A5];refine mon_sr hΦ src (λS M1 ⟨h1,h2,h3,h4⟩=>?_) hs;subst h4;have hl:S.len=xs.length:=by rw[<- S.items_len,h1,Xa]
 refine⟨by rw[hl];exact h2,λD hD=>⟨λi ys M2=>M2=updM M1 D (.lst ys)/\ys=((xs.take i).filter b).map g,⟨rfl,by simp⟩,?_,?_,?_⟩⟩
 ·rintro i ys M2 ⟨rfl,rfl⟩;refine⟨X9,?_,?_⟩
  ·rw[Xa];have h1:=List.length_filter_le b (xs.take i);rw[YI]at h1;lia
  cases S with
  |tup _=>trivial
  |rng _ _=>trivial
  |rst _ _ _=>trivial
  |dic _ _ _=>exact h3.elim
  |str _=>trivial
  |lst a zs=>exact SameM.new hD _ _ _ h3
 ·rintro i x ys M2 hx ⟨rfl,rfl⟩;rw[h1]at hx;obtain⟨hi,rfl⟩:=YQ hx;refine UJ tg (λσ2 h=>?_) (ht xs[i] (XV hi) _ (SameM.new hD (.lst (((xs.take i).filter b).map g))));rw[wI];refine X7 hΦ test (λv M2 ⟨e1,e2,e3⟩=>?_) h;subst e1 e2;have et:xs.take (i+1)=xs.take i++[xs[i]]:=by rw[U2,Xc hi];rfl
  refine⟨b xs[i],rfl,?_⟩;by_cases hb:b xs[i]=true
  ·rw[if_pos hb];refine X7 hΦ elt (λy M2 ⟨e1,e2⟩=>?_) (e3 hb);subst e1 e2;refine⟨X9,YF,?_⟩;rw[et,List.filter_append,Y1,List.filter_cons_of_pos hb]
   rfl
  ·rw[if_neg hb];refine⟨rfl,?_⟩;rw[et,List.filter_append,Y1,List.filter_cons_of_neg hb];simp
 ·rintro ys M2 ⟨rfl,rfl⟩;rw[hl,Vw (Xg _),A6 h3];exact q D hD
abbrev Dl:SpM:=λvs M Q=>∃(n:Int) (z:Str) (a f:Addr) (x y:Str) (F:List Fer) (m:Nat),vs=[.int n,.str z,.ref a,.ref f,.int m]/\M a=some (.lst [.str x,.str y])/\M f=some (.lst (F.map Fer.mv))/\F.length≤6/\0≤n/\n≤10^8/\m≤100/\(F.map (·.name)).Nodup/\
 ∀(S:Stp) M',SameM M M'->ZT (F.map (·.name)) [x,y] m S->ZU F z S->Q S.mv M'
theorem _ar:MonW Dl:=by walk_at "m"
theorem Rz{F:List Fer}(nd:(F.map (·.name)).Nodup){u v:Fer}(hu:u∈F)(hv:v∈F)(e:u.name=v.name):u=v:=by
 obtain⟨i,hi,rfl⟩:=Y6 hu;obtain⟨j,hj,rfl⟩:=Y6 hv;have:i=j:=by
  refine(BF (xs:=F.map (·.name)) (h₀:=by simpa using hi) (h₁:=by simpa using hj) nd).mp ?_
  rw[Dy,Dy];exact e
 subst this;rfl
theorem RA{F:List Fer}{b:Fer->Bool}{i:Int}(h:F.filter b≠ []):∃v∈F,b v=true/\atI ((F.filter b).map λv=>MV.str v.name) (i%((F.filter b).length:Int))=some (.str v.name):=by
 have hl:0<(F.filter b).length:=Du.mpr h;have h0:=ZC i (b:=((F.filter b).length:Int)) (by lia)
 have h1:=U6 i (b:=((F.filter b).length:Int)) (by lia)
 obtain⟨j,hj⟩:∃j:Nat,i%((F.filter b).length:Int)=(j:Int):=⟨(i%((F.filter b).length:Int)).toNat,by lia⟩
 have hj2:j<(F.filter b).length:=by lia
 have hm:=XV hj2;rw[DA]at hm;refine⟨(F.filter b)[j],hm.1,hm.2,?_⟩;rw[hj];exact YE (by rw[Xq,Xc hj2];rfl)
theorem _eo(T:Txt K mg t):FnOk P w K mg base CX0 2 t.fz t.gO ["number","name","names","ferries","many"] (liSp K Dl):=by
 refine T.bb.F.okM _e4 (fC (G:=Pz) (Φ:=[("_law_term",Wk)]) T rfl (fMc ⟨Rx,nl0⟩) (fMc ⟨fE T.bd (_en T),nl0⟩)) G4 _eX (fun vs M Q h=>?_) (fun vs M Q h=>?_)
 ·obtain⟨n,z,a,f,x,y,F,m,rfl,_⟩:=h;rfl
 obtain⟨n,z,a,f,x,y,F,m,rfl,ha,hf,h6,n0,n1,hm,nd,q⟩:=h;show wSs _ _ _ [some (.int n),some (.str z),some (.ref a),some (.ref f),some (.int m),none,none,none] M;have hΦ:=(UL (Φ:=[("_law_term",Wk)]) (fMc ⟨Rx,nl0⟩));delta G4 Py;simp!;refine Ry F Fer.mv (λv=>.str v.name) (λv=>decide (v.taker=z)) ?_ ?_ hΦ λD1 hD1=>?_
 ·simp![hf]
  exact⟨rfl,by lia,hf⟩
 ·intro v hv M' s;simp only[sCm,Xy,Yc,Yp,Yq,Yj,Y8]
  simp![Fer.mv]
  try simp
 have s1:=SameM.new hD1 (.lst ((F.filter λv=>decide (v.taker=z)).map λv=>MV.str v.name));have d1:updM M D1 (.lst ((F.filter λv=>decide (v.taker=z)).map λv=>MV.str v.name)) D1=some (.lst ((F.filter λv=>decide (v.taker=z)).map λv=>MV.str v.name)):=X9;generalize updM M D1 _=M1 at*;have hf1:=s1 _ _ hf;delta Px;simp!;refine Ry F Fer.mv (λv=>.str v.name) (λv=>decide (v.giver=z)) ?_ ?_ hΦ λD2 hD2=>?_
 ·simp![hf1]
  exact⟨rfl,by lia,hf1⟩
 ·intro v hv M' s;simp only[sCm,Xy,Yc,Yp,Yq,Yj,Y8]
  simp![Fer.mv]
  try simp
 have s2:=SameM.new hD2 (.lst ((F.filter λv=>decide (v.giver=z)).map λv=>MV.str v.name));have d2:updM M1 D2 (.lst ((F.filter λv=>decide (v.giver=z)).map λv=>MV.str v.name)) D2=some (.lst ((F.filter λv=>decide (v.giver=z)).map λv=>MV.str v.name)):=X9;generalize updM M1 D2 _=M2 at*;have d12:=s2 _ _ d1;have ss:=s1.trans s2;have ha2:=ss _ _ ha;delta Pw;simp!;have last:∀M3,SameM M2 M3->wSs ([("_law_term",Wk)]:List (Str×SpM)) G2 {nx:=fun x M'=>Q MV.non M',rt:=Q} [some (.int n),some (.str z),some (.ref a),some (.ref f),some (.int m),some (.ref D1),some (.ref D2),some (.int (n/128))] M3:=by
  intro M3 s3;have ha3:=s3 _ _ ha2;have st:=ss.trans s3;delta G2;simp!;refine Y5 (λ_=>?_) (λ_=>?_)
  ·delta Ps;simp!;refine⟨n/128,a,x,y,rfl,ha3,by lia,by lia,λU M4 s4 hU=>?_⟩
   simp!;have hp:(0:Int)<(m:Int)+1:=by lia
   exact⟨hp,q (.jump U (n/8%(m+1))) M4 (st.trans s4) ⟨hU,ZC _ (by lia),by have:=U6 (n/8) hp;lia⟩ trivial⟩
  ·delta Pr;obtain⟨u,hu,au⟩:∃u,u∈ [x,y]/\atI [MV.str x,.str y] (n/8%2)=some (.str u):=by
    rcases(show n/8%2=0\/n/8%2=1 by lia)with e|e<;>rw[e]
    ·exact⟨x,by simp,at0⟩
    ·exact⟨y,by simp,at1⟩
   simp![ha3,au]
   refine⟨n/128,a,x,y,rfl,ha3,by lia,by lia,λU M4 s4 hU=>?_⟩
   try simp!
   exact q (.put u U) M4 (st.trans s4) ⟨hu,hU⟩ trivial
 have mid:∀M3,SameM M2 M3->wSs ([("_law_term",Wk)]:List (Str×SpM)) G3 {nx:=fun x M'=>Q MV.non M',rt:=Q} [some (.int n),some (.str z),some (.ref a),some (.ref f),some (.int m),some (.ref D1),some (.ref D2),some (.int (n/128))] M3:=by
  intro M3 s3;delta G3;simp!;refine Y5 (λ_=>?_) (λ_=>last M3 s3);intro p hp;have s4:=s3.trans (SameM.new hp (.lst []));have p4:updM M3 p (.lst []) p=some (.lst []):=X9;generalize updM M3 p _=M4 at*;have d4:=s4 _ _ d2;have ha4:=s4 _ _ ha2;refine EF d4 p4 ?_;by_cases hn:(F.filter λv=>decide (v.giver=z))=[]
  ·rw[hn];exact last M4 s4
  ·have he:((F.filter λv=>decide (v.giver=z)).map λv=>MV.str v.name).isEmpty=false:=by
    cases e:F.filter λv=>decide (v.giver=z)with
    |nil=>exact absurd e hn
    |cons _ _=>rfl
   rw[he,if_pos rfl];delta Pt;obtain⟨v,hv,hb,av⟩:=RA (i:=n/8) hn;have hl:0<(F.filter λv=>decide (v.giver=z)).length:=Du.mpr hn
   simp![d4,Xa,av]
   refine⟨by lia,?_⟩
   try simp![av]
   refine⟨n/128,a,x,y,rfl,ha4,by lia,by lia,λU M5 s5 hU=>?_⟩
   try simp!
   refine q (.give v.name U) M5 ((ss.trans s4).trans s5) ⟨XS.mpr ⟨v,hv,rfl⟩,hU⟩ (λu hu e=>?_);rw[Rz nd hu hv e];exact of_decide_eq_true hb
 delta Pv;simp!;refine Y5 (λ_=>?_) (λ_=>mid M2 (SameM.refl _));intro p hp;have s4:=SameM.new hp (.lst []);have p4:updM M2 p (.lst []) p=some (.lst []):=X9;generalize updM M2 p _=M4 at*;have d4:=s4 _ _ d12;have ha4:=s4 _ _ ha2;refine EF d4 p4 ?_;by_cases hn:(F.filter λv=>decide (v.taker=z))=[]
 ·rw[hn];exact mid M4 s4
 ·have he:((F.filter λv=>decide (v.taker=z)).map λv=>MV.str v.name).isEmpty=false:=by
   cases e:F.filter λv=>decide (v.taker=z)with
   |nil=>exact absurd e hn
   |cons _ _=>rfl
  rw[he,if_pos rfl];delta Pu;obtain⟨v,hv,hb,av⟩:=RA (i:=n/8) hn;have hl:0<(F.filter λv=>decide (v.taker=z)).length:=Du.mpr hn;obtain⟨u,hu,au⟩:∃u,u∈ [x,y]/\atI [MV.str x,.str y] (n/128%2)=some (.str u):=by
   rcases(show n/128%2=0\/n/128%2=1 by lia)with e|e<;>rw[e]
   ·exact⟨x,by simp,at0⟩
   ·exact⟨y,by simp,at1⟩
  simp![d4,Xa,av,ha4,au]
  refine⟨by lia,?_⟩
  try simp![av,ha4,au]
  refine q (.take v.name u) M4 (ss.trans s4) ⟨XS.mpr ⟨v,hv,rfl⟩,hu⟩ (λu' hu' e=>?_);rw[Rz nd hu' hv e];exact of_decide_eq_true hb
abbrev GS:SpM:=λvs M Q=>∃(n nm ar:Int) (k:Nat) (f:Addr) (F:List Fer),vs=[.int n,.int k,.int nm,.ref f,.int ar]/\M f=some (.lst (F.map Fer.mv))/\F.length≤6/\(F.map (·.name)).Nodup/\0≤n/\n≤10^60/\k≤4/\
 ∀(I:Isl) (a b:Addr) M',SameM M M'->M a=none->M b=none->a≠b->M' a=some (.lst (I.prs.map prV))->M' b=some (.lst (I.stps.map Stp.mv))->I.name=YS nm k->(∀w,1≤w->IslOk w (F.map (·.name)) I)->(∀s∈I.stps,ZU F I.name s)->Q (.tup [.str I.name,.ref a,.ref b]) M'
theorem _8j:MonW GS:=by walk_at "m"
theorem _c7(T:Txt K mg t):FnOk P w K mg base CX0 3 t.dD t.dG ["number","k","naming","ferries","around"] (liSp K GS):=by
 refine T.bQ.F.okM _c1 (fC (G:=PR) (Φ:=[("_law_name",Bk),("_law_step",Dl)]) T rfl (fMc ⟨Ru,(fMc ⟨_ar,nl0⟩)⟩) (fMc ⟨fE T.aX (Rv T),(fMc ⟨fE T.bb (_eo T),nl0⟩)⟩)) G6 _cp (fun vs M Q h=>?_) (fun vs M Q h=>?_)
 ·obtain⟨n,nm,ar,k,f,F,rfl,_⟩:=h;rfl
 obtain⟨n,nm,ar,k,f,F,rfl,hf,h6,nd,n0,n1,hk,q⟩:=h;show wSs _ _ _ [some (.int n),some (.int k),some (.int nm),some (.ref f),some (.int ar),none,none,none,none,none,none,none] M;delta G6 PQ;simp!;refine⟨nm,k,rfl,by lia,by lia,?_⟩
 obtain⟨z,hz⟩:∃z,YS nm k=z:=⟨_,rfl⟩;rw[hz]at q ⊢;delta PP;simp!;refine⟨nm,9,rfl,by lia,by lia,?_⟩
 refine⟨nm,10,rfl,by lia,by lia,?_⟩
 simp!;intro pn hpn;obtain⟨x,hx⟩:∃x,YS nm 9=x:=⟨_,rfl⟩;obtain⟨y,hy⟩:∃y,YS nm 10=y:=⟨_,rfl⟩;have gx:Zr x:=hx▸Dk (by decide) (by decide)
 have gy:Zr y:=hy▸Dk (by decide) (by decide)
 have xy:x≠y:=λe=>by
  have:=Bl (n:=nm) (k:=9) (k':=10) (by decide) (by decide) (by decide) (by decide) (by rw[hx,hy];exact e)
  lia
 rw[hx,hy];have s1:=SameM.new hpn (.lst [.str x,.str y]);have a1:updM M pn (.lst [.str x,.str y]) pn=some (.lst [.str x,.str y]):=X9;generalize updM M pn _=M1 at*;delta PN
 simp![a1]
 intro pp hpp;have s2:=SameM.new hpp (.lst [.tup [.str x,.int (n%2)],.tup [.str y,.int (n/2%2)]]);have b2:updM M1 pp (.lst [.tup [.str x,.int (n%2)],.tup [.str y,.int (n/2%2)]]) pp=some (.lst ([(x,n%2),(y,n/2%2)].map prV)):=X9;generalize updM M1 pp _=M2 at*;have a2:=s2 _ _ a1;have fpp:=s1.free hpp;delta PM;simp!;obtain⟨m,hm,hm7⟩:∃m:Nat,n/4%7=(m:Int)/\m<7:=⟨(n/4%7).toNat,by lia,by lia⟩
 rw[hm];delta PL;simp!;obtain⟨en,hen,hen2⟩:∃en:Nat,(if n/28%4<ar then(1:Int)else 0)=(en:Int)/\en≤1:=by
  by_cases c:n/28%4<ar
  ·exact⟨1,by rw[if_pos c];rfl,by decide⟩
  ·exact⟨0,by rw[if_neg c];rfl,by decide⟩
 rw[hen];delta PK;simp!;delta PJ;simp!;intro ps hps;have s3:=SameM.new hps (.lst []);have c3:updM M2 ps (.lst []) ps=some (.lst []):=X9;have fps:=(s1.trans s2).free hps;have pps:=neM b2 hps;have old:∀a o,M2 a=some o->a≠ps:=λa o h=>neM h hps;generalize updM M2 ps _=M3 at*;delta PH;simp!;obtain⟨J,hJ⟩:∃J:Nat->Sm->MH->Prop,∀j σ M',J j σ M'↔∃(n':Int) (Ss:List Stp) (v:Option MV),σ=[some (.int n'),some (.int k),some (.int nm),some (.ref f),some (.int ar),some (.str z),some (.ref pn),some (.ref pp),some (.int m),some (.int en),some (.ref ps),v]/\0≤n'/\Ss.length=j/\SameM M2 M'/\M' ps=some (.lst (Ss.map Stp.mv))/\(∀S∈Ss,ZT (F.map (·.name)) [x,y] (m+en) S/\ZU F z S):=⟨_,λ_ _ _=>Ym⟩;refine⟨by lia,by lia,J,(hJ _ _ _).mpr ⟨n/112,[],_,rfl,by lia,rfl,s3,c3,λS hS=>nomatch hS⟩,λ_ _ _ _=>trivial,?_,?_⟩
 ·rintro j u σ M' hu h;obtain⟨n',Ss,v,rfl,p0,hl,s4,c4,hS⟩:=(hJ _ _ _).mp h;obtain⟨hj,rfl⟩:=B8 hu;delta PF
  simp![c4]
  refine⟨⟨_,rfl⟩,n'%100000000,z,pn,f,x,y,F,m+en,rfl,s4 _ _ a2,s4 _ _ (s2 _ _ (s1 _ _ hf)),h6,by lia,by lia,by lia,nd,λS M5 s5 hS1 hS2=>?_⟩
  have c5:=s5 _ _ c4
  simp![c5,Xa]
  refine⟨by lia,?_⟩
  delta PD;simp!;refine(hJ _ _ _).mpr ⟨n'/100000000,Ss++[S],_,rfl,by lia,by simp[hl],λa o h=>by rw[Xb (old a o h)];exact s5 _ _ (s4 _ _ h),by rw[X9,Y1];rfl,λS' hS'=>?_⟩
  rcases YJ.mp hS' with h'|h'
  ·exact hS _ h'
  ·rw[Y3.mp h'];exact⟨hS1,hS2⟩
 ·rintro σ M' h;obtain⟨n',Ss,v,rfl,p0,hl,s4,c4,hS⟩:=(hJ _ _ _).mp h;have hl:Ss.length=m:=hl;have fin:∀(M5:MH) (Ss:List Stp) (v:Option MV),SameM M2 M5->M5 ps=some (.lst (Ss.map Stp.mv))->Ss.length=m+en->(∀S∈Ss,ZT (F.map (·.name)) [x,y] (m+en) S/\ZU F z S)->wSs ([("_law_name",Bk),("_law_step",Dl)]:List (Str×SpM)) G5 {nx:=fun x M'=>Q MV.non M',rt:=Q} [some (.int n'),some (.int k),some (.int nm),some (.ref f),some (.int ar),some (.str z),some (.ref pn),some (.ref pp),some (.int m),some (.int en),some (.ref ps),v] M5:=by
   intro M5 Ss v s5 c5 hl5 hS5;delta G5;simp!;refine q ⟨z,[(x,n%2),(y,n/2%2)],Ss⟩ pp ps M5 ((s1.trans s2).trans s5) fpp fps pps (s5 _ _ b2) c5 rfl (λw hw=>?_) (λS hS=>(hS5 S hS).2);refine⟨by simp,?_,?_,?_,?_,?_⟩
   ·show Ss.length≤12;lia
   ·show [x,y].Nodup;simp[xy]
   ·intro u hu;have hu:u∈ [x,y]:=hu;simp only[Xl,XL,or_false]at hu;rcases hu with rfl|rfl
    ·exact gx
    ·exact gy
   ·intro p hp;have:=Qr hw;have hp:p∈ [(x,n%2),(y,n/2%2)]:=hp;simp only[Xl,XL,or_false]at hp;rcases hp with rfl|rfl
    ·exact⟨by show 0≤n%2;lia,by show n%2<_;lia⟩
    ·exact⟨by show 0≤n/2%2;lia,by show n/2%2<_;lia⟩
   ·intro S hS;show ZT _ [x,y] Ss.length S;rw[hl5];exact(hS5 S hS).1
  delta PC;simp!;refine Y5 (λc=>?_) (λc=>?_)
  ·delta PB
   simp![c4,Xa]
   have e1:en=1:=by lia
   refine⟨⟨_,rfl⟩,by lia,fin _ (Ss++[.jump (.num 1) 0]) _ (λa o h=>by rw[Xb (old a o h)];exact s4 _ _ h) (by rw[X9,Y1];rfl) (by simp;lia) λS' hS'=>?_⟩
   rcases YJ.mp hS' with h'|h'
   ·exact hS _ h'
   ·rw[Y3.mp h'];exact⟨⟨⟨by simp[Tm.depth],by simp[Tm.size],λu hu=>by simp[Tm.reads]at hu⟩,by lia,by lia⟩,trivial⟩
  ·exact fin M' Ss _ s4 c4 (by lia) hS
structure IslsNew (M0 M:MH) (Is:List Isl) (ys:List MV):Prop where
 len:ys.length=Is.length
 at_:∀(i:Nat) (I:Isl) (y:MV),Is[i]?=some I->ys[i]?=some y->∃a b,y=.tup [.str I.name,.ref a,.ref b]/\M0 a=none/\M0 b=none/\M a=some (.lst (I.prs.map prV))/\M b=some (.lst (I.stps.map Stp.mv))
theorem IslsNew.inn{M0 M:MH}{Is:List Isl}{ys:List MV}(h:IslsNew M0 M Is ys):IslsIn M Is ys:=⟨h.len,λi I y a b=>by
 obtain⟨c,d,e,_,_,h1,h2⟩:=h.at_ i I y a b;exact⟨c,d,e,h1,h2⟩⟩
theorem IslsNew.keep{M0 M M':MH}{Is:List Isl}{ys:List MV}(h:IslsNew M0 M Is ys)(s:∀a o,M a=some o->M0 a=none->M' a=some o):IslsNew M0 M' Is ys:=⟨h.len,λi I y a b=>by
 obtain⟨c,d,e,n1,n2,h1,h2⟩:=h.at_ i I y a b;exact⟨c,d,e,n1,n2,s _ _ h1 n1,s _ _ h2 n2⟩⟩
set_option tactic.hygienic true in
theorem RB{α:Type}{v y:α}{xs:List α}{i:Nat}(h:(xs++[v])[i]?=some y):xs[i]?=some y\/(i=xs.length/\y=v):=by
 rw[List.getElem?_append]at h;split at h
 ·exact .inl h
 ·rename_i e
  obtain⟨d,hd⟩:∃d,i - xs.length=d:=⟨_,rfl⟩;rw[hd]at h;cases d with
  |zero=>simp at h;exact .inr ⟨by lia,h.symm⟩
  |succ d=>simp at h
theorem IslsNew.add{M0 M:MH}{Is:List Isl}{ys:List MV}(h:IslsNew M0 M Is ys){I:Isl}{a b:Addr}(n1:M0 a=none)(n2:M0 b=none)(h1:M a=some (.lst (I.prs.map prV)))(h2:M b=some (.lst (I.stps.map Stp.mv))):IslsNew M0 M (Is++[I]) (ys++[.tup [.str I.name,.ref a,.ref b]]):=by
 refine⟨by simp[h.len],λi J y hJ hy=>?_⟩
 have l:=h.len;rcases RB hJ with hJ'|⟨e1,rfl⟩<;>rcases RB hy with hy'|⟨e2,rfl⟩
 ·exact h.at_ i J y hJ' hy'
 ·have:=(XO.mp hJ').1;lia
 ·have:=(XO.mp hy').1;lia
 ·exact⟨a,b,rfl,n1,n2,h1,h2⟩
def fnm(nm:Int)(i:Nat):Str:=YS nm (5+(i:Int))
def inm(nm:Int)(i:Nat):Str:=YS nm (i:Int)
theorem RC{f:Nat->Str}{n:Nat}(h:∀a b,a<n->b<n->f a=f b->a=b):((Xr n).map f).Nodup:=by
 unfold List.Nodup;rw[List.pairwise_map];exact List.Pairwise.imp_of_mem (λha hb ne e=>ne (h _ _ (Zb.mp ha) (Zb.mp hb) e)) List.nodup_range
abbrev Bm:SpM:=λvs M Q=>∃(ns:List Int) (ar:Int),vs=[.frl (ns.map .int),.int ar]/\
 ∀(W:Wld) (pi pf:Addr) (ys:List MV) M',SameM M M'->W.Good->1≤W.isl.length->M pi=none->M pf=none->pi≠pf->M' pi=some (.lst ys)->IslsIn M' W.isl ys->M' pf=some (.lst (W.fer.map Fer.mv))->Q (.tup [.int W.w,.ref pi,.ref pf]) M'
theorem RD:MonW Bm:=by walk_at "m"
theorem _c6(T:Txt K mg t):FnOk P w K mg base CX0 4 t.gQ t.i9 ["script","around"] (liSp K Bm):=by
 refine T.bE.F.okM _c0 (fC (G:=Qa) (Φ:=[("_law_cell_at",GN),("_law_island",GS),("_law_name",Bk)]) T rfl (fMc ⟨_7P,(fMc ⟨_8j,(fMc ⟨Ru,nl0⟩)⟩)⟩) (fMc ⟨fE T.bq (_b4 T),(fMc ⟨fE T.bQ (_c7 T),(fMc ⟨fE T.aX (Rv T),nl0⟩)⟩)⟩)) G7 _co (fun vs M Q h=>?_) (fun vs M Q h=>?_)
 ·obtain⟨ns,ar,rfl,_⟩:=h;rfl
 obtain⟨ns,ar,rfl,q⟩:=h;show wSs _ _ _ [some (.frl (ns.map .int)),some (.int ar),none,none,none,none,none,none,none,none,none,none,none] M;delta G7 Q9;simp!;refine⟨ns,0,rfl,?_⟩;simp!;delta Q8;simp!;refine⟨ns,1,rfl,?_⟩;simp!;obtain⟨hd,hhd,hd0⟩:∃hd:Int,ns.getD 0 0%1000000000=hd/\0≤hd:=⟨_,rfl,by lia⟩
 obtain⟨nm,hnm⟩:∃nm:Int,ns.getD 1 0%1000000000=nm:=⟨_,rfl⟩;rw[hhd,hnm];delta Q7;simp!;intro p0 hp0;obtain⟨w,hw,w1,w2⟩:∃w:Nat,atI [MV.int (1+hd/16%64),MV.int (1+hd/16%5)] (hd/1024%2)=some (.int w)/\1≤w/\w≤64:=by
  rcases(show hd/1024%2=0\/hd/1024%2=1 by lia)with e|e<;>rw[e]
  ·refine⟨(1+hd/16%64).toNat,?_,by lia,by lia⟩
   rw[UF (by lia)];exact at0
  ·refine⟨(1+hd/16%5).toNat,?_,by lia,by lia⟩
   rw[UF (by lia)];exact at1
 refine⟨_,hw,?_⟩;have s0:=SameM.new hp0 (.lst [MV.int (1+hd/16%64),MV.int (1+hd/16%5)]);generalize updM M p0 _=M0 at*;obtain⟨my,hmy,my1,my5⟩:∃my:Nat,1+hd%5=(my:Int)/\1≤my/\my≤5:=⟨(1+hd%5).toNat,by lia,by lia,by lia⟩
 delta Q6;simp!;rw[hmy];delta Q5;simp!;intro pf hpf;have s1:=SameM.new hpf (.lst []);have f1:updM M0 pf (.lst []) pf=some (.lst []):=X9;have fpf:=s0.free hpf;have old:∀a o,M0 a=some o->a≠pf:=λa o h=>neM h hpf;generalize updM M0 pf _=M1 at*;delta Q4;simp!;obtain⟨cn,hcn,cn6,cn1⟩:∃cn:Nat,(if hd/2048%7<6*(my:Int) - 6 then hd/2048%7 else 6*(my:Int) - 6)=(cn:Int)/\cn≤6/\(1≤cn->2≤my):=by
  by_cases c:hd/2048%7<6*(my:Int) - 6
  ·exact⟨(hd/2048%7).toNat,by rw[if_pos c];lia,by lia,by lia⟩
  ·exact⟨(6*(my:Int) - 6).toNat,by rw[if_neg c];lia,by lia,by lia⟩
 rw[hcn,YL];obtain⟨J,hJ⟩:∃J:Nat->Sm->MH->Prop,∀j σ M',J j σ M'↔∃(Fs:List Fer) (v7 v8 v9 v10 v11:Option MV),σ=[some (.frl (ns.map .int)),some (.int ar),some (.int hd),some (.int nm),some (.int w),some (.int my),some (.ref pf),v7,v8,v9,v10,v11,none]/\Fs.map (·.name)=(Xr j).map (fnm nm)/\SameM M0 M'/\M' pf=some (.lst (Fs.map Fer.mv))/\(∀F∈Fs,FerOk ((Xr my).map (inm nm)) F):=⟨_,λ_ _ _=>Ym⟩;refine⟨by lia,by lia,J,(hJ _ _ _).mpr ⟨[],_,_,_,_,_,rfl,rfl,s1,f1,λF hF=>nomatch hF⟩,λ_ _ _ _=>trivial,?_,?_⟩
 ·rintro j u σ M' hu h;obtain⟨Fs,v7,v8,v9,v10,v11,rfl,hN,s2,f2,hF⟩:=(hJ _ _ _).mp h;obtain⟨hj,rfl⟩:=B8 hu;have my2:=cn1 (by lia)
  have hl:Fs.length=j:=by have:=congrArg Wv hN;simpa using this
  rw[WC];delta Q3;obtain⟨c,hc⟩:∃c:Nat,2+(j:Int)%4=(c:Int):=⟨(2+(j:Int)%4).toNat,by lia⟩
  simp![hc]
  refine⟨ns,c,rfl,?_⟩;simp!;intro p1 hp1;obtain⟨dv,hdv,dv0⟩:∃dv:Int,atI [MV.int 1,MV.int 1000000] ((j:Int)/4)=some (.int dv)/\(dv=1\/dv=1000000):=by
   rcases(show(j:Int)/4=0\/(j:Int)/4=1 by lia)with e|e<;>rw[e]
   ·exact⟨1,at0,.inl rfl⟩
   ·exact⟨1000000,at1,.inr rfl⟩
  refine⟨_,hdv,?_⟩;have s3:=s2.trans (SameM.new hp1 (.lst [MV.int 1,MV.int 1000000]));have f3:=SameM.new hp1 (.lst [MV.int 1,MV.int 1000000]) _ _ f2;generalize updM M' p1 _=M3 at*;simp!;obtain⟨nb,hnb,nb0⟩:∃nb:Int,ns.getD c 0%1000000000000000/dv=nb/\0≤nb:=by
   refine⟨_,rfl,?_⟩;rcases dv0 with rfl|rfl<;>lia
  rw[hnb];refine⟨by rcases dv0 with rfl|rfl<;>decide,?_⟩
  delta Q2;simp!;have gp:(0:Int)<(my:Int):=by lia
  refine⟨gp,?_⟩;obtain⟨g,hg,hg2⟩:∃g:Nat,nb%(my:Int)=(g:Int)/\g<my:=by
   have h0:=ZC nb (b:=(my:Int)) (by lia)
   have h1:=U6 nb gp;exact⟨(nb%(my:Int)).toNat,by lia,by lia⟩
  rw[hg];delta Q1;simp!;have gp1:(0:Int)<(my:Int) - 1:=by lia
  refine⟨gp1,gp,?_⟩;obtain⟨tk,ht,ht2,ht3⟩:∃tk:Nat,((g:Int)+1+nb/5%((my:Int) - 1))%(my:Int)=(tk:Int)/\tk<my/\tk≠g:=by
   have r0:=ZC (nb/5) (b:=(my:Int) - 1) (by lia)
   have r1:=U6 (nb/5) gp1;obtain⟨r,hr⟩:∃r,nb/5%((my:Int) - 1)=r:=⟨_,rfl⟩;rw[hr]at r0 r1 ⊢;have h0:=ZC ((g:Int)+1+r) (b:=(my:Int)) (by lia)
   have h1:=U6 ((g:Int)+1+r) gp;refine⟨(((g:Int)+1+r)%(my:Int)).toNat,by lia,by lia,λe=>?_⟩
   have e2:((g:Int)+1+r)%(my:Int)=(g:Int):=by lia
   rcases(show my=2\/my=3\/my=4\/my=5 by lia)with rfl|rfl|rfl|rfl<;>lia
  rw[ht];delta Q0;simp!;refine⟨nm,g,rfl,by lia,by lia,?_⟩
  refine⟨nm,tk,rfl,by lia,by lia,?_⟩
  try simp!
  delta PZ
  simp![f3]
  refine⟨⟨_,rfl⟩,nm,5+(j:Int),rfl,by lia,by lia,?_⟩
  obtain⟨kk,hkk,kk3⟩:∃kk:Nat,nb/20%4=(kk:Int)/\kk≤3:=⟨(nb/20%4).toNat,by lia,by lia⟩
  obtain⟨st,hst,st1,st3⟩:∃st:Nat,1+nb/80%3=(st:Int)/\1≤st/\st≤3:=⟨(1+nb/80%3).toNat,by lia,by lia,by lia⟩
  simp![f3,hkk,hst,Xa]
  refine⟨by lia,(hJ _ _ _).mpr ⟨Fs++[⟨fnm nm j,inm nm g,inm nm tk,kk,st⟩],_,_,_,_,_,rfl,?_,λa o h=>by rw[Xb (old a o h)];exact s3 _ _ h,by rw[X9,Y1];rfl,λF hF'=>?_⟩⟩
  ·rw[Y1,hN,List.range_succ,Y1];rfl
  ·rcases YJ.mp hF' with h'|h'
   ·exact hF _ h'
   ·rw[Y3.mp h'];refine⟨XS.mpr ⟨g,Zb.mpr hg2,rfl⟩,XS.mpr ⟨tk,Zb.mpr ht2,rfl⟩,λe=>?_,kk3,st1,st3⟩;have:=Bl (n:=nm) (k:=(g:Int)) (k':=(tk:Int)) (by lia) (by lia) (by lia) (by lia) e
    lia
 ·rintro σ M2 h;obtain⟨Fs,v7,v8,v9,v10,v11,rfl,hN,s2,f2,hF⟩:=(hJ _ _ _).mp h;have hN:Fs.map (·.name)=(Xr cn).map (fnm nm):=hN;have hl:Fs.length=cn:=by have:=congrArg Wv hN;simpa using this
  have ndF:(Fs.map (·.name)).Nodup:=by
   rw[hN];refine RC λa b ha hb e=>?_;have:=Bl (n:=nm) (k:=5+(a:Int)) (k':=5+(b:Int)) (by lia) (by lia) (by lia) (by lia) e
   lia
  clear hJ h;delta PY;simp!;intro pi hpi;have s3:=SameM.new hpi (.lst []);have i3:updM M2 pi (.lst []) pi=some (.lst []):=X9;have fpi:=(s0.trans s2).free hpi;have ipf:=(neM f2 hpi).symm;have old2:∀a o,M2 a=some o->a≠pi:=λa o h=>neM h hpi;have only:∀a o,updM M2 pi (.lst []) a=some o->a≠pi->M2 a=some o:=λa o h n=>by rw[Xb n]at h;exact h
  generalize updM M2 pi _=M3 at*;delta PX;simp!;obtain⟨J,hJ⟩:∃J:Nat->Sm->MH->Prop,∀j σ M',J j σ M'↔∃(Is:List Isl) (ys:List MV) (v7:Option MV),σ=[some (.frl (ns.map .int)),some (.int ar),some (.int hd),some (.int nm),some (.int w),some (.int my),some (.ref pf),v7,v8,v9,v10,v11,some (.ref pi)]/\Is.map (·.name)=(Xr j).map (inm nm)/\SameM M2 M'/\M' pi=some (.lst ys)/\IslsNew M3 M' Is ys/\(∀I∈Is,IslOk w (Fs.map (·.name)) I/\∀s∈I.stps,ZU Fs I.name s):=⟨_,λ_ _ _=>Ym⟩;refine⟨by lia,by lia,J,(hJ _ _ _).mpr ⟨[],[],_,rfl,rfl,s3,i3,⟨rfl,λi I y hI=>by simp at hI⟩,λI hI=>nomatch hI⟩,λ_ _ _ _=>trivial,?_,?_⟩
  ·rintro j u σ M4 hu h;obtain⟨Is,ys,v7,rfl,hNI,s4,i4,hI,hO⟩:=(hJ _ _ _).mp h;obtain⟨hj,rfl⟩:=B8 hu;have hlI:Is.length=j:=by have:=congrArg Wv hNI;simpa using this
   have hly:=hI.len;rw[WC];delta PV;obtain⟨c,hc⟩:∃c:Nat,6+(j:Int)=(c:Int):=⟨6+j,by lia⟩
   simp![i4,hc]
   refine⟨⟨_,rfl⟩,ns,c,rfl,?_⟩;simp!;refine⟨ns.getD c 0%1000000000000000000000000000000000000000000000000000000000000,nm,ar,j,pf,Fs,rfl,s4 _ _ f2,by lia,ndF,by lia,by lia,by lia,λI a b M5 s5 na nb nab ha hb hn hok hen=>?_⟩
   have i5:=s5 _ _ i4
   simp![i5]
   have bk:∀x,M4 x=none->M3 x=none:=λx hx=>by
    cases e:M3 x with
    |none=>rfl
    |some v=>
     by_cases hx2:x=pi
     ·subst hx2;rw[i4]at hx;cases hx
     ·rw[s4 _ _ (only _ _ e hx2)]at hx;cases hx
   refine⟨by lia,(hJ _ _ _).mpr ⟨Is++[I],ys++[.tup [.str I.name,.ref a,.ref b]],_,rfl,?_,λa o h=>by rw[Xb (old2 a o h)];exact s5 _ _ (s4 _ _ h),X9,?_,?_⟩⟩
   ·rw[Y1,hNI,List.range_succ,Y1];show _++[I.name]=_;rw[hn];rfl
   ·have h3:∀x o,M5 x=some o->M3 x=none->updM M5 pi (.lst (ys++[.tup [.str I.name,.ref a,.ref b]])) x=some o:=λx o h n=>by
     rw[Xb (λe=>by subst e;rw[i3]at n;cases n)];exact h
    have hI5:=hI.keep (M':=updM M5 pi (.lst (ys++[.tup [.str I.name,.ref a,.ref b]]))) λx o h n=>h3 x o (s5 _ _ h) n;exact hI5.add (bk _ na) (bk _ nb) (h3 _ _ ha (bk _ na)) (h3 _ _ hb (bk _ nb))
   ·intro I' hI';rcases YJ.mp hI' with h'|h'
    ·exact hO _ h'
    ·rw[Y3.mp h'];exact⟨hok w w1,hen⟩
  ·rintro σ M4 h;obtain⟨Is,ys,v7,rfl,hNI,s4,i4,hI,hO⟩:=(hJ _ _ _).mp h;have hNI:Is.map (·.name)=(Xr my).map (inm nm):=hNI;have hlI:Is.length=my:=by have:=congrArg Wv hNI;simpa using this
   delta PU;simp!;refine q ⟨w,Is,Fs⟩ pi pf ys M4 ((s0.trans s2).trans s4) ?_ (by show 1≤Is.length;lia) fpi fpf ipf i4 hI.inn (s4 _ _ f2)
   refine⟨w1,w2,by show Is.length≤5;lia,by show Fs.length≤6;lia,?_,?_,?_,λI hi=>(hO I hi).1,?_,λI hi=>(hO I hi).2⟩
   ·intro z hz;have hz:z∈Fs.map (·.name):=hz;rw[hN]at hz;obtain⟨i,hi,rfl⟩:=XS.mp hz;have:=Zb.mp hi;exact Dk (by lia) (by lia)
   ·intro z hz;have hz:z∈Is.map (·.name):=hz;rw[hNI]at hz;obtain⟨i,hi,rfl⟩:=XS.mp hz;have:=Zb.mp hi;exact Dk (by lia) (by lia)
   ·show(Fs.map (·.name)++Is.map (·.name)).Nodup;rw[Zi];refine⟨ndF,?_,?_⟩
    ·rw[hNI];refine RC λa b ha hb e=>?_;have:=Bl (n:=nm) (k:=(a:Int)) (k':=(b:Int)) (by lia) (by lia) (by lia) (by lia) e
     lia
    ·rw[hN,hNI];intro a ha b hb e;obtain⟨i,hi,rfl⟩:=XS.mp ha;obtain⟨j,hj,rfl⟩:=XS.mp hb;have hi:=Zb.mp hi;have hj:=Zb.mp hj;have:=Bl (n:=nm) (k:=5+(i:Int)) (k':=(j:Int)) (by lia) (by lia) (by lia) (by lia) e
     lia
   ·intro F hF';show FerOk (Is.map (·.name)) F;rw[hNI];exact hF F hF'
def zipK:List Str->List MV->List (Key×MV)
 |k::ks,v::vs=>(Xs k,v)::zipK ks vs
 |_,_=>[]
theorem GT:∀{ks:List Str} {vs:List MV},vs.length=ks.length->(zipK ks vs).length=ks.length
 |[],[],_=>rfl
 |[],_::_,h=>by cases h
 |_::_,[],h=>by cases h
 |k::ks,v::vs,h=>by
  show(zipK ks vs).length+1=_;rw[GT (by simpa using h)];rfl
theorem RE:∀{ks:List Str} {vs:List MV},vs.length=ks.length->(zipK ks vs).map (·.1)=ks.map Xs
 |[],[],_=>rfl
 |[],_::_,h=>by cases h
 |_::_,[],h=>by cases h
 |k::ks,v::vs,h=>by
  show Xs k::(zipK ks vs).map (·.1)=_;rw[RE (by simpa using h)];rfl
theorem UP:∀{ks:List Str} {vs:List MV} {i:Nat} {k:Str} {v:MV},ks.Nodup->ks[i]?=some k->vs[i]?=some v->valM (zipK ks vs) (Xs k)=some v
 |[],_,_,_,_,_,h,_=>by simp at h
 |_::_,[],_,_,_,_,_,h=>by simp at h
 |a::ks,b::vs,0,k,v,_,h1,h2=>by
  simp at h1 h2;subst h1 h2;simp[zipK,valM]
 |a::ks,b::vs,i+1,k,v,nd,h1,h2=>by
  rw[YB]at nd;simp at h1 h2;have:a≠k:=λe=>nd.1 (e▸Xz h1);simp only[zipK,valM];rw[if_neg (λe=>this (VU e))];exact UP nd.2 h1 h2
theorem Bn:∀{ks:List Str} {vs:List MV} {i:Nat} {k:Str} {v:MV},vs.length=ks.length->ks.Nodup->ks[i]?=some k->putM (zipK ks vs) (Xs k) v=zipK ks (vs.set i v)
 |[],_,_,_,_,_,_,h=>by simp at h
 |_::_,[],_,_,_,h,_,_=>by cases h
 |a::ks,b::vs,0,k,v,_,_,h1=>by
  simp at h1;subst h1;simp[zipK,putM]
 |a::ks,b::vs,i+1,k,v,hl,nd,h1=>by
  rw[YB]at nd;simp at h1;have:a≠k:=λe=>nd.1 (e▸Xz h1);simp only[zipK,putM,List.set_cons_succ];rw[if_neg (λe=>this (VU e)),Bn (by simpa using hl) nd.2 h1]
theorem _km{kvs:List (Key×MV)}{k:Key}{v:MV}:(∀p∈kvs,p.1≠k)->putM kvs k v=kvs++[(k,v)]:=by
 induction kvs with
 |nil=>intro _;rfl
 |cons p r ih=>
  intro h;unfold putM;rw[if_neg (h p (Ye ..)),ih λq hq=>h q (XR _ hq)];rfl
theorem _io{ps:List (Key×MV)}(nd:(ps.map (·.1)).Nodup):YM ps=ps:=by
 have gen:∀(ps c:List (Key×MV)),((c++ps).map (·.1)).Nodup->ps.foldl (λc z=>putM c z.1 z.2) c=c++ps:=by
  intro ps
  induction ps with
  |nil=>intro c _;simp
  |cons p r ih=>
   intro c nd;rw[VD,_km,ih]
   ·simp
   ·simpa using nd
   ·intro q hq e;rw[Y1,Zi]at nd;exact nd.2.2 _ (XS.mpr ⟨q,hq,rfl⟩) _ (XS.mpr ⟨p,Ye ..,rfl⟩) e
 have:=gen ps [] (by simpa using nd)
 rw[Y8]at this;exact this
theorem GU{ks:List Str}{vs:List MV}(hl:vs.length=ks.length)(nd:ks.Nodup):YM (zipK ks vs)=zipK ks vs:=by
 refine _io ?_;rw[RE hl];unfold List.Nodup;rw[List.pairwise_map];exact List.Pairwise.imp (λh e=>h (VU e)) nd
theorem RF{α:Type}(xs:List α)(f:α->Str)(g:α->MV):(xs.map λx=>MV.tup [.str (f x),g x])=(zipK (xs.map f) (xs.map g)).map prM:=by
 induction xs with
 |nil=>rfl
 |cons x r ih=>
  rw[Xy,ih];rfl
def SrcFrom(S:Src)(M M1:MH):Prop:=(S.okF M1/\M1=M)\/∃a o kvs,S=.dic a o kvs/\M a=some (.dic kvs)/\M1=updM M a (.fdic o kvs)
theorem SrcFrom.free{S:Src}{M M1:MH}(h:SrcFrom S M M1){p:Addr}(hp:M1 p=none):M p=none:=by
 rcases h with⟨_,rfl⟩|⟨a,o,kvs,_,h1,rfl⟩
 ·exact hp
 ·by_cases e:p=a
  ·subst e;rw[X9]at hp;cases hp
  ·rwa [Xb e]at hp
theorem SrcFrom.ok{S:Src}{M M1 M2:MH}(h:SrcFrom S M M1)(s:SameM M1 M2):S.ok M2:=by
 rcases h with⟨h1,rfl⟩|⟨a,o,kvs,rfl,h1,rfl⟩
 ·cases S with
  |tup _=>trivial
  |rng _ _=>trivial
  |rst _ _ _=>trivial
  |dic _ _ _=>exact h1.elim
  |str _=>trivial
  |lst a zs=>exact s _ _ h1
 ·exact s _ _ X9
theorem SrcFrom.thaw{S:Src}{M M1 M2:MH}(h:SrcFrom S M M1)(s:SameM M1 M2):SameM M (S.thaw M2)/\∀a,M1 a=none->(S.thaw M2) a=M2 a:=by
 rcases h with⟨h1,rfl⟩|⟨a,o,kvs,rfl,h1,rfl⟩
 ·rw[A6 h1];exact⟨s,λ_ _=>rfl⟩
 ·refine⟨λb u e=>?_,λb hb=>?_⟩
  ·show updM M2 a (.dic kvs) b=_;by_cases z:b=a
   ·subst z;rw[X9];rw[h1]at e;exact e
   ·rw[Xb z];exact s _ _ (by rw[Xb z];exact e)
  ·show updM M2 a (.dic kvs) b=_;refine Xb λz=>?_;subst z;rw[X9]at hb;cases hb
theorem RG{Φ:List (Str×SpM)}{own:List Str}{fr:List Nat}{src:ISr}{tg:ITg}{elt:IE}{σ:Sm}{M:MH}{Q:QM}{α:Type}(xs:List α)(f:α->MV)(C:α->MV->List Addr->MH->Prop)(Pm:MH->Prop)
  (hC:∀x y N M2 M3,(∀a∈N,M3 a=M2 a)->C x y N M2->C x y N M3)
  (hs:wSr Φ src σ M λS M1=>S.items=xs.map f/\xs.length<sizeLine/\SrcFrom S M M1/\Pm M1)
  (ht:∀x∈xs,∀M1 M',Pm M1->SameM M1 M'->wTg tg (f x) (sCm own fr σ) λσ2=>wE Φ elt σ2 M' λy M2=>SameM M' M2/\∃N:List Addr,N.Nodup/\(∀a∈N,M' a=none/\∃o,M2 a=some o)/\C x y N M2)
  (hΦ:∀(j:Nat) f sp,Φ[j]?=some (f,sp)->MonW sp)
  (q:∀D (ys:List MV) (Ns:List (List Addr)) M',M D=none->SameM M M'->ys.length=xs.length->Ns.length=xs.length->Ns.flatten.Nodup->D∉Ns.flatten->(∀a∈Ns.flatten,M a=none)->
   (∀(j:Nat) x y N,xs[j]?=some x->ys[j]?=some y->Ns[j]?=some N->C x y N M')->M' D=some (.lst ys)->Q (.ref D) M'):wE Φ (.comp own fr src tg .none elt) σ M Q:=by
 rw[A5];refine mon_sr hΦ src (λS M1 ⟨h1,h2,h3,h4⟩=>?_) hs;have hl:S.len=xs.length:=by rw[<- S.items_len,h1,Xa]
 refine⟨by rw[hl];exact h2,λD hD=>⟨λi ys M2=>SameM M1 M2/\M2 D=some (.lst ys)/\ys.length=i/\∃Ns:List (List Addr),Ns.length=i/\Ns.flatten.Nodup/\D∉Ns.flatten/\(∀a∈Ns.flatten,M1 a=none/\∃o,M2 a=some o)/\(∀(j:Nat) x y N,xs[j]?=some x->ys[j]?=some y->Ns[j]?=some N->C x y N M2),⟨SameM.new hD _,X9,rfl,[],rfl,by simp,by simp,by simp,by simp⟩,?_,?_,?_⟩⟩
 ·rintro i ys M2 ⟨s2,d2,e,_⟩;exact⟨d2,by lia,h3.ok s2⟩
 ·rintro i x ys M2 hx ⟨s2,d2,e,Ns,n1,n2,n3,n4,n5⟩;rw[h1]at hx;obtain⟨hi,rfl⟩:=YQ hx;refine UJ tg (λσ2 h=>?_) (ht xs[i] (XV hi) M1 M2 h4 s2);rw[wI,if_pos rfl];refine X7 hΦ elt (λy M3 ⟨s3,N,m1,m2,m3⟩=>?_) h;have dN:D∉N:=λz=>by have:=(m2 _ z).1;rw[d2]at this;cases this
  have keep:∀a,a≠D->updM M3 D (.lst (ys++[y])) a=M3 a:=λa z=>Xb z;have fl:(Ns++[N]).flatten=Ns.flatten++N:=by simp
  refine⟨s3 _ _ d2,λa o z=>by rw[Xb (neM z hD)];exact s3 _ _ (s2 _ _ z),X9,by simp[e],Ns++[N],by simp[n1],?_,?_,?_,?_⟩
  ·rw[fl,Zi];refine⟨n2,m1,λa ha b hb z=>?_⟩;subst z;obtain⟨_,o,ho⟩:=n4 _ ha;rw[(m2 _ hb).1]at ho;cases ho
  ·rw[fl,YJ];exact λz=>z.elim n3 dN
  ·rw[fl];intro a ha;have aD:a≠D:=λz=>by
    subst z;rcases YJ.mp ha with ha|ha
    ·exact n3 ha
    ·exact dN ha
   rw[keep a aD];rcases YJ.mp ha with ha|ha
   ·obtain⟨z1,o,z2⟩:=n4 _ ha;exact⟨z1,o,s3 _ _ z2⟩
   ·exact⟨s2.free (m2 _ ha).1,(m2 _ ha).2⟩
  ·intro j x' y' N' hxj hy hN;by_cases hj:j<i
   ·rw[U1 (by lia)]at hy hN
    refine hC _ _ _ M2 _ (λa ha=>?_) (n5 j x' y' N' hxj hy hN);have hm:a∈Ns.flatten:=VA.mpr ⟨N',Xz hN,ha⟩;rw[keep a λz=>n3 (z▸hm)];obtain⟨_,o,z2⟩:=n4 _ hm;rw[z2];exact s3 _ _ z2
   ·have hj:j=i:=by
     have:=(XO.mp hy).1;simp at this;lia
    subst hj;rw[Zy (by lia),e,Nat.sub_self]at hy
    rw[Zy (by lia),n1,Nat.sub_self]at hN
    rw[Xc hi]at hxj;simp at hxj hy hN;subst hxj hy hN;exact hC _ _ _ M3 _ (λa ha=>keep a λz=>dN (z▸ha)) m3
 ·rintro ys M2 ⟨s2,d2,e,Ns,n1,n2,n3,n4,n5⟩;obtain⟨t1,t2⟩:=h3.thaw s2;refine q D ys Ns _ (h3.free hD) t1 (by lia) (by lia) n2 n3 (λa ha=>h3.free (n4 a ha).1) (λj x y N a b c=>?_) (by rw[t2 _ hD];exact d2)
  exact hC _ _ _ M2 _ (λz hz=>t2 _ (n4 z (VA.mpr ⟨N,Xz c,hz⟩)).1) (n5 j x y N a b c)
theorem GV{Φ:List (Str×SpM)}{own:List Str}{fr:List Nat}{src:ISr}{tg:ITg}{elt:IE}{σ:Sm}{M:MH}{Q:QM}{α:Type}(xs:List α)(f:α->MV)(nm:α->Str)(ob:α->MO)(Pm:MH->Prop)
  (hs:wSr Φ src σ M λS M1=>S.items=xs.map f/\xs.length<sizeLine/\SrcFrom S M M1/\Pm M1)
  (ht:∀x∈xs,∀M1 M',Pm M1->SameM M1 M'->wTg tg (f x) (sCm own fr σ) λσ2=>wE Φ elt σ2 M' λy M2=>∃p,M' p=none/\y=.tup [.str (nm x),.ref p]/\M2=updM M' p (ob x))
  (hΦ:∀(j:Nat) f sp,Φ[j]?=some (f,sp)->MonW sp)
  (q:∀D (as:List Addr) M',M D=none->SameM M M'->as.length=xs.length->as.Nodup->D∉as->(∀a∈as,M a=none)->
   (∀(j:Nat) a x,as[j]?=some a->xs[j]?=some x->M' a=some (ob x))->M' D=some (.lst ((zipK (xs.map nm) (as.map MV.ref)).map prM))->Q (.ref D) M'):wE Φ (.comp own fr src tg .none elt) σ M Q:=by
 refine RG xs f (λx y N M2=>∃p,N=[p]/\y=.tup [.str (nm x),.ref p]/\M2 p=some (ob x)) Pm ?_ hs ?_ hΦ ?_
 ·rintro x y N M2 M3 hk ⟨p,rfl,e1,e2⟩;exact⟨p,rfl,e1,by rw[hk p (by simp)];exact e2⟩
 ·intro x hx M1 M' h1 h2;refine UJ tg (λσ2 h=>?_) (ht x hx M1 M' h1 h2);refine X7 hΦ elt (λy M3 ⟨p,m1,m2,m3⟩=>?_) h;subst m3;exact⟨SameM.new m1 _,[p],by simp,by simp[m1,X9],p,rfl,m2,X9⟩
 ·intro D ys Ns M' h1 h2 h3 h4 h5 h6 h7 h8 h9;have key:∀(xs:List α) (ys:List MV) (Ns:List (List Addr)),ys.length=xs.length->Ns.length=xs.length->(∀(j:Nat) x y N,xs[j]?=some x->ys[j]?=some y->Ns[j]?=some N->∃p,N=[p]/\y=.tup [.str (nm x),.ref p]/\M' p=some (ob x))->
    Ns.flatten.length=xs.length/\ys=(zipK (xs.map nm) (Ns.flatten.map MV.ref)).map prM/\∀(j:Nat) a x,Ns.flatten[j]?=some a->xs[j]?=some x->M' a=some (ob x):=by
   intro xs
   induction xs with
   |nil=>
    intro ys Ns h1 h2 _;cases ys with
    |nil=>
     cases Ns with
     |nil=>exact⟨rfl,rfl,λj a x h=>by simp at h⟩
     |cons _ _=>cases h2
    |cons _ _=>cases h1
   |cons x xs ih=>
    intro ys Ns h1 h2 h3;cases ys with
    |nil=>cases h1
    |cons y ys=>
     cases Ns with
     |nil=>cases h2
     |cons N Ns=>
      obtain⟨p,rfl,rfl,ep⟩:=h3 0 x y N rfl rfl rfl;obtain⟨i1,i2,i3⟩:=ih ys Ns (by simpa using h1) (by simpa using h2) λj x y N a b c=>h3 (j+1) x y N (by simpa using a) (by simpa using b) (by simpa using c)
      refine⟨by simp at i1 ⊢;lia,?_,?_⟩
      ·show _=prM (Xs (nm x),MV.ref p)::((zipK (xs.map nm) (Ns.flatten.map MV.ref)).map prM);rw[<- i2];rfl
      ·intro j a x' ha hx;cases j with
       |zero=>simp at ha hx;subst ha hx;exact ep
       |succ j=>exact i3 j a x' (by simpa using ha) (by simpa using hx)
  obtain⟨k1,k2,k3⟩:=key xs ys Ns h3 h4 h8;exact q D Ns.flatten M' h1 h2 k1 h5 h6 h7 k3 (by rw[<- k2];exact h9)
def WdOk(w:Nat)(I:Isl)(kvs:List (Key×MV)):Prop:=∃vs:List Int,vs.length=I.vars.length/\kvs=zipK I.vars (vs.map MV.int)/\∀v∈vs,0≤v/\v<2^w
def rhoK(kvs:List (Key×MV))(x:Str):Int:=match valM kvs (Xs x)with
 |some (.int i)=>i
 |_=>0
theorem WdOk.at{k:Nat}{I:Isl}{kvs:List (Key×MV)}(h:WdOk k I kvs)(nd:I.vars.Nodup){x:Str}(hx:x∈I.vars):valM kvs (Xs x)=some (.int (rhoK kvs x))/\0≤rhoK kvs x/\rhoK kvs x<2^k:=by
 obtain⟨vs,hl,rfl,hv⟩:=h;obtain⟨i,hi,rfl⟩:=Y6 hx;have hi2:i<vs.length:=by lia
 have e:valM (zipK I.vars (vs.map MV.int)) (Xs I.vars[i])=some (.int vs[i]):=UP (i:=i) nd (Xc hi) (by rw[Xq,Xc hi2];rfl)
 have e2:rhoK (zipK I.vars (vs.map MV.int)) I.vars[i]=vs[i]:=by unfold rhoK;rw[e]
 rw[e2];exact⟨e,hv _ (XV hi2)⟩
theorem WdOk.reads{k:Nat}{I:Isl}{kvs:List (Key×MV)}(h:WdOk k I kvs)(nd:I.vars.Nodup):readsOk I.vars kvs (rhoK kvs) k:=λ_ hx=>h.at nd hx
theorem WdOk.len{k:Nat}{I:Isl}{kvs:List (Key×MV)}(h:WdOk k I kvs):kvs.length=I.vars.length:=by
 obtain⟨vs,hl,rfl,hv⟩:=h;exact GT (by rw[Xa];exact hl)
theorem WdOk.put{k:Nat}{I:Isl}{kvs:List (Key×MV)}(h:WdOk k I kvs)(nd:I.vars.Nodup){x:Str}(hx:x∈I.vars){v:Int}(hv:0≤v/\v<2^k):WdOk k I (putM kvs (Xs x) (.int v)):=by
 obtain⟨vs,hl,rfl,hr⟩:=h;obtain⟨i,hi,rfl⟩:=Y6 hx;refine⟨vs.set i v,by rw[UC];exact hl,?_,λu hu=>?_⟩
 ·rw[Bn (i:=i) (by rw[Xa];exact hl) nd (Xc hi),Wu]
 ·rcases Hc hu with hu|rfl
  ·exact hr u hu
  ·exact hv
structure Boat where
 b:Addr
 p:Addr
 g:Addr
 u:Addr
 gl:Addr
 tl:Addr
 A:Ab
def Boat.ads(x:Boat):List Addr:=[x.b,x.p,x.g,x.u,x.gl,x.tl]
structure BoatAt (M:MH) (f:Fer) (w:Nat) (m:Int) (x:Boat):Prop where
 fy:FyAt M x.b x.p x.g x.u x.A
 gv:M x.gl=some (.lst (x.A.ws.map natM))
 tk:M x.tl=some (.lst ((x.A.ws.take x.A.tn).map natM))
 n1:x.gl≠x.tl/\x.gl≠x.p/\x.tl≠x.p
 k:x.A.k=f.k
 gm:x.A.gm<m
 tm:x.A.tm<m
 wd:∀z∈x.A.ws,z<2^w
theorem BoatAt.at_{M:MH}{f:Fer}{w:Nat}{m:Int}{x:Boat}(h:BoatAt M f w m x):∀a∈x.ads,∃o,M a=some o/\(∀kvs,o≠.dic kvs)/\∀fs,o≠.ins "Run" fs:=by
 have e1:¬(("Ferry":Str)="Run"):=by rw[Wf];decide
 have e2:¬(("Side":Str)="Run"):=by rw[Wf];decide
 obtain⟨pl,hp,_⟩:=h.fy.pls;intro a ha;simp only[Boat.ads,Xl,XL,or_false]at ha;rcases ha with rfl|rfl|rfl|rfl|rfl|rfl
 ·exact⟨_,h.fy.fe,(λ_ z=>by cases z),(λfs z=>e1 (by injection z))⟩
 ·exact⟨_,hp,(λ_ z=>by cases z),(λfs z=>by cases z)⟩
 ·exact⟨_,h.fy.gi,(λ_ z=>by cases z),(λfs z=>e2 (by injection z))⟩
 ·exact⟨_,h.fy.ta,(λ_ z=>by cases z),(λfs z=>e2 (by injection z))⟩
 ·exact⟨_,h.gv,(λ_ z=>by cases z),(λfs z=>by cases z)⟩
 ·exact⟨_,h.tk,(λ_ z=>by cases z),(λfs z=>by cases z)⟩
theorem BoatAt.dic{M:MH}{f:Fer}{w:Nat}{m:Int}{x:Boat}(h:BoatAt M f w m x){a:Addr}{kvs:List (Key×MV)}(ha:M a=some (.dic kvs)):a∉x.ads:=λz=>by
 obtain⟨o,e,n,_⟩:=h.at_ a z;rw[ha]at e;cases e;exact n _ rfl
theorem BoatAt.run{M:MH}{f:Fer}{w:Nat}{m:Int}{x:Boat}(h:BoatAt M f w m x){a:Addr}{fs:List (Str×MV)}(ha:M a=some (.ins "Run" fs)):a∉x.ads:=fun z=>by
 obtain⟨o,e,_,n⟩:=h.at_ a z;rw[ha]at e;cases e;exact n _ rfl
theorem BoatAt.fr{M M':MH}{f:Fer}{w:Nat}{m m':Int}{x:Boat}(h:BoatAt M f w m x)(l:m≤m')(s:∀a∈x.ads,∀o,M a=some o->M' a=some o):BoatAt M' f w m' x:=by
 have s:∀a,a∈ [x.b,x.p,x.g,x.u,x.gl,x.tl]->∀o,M a=some o->M' a=some o:=s;obtain⟨pl,hp,hpl⟩:=h.fy.pls;exact⟨⟨h.fy.ok,s _ (by simp) _ h.fy.fe,⟨pl,s _ (by simp) _ hp,hpl⟩,s _ (by simp) _ h.fy.gi,s _ (by simp) _ h.fy.ta,h.fy.ne⟩,s _ (by simp) _ h.gv,s _ (by simp) _ h.tk,h.n1,h.k,VO h.gm l,VO h.tm l,h.wd⟩
structure RunS where
 m:Int
 nums:List Nat
 ws:List Addr
 dn:List Nat
 bs:List Boat
 pn:Addr
 pw:Addr
 ps:Addr
 pb:Addr
 pg:Addr
 pt:Addr
noncomputable def runO(W:Wld)(R:RunS):MO:=.ins "Run" [("world",W.mv),("moment",.int R.m),("next_numbers",.ref R.pn),("words_now",.ref R.pw),("steps_so_far",.ref R.ps),("boats",.ref R.pb),("given_so_far",.ref R.pg),("taken_so_far",.ref R.pt)]
structure RunAt (M:MH) (W:Wld) (r:Addr) (R:RunS) (mm:Nat->Int):Prop where
 ob:M r=some (runO W R)
 hn:M R.pn=some (.dic (zipK W.ins (R.nums.map natM)))
 hw:M R.pw=some (.dic (zipK W.ins (R.ws.map MV.ref)))
 hs:M R.ps=some (.dic (zipK W.ins (R.dn.map natM)))
 hb:M R.pb=some (.dic (zipK W.fns (R.bs.map λx=>MV.ref x.b)))
 hg:M R.pg=some (.dic (zipK W.fns (R.bs.map λx=>MV.ref x.gl)))
 ht:M R.pt=some (.dic (zipK W.fns (R.bs.map λx=>MV.ref x.tl)))
 nl:R.nums.length=W.isl.length
 wl:R.ws.length=W.isl.length
 sl:R.dn.length=W.isl.length
 bl:R.bs.length=W.fer.length
 nb:∀(i:Nat) I n,W.isl[i]?=some I->R.nums[i]?=some n->n≤I.stps.length
 wa:∀(i:Nat) I a,W.isl[i]?=some I->R.ws[i]?=some a->∃kvs,M a=some (.dic kvs)/\WdOk W.w I kvs
 ba:∀(j:Nat) f x,W.fer[j]?=some f->R.bs[j]?=some x->BoatAt M f W.w (mm j) x
 sep:∀(i j:Nat) x y,i≠j->R.bs[i]?=some x->R.bs[j]?=some y->∀a∈x.ads,a∉y.ads
 nd:(R.pn::R.pw::R.ps::R.pb::R.pg::R.pt::R.ws).Nodup
def RunS.own(R:RunS)(r:Addr):List Addr:=r::R.pn::R.pw::R.ps::R.bs.flatMap Boat.ads
structure Kept (M M':MH) (r:Addr) (R R':RunS):Prop where
 fr:FrM M M' (R.own r)
 nw:∀a∈R'.own r,a∈R.own r\/M a=none
theorem Kept.trans{M M1 M2:MH}{r:Addr}{R R1 R2:RunS}(h:Kept M M1 r R R1)(g:Kept M1 M2 r R1 R2):Kept M M2 r R R2:=by
 refine⟨λa o ha hn=>g.fr a o (h.fr a o ha hn) λz=>?_,λa ha=>?_⟩
 ·rcases h.nw a z with z|z
  ·exact hn z
  ·rw[ha]at z;cases z
 ·rcases g.nw a ha with z|z
  ·exact h.nw a z
  ·by_cases c:a∈R.own r
   ·exact .inl c
   ·cases e:M a with
    |none=>exact .inr rfl
    |some o=>rw[h.fr a o e c]at z;cases z
theorem Kept.new{M M':MH}{r:Addr}{R:RunS}(s:SameM M M'):Kept M M' r R R:=⟨λa o h _=>s a o h,λ_ h=>.inl h⟩
theorem RunAt.keep{M M':MH}{W:Wld}{r:Addr}{R:RunS}{mm:Nat->Int}(h:RunAt M W r R mm)(s:SameM M M'):RunAt M' W r R mm:=
 ⟨s _ _ h.ob,s _ _ h.hn,s _ _ h.hw,s _ _ h.hs,s _ _ h.hb,s _ _ h.hg,s _ _ h.ht,h.nl,h.wl,h.sl,h.bl,h.nb,λi I a hI ha=>let⟨k,e,o⟩:=h.wa i I a hI ha;⟨k,s _ _ e,o⟩,λj f x hf hx=>(h.ba j f x hf hx).fr (UG _) λa _ o e=>s a o e,h.sep,h.nd⟩
theorem Vk{α:Type}{xs:List α}{i j:Nat}{v x:α}(h:(xs.set j v)[i]?=some x):(i=j/\x=v)\/(i≠j/\xs[i]?=some x):=by
 rw[Vz]at h;by_cases e:j=i
 ·subst e;rw[if_pos rfl]at h;by_cases l:j<xs.length
  ·rw[if_pos l]at h;exact .inl ⟨rfl,(Yb h).symm⟩
  ·rw[if_neg l]at h;cases h
 ·rw[if_neg e]at h;exact .inr ⟨λz=>e z.symm,h⟩
set_option tactic.hygienic true in
theorem GW{α β:Type}{f:α->β}{xs:List α}{j:Nat}{x y:α}(hx:xs[j]?=some x) (e:f y=f x):(xs.set j y).map f=xs.map f:=by
 rw[Wu,e];apply BE;intro i;rw[Vz];split
 ·rename_i h;subst h;split
  ·rw[Xq,hx];rfl
  ·rename_i l;rw[UA (by lia)]
 ·rfl
theorem RunAt.boat{M M':MH}{W:Wld}{r:Addr}{R:RunS}{mm mm':Nat->Int}(h:RunAt M W r R mm){j:Nat}{f:Fer}{x y:Boat}(hf:W.fer[j]?=some f) (hx:R.bs[j]?=some x) (fr:FrM M M' x.ads) (hy:BoatAt M' f W.w (mm' j) y) (eb:y.b=x.b) (eg:y.gl=x.gl) (et:y.tl=x.tl) (ad:∀a∈y.ads,a∈x.ads\/M a=none) (hm:∀i,i≠j->mm i≤mm' i):
  RunAt M' W r {R with bs:=R.bs.set j y} mm'/\Kept M M' r R {R with bs:=R.bs.set j y}:=by
 have bx:=h.ba j f x hf hx;have dic:∀a kvs,M a=some (.dic kvs)->M' a=some (.dic kvs):=λa kvs e=>fr a _ e (bx.dic e);have b1:(R.bs.set j y).map (λx=>MV.ref x.b)=R.bs.map λx=>MV.ref x.b:=GW hx (by rw[eb])
 have b2:(R.bs.set j y).map (λx=>MV.ref x.gl)=R.bs.map λx=>MV.ref x.gl:=GW hx (by rw[eg])
 have b3:(R.bs.set j y).map (λx=>MV.ref x.tl)=R.bs.map λx=>MV.ref x.tl:=GW hx (by rw[et])
 have off:∀(i:Nat) z,i≠j->R.bs[i]?=some z->∀a∈z.ads,a∉y.ads:=λi z ne hz a ha hay=>by
  rcases ad a hay with c|c
  ·exact h.sep i j z x ne hz hx a ha c
  ·have hi:i<W.fer.length:=by rw[<- h.bl];exact(XO.mp hz).1
   obtain⟨o,e,_⟩:=(h.ba i _ z (Xc hi) hz).at_ a ha;rw[e]at c;cases c
 refine⟨⟨fr _ _ h.ob (bx.run h.ob),dic _ _ h.hn,dic _ _ h.hw,dic _ _ h.hs,?_,?_,?_,h.nl,h.wl,h.sl,by show(R.bs.set j y).length=_;rw[UC];exact h.bl,h.nb,λi I a hI ha=>let⟨k,e,o⟩:=h.wa i I a hI ha;⟨k,dic _ _ e,o⟩,λi g z hg hz=>?_,λi i' z z' ne hz hz'=>?_,h.nd⟩,⟨λa o ha hn=>fr a o ha λc=>hn ?_,λa ha=>?_⟩⟩
 ·show M' R.pb=some (.dic (zipK W.fns ((R.bs.set j y).map λx=>MV.ref x.b)));rw[b1];exact dic _ _ h.hb
 ·show M' R.pg=some (.dic (zipK W.fns ((R.bs.set j y).map λx=>MV.ref x.gl)));rw[b2];exact dic _ _ h.hg
 ·show M' R.pt=some (.dic (zipK W.fns ((R.bs.set j y).map λx=>MV.ref x.tl)));rw[b3];exact dic _ _ h.ht
 ·rcases Vk hz with⟨rfl,rfl⟩|⟨ne,hz⟩
  ·rw[hf]at hg;cases hg;exact hy
  ·exact(h.ba i g z hg hz).fr (hm i ne) λa ha o e=>fr a o e λc=>h.sep i j z x ne hz hx a ha c
 ·rcases Vk hz with⟨e1,y1⟩|⟨n1,y1⟩<;>rcases Vk hz' with⟨e2,y2⟩|⟨n2,y2⟩
  ·exact absurd (e1.trans e2.symm) ne
  ·subst y1;exact λa ha hb=>off i' z' n2 y2 a hb ha
  ·subst y2;exact off i z n1 y1
  ·exact h.sep i i' z z' ne y1 y2
 ·exact XR _ (XR _ (XR _ (XR _ (VB.mpr ⟨x,Xz hx,c⟩))))
 ·simp only[RunS.own,Xl,VB]at ha ⊢;rcases ha with c|c|c|c|⟨z,hz,c⟩
  ·exact .inl (.inl c)
  ·exact .inl (.inr (.inl c))
  ·exact .inl (.inr (.inr (.inl c)))
  ·exact .inl (.inr (.inr (.inr (.inl c))))
  ·obtain⟨i,hi,rfl⟩:=Y6 hz;rcases Vk (Xc hi)with⟨_,e⟩|⟨_,e⟩
   ·rw[e]at c;exact(ad a c).imp (λd=>.inr (.inr (.inr (.inr ⟨x,Xz hx,d⟩)))) id
   ·exact .inl (.inr (.inr (.inr (.inr ⟨_,Xz e,c⟩))))
noncomputable def askO(o:Option Stp)(ρ:Str->Int)(w:Nat):MV:=match o with
 |none=>.non
 |some (.take f _)=>.tup [.str "take",.str f]
 |some (.give f T)=>.tup [.str "give",.str f,.int (T.val ρ w)]
 |some _=>.tup [.str "own"]
theorem _qk(ss:List Stp)(ρ:Str->Int)(w i:Nat):dueM ss ρ w i=askO ss[i]? ρ w:=rfl
noncomputable def Vl(o:Option Stp):MV:=match o with
 |none=>.tup [.str "done"]
 |some (.take f _)=>.tup [.str "wait",.str f]
 |some (.give f _)=>.tup [.str "wait",.str f]
 |some _=>.tup [.str "own"]
noncomputable def Yu(o:Option Stp)(z:Str):Bool:=match o with
 |some (.take f _)=>decide (f=z)
 |some (.give f _)=>decide (f=z)
 |_=>false
abbrev Vm:SpM:=λvs M Q=>∃(o:Option Stp) (ρ:Str->Int) (w:Nat),vs=[askO o ρ w]/\Q (Vl o) M
theorem _91:MonW Vm:=by walk_at "m"
theorem _dh(T:Txt K mg t):FnOk P w K mg base CX0 1 t.gF t.ib ["asked"] (liSp K Vm):=by
 refine T.bn.F.okM _d9 (fC (G:=Oa) (Φ:=[]) T rfl nl0 nl0) FM _dG (λvs M Q h=>?_) (λvs M Q h=>?_)
 ·obtain⟨_,_,_,rfl,_⟩:=h;rfl
 obtain⟨o,ρ,k,rfl,q⟩:=h;show wSs _ _ _ [some (askO o ρ k)] M;delta FM O9;rcases o with _|s
 ·simp only[askO];simp!;delta O8;simp!;exact q
 ·cases s<;>simp only[askO]<;>simp!<;>rw[O7]<;>simp!<;>first|(rw[O6];simp!;exact q)|(rw[O5];simp!;exact q)
abbrev Wl:SpM:=λvs M Q=>∃(o:Option Stp) (ρ:Str->Int) (w:Nat) (z:Str),vs=[askO o ρ w,.str z]/\Q (.bl (Yu o z)) M
theorem _93:MonW Wl:=by walk_at "m"
theorem _dj(T:Txt K mg t):FnOk P w K mg base CX0 1 t.ia t.ef ["asked","ferry_name"] (liSp K Wl):=by
 refine T.bP.F.okM _dc (fC (G:=Oc) (Φ:=[]) T rfl nl0 nl0) FN _dJ (λvs M Q h=>?_) (λvs M Q h=>?_)
 ·obtain⟨_,_,_,_,rfl,_⟩:=h;rfl
 obtain⟨o,ρ,k,z,rfl,q⟩:=h;show wSs _ _ _ [some (askO o ρ k),some (.str z)] M;delta FN Ob;rcases o with _|s
 ·simp only[askO];simp!;exact q
 ·cases s<;>simp only[askO]<;>simp!<;>exact q
abbrev GX:SpM:=λvs M Q=>∃(z:Str) (e:Addr) (kvs:List (Key×MV)),vs=[.str z,.ref e]/\M e=some (.dic kvs)/\(valM kvs (Xs z)).isSome=true/\Q .non M
theorem _5m:MonW GX:=by walk_at "m"
theorem _8d(T:Txt K mg t):FnOk P w K mg base CX0 1 t.b9 t.aZ ["name","known"] (liSp K GX):=by
 refine T.am.F.okM Ks (_N (P:=P) (w:=w) (K:=K) (mg:=mg) (base:=base) (k:=0) (G:=Fu) (Φ:=[]) (Ψ:=[]) (Χ:=[]) rfl (_P T) (_Q T) rfl nl0 nl0 nl0 nl0 (_R T)) B4 ML (λvs M Q h=>?_) (λvs M Q h=>?_)
 ·obtain⟨z,a,zs,rfl,_⟩:=h;rfl
 obtain⟨z,a,kvs,rfl,h1,h2,q⟩:=h;show wSs _ _ _ [some (.str z),some (.ref a)] M;delta B4 Ft;simp!;refine .inr ⟨_,_,h1,rfl,?_⟩;rw[h2];simp!;exact q
theorem Wld.Good.in_nd{W:Wld}(G:W.Good):W.ins.Nodup:=(Zi.mp G.nd).2.1
theorem Wld.Good.fn_nd{W:Wld}(G:W.Good):W.fns.Nodup:=(Zi.mp G.nd).1
theorem UQ{W:Wld}{i:Nat}{I:Isl}(h:W.isl[i]?=some I):W.ins[i]?=some I.name:=by unfold Wld.ins;rw[Xq,h];rfl
theorem Dm{W:Wld}{i:Nat}{f:Fer}(h:W.fer[i]?=some f):W.fns[i]?=some f.name:=by unfold Wld.fns;rw[Xq,h];rfl
theorem Wm{W:Wld}:W.ins.length=W.isl.length:=by unfold Wld.ins;rw[Xa]
theorem Do{W:Wld}:W.fns.length=W.fer.length:=by unfold Wld.fns;rw[Xa]
theorem RI{fs ns:List Str}{n:Nat}{s:Stp}(h:ZT fs ns n s):s.ok ns n:=by
 cases s with
 |take f x=>exact h.2
 |give f T=>exact h.2
 |put x T=>exact h
 |jump T i=>exact h
abbrev Dp:SpM:=λvs M Q=>∃(e:Addr) (kvs:List (Key×MV)) (z:Str) (v:MV),vs=[.ref e,.str z]/\M e=some (.dic kvs)/\valM kvs (Xs z)=some v/\Q v M
theorem RJ:MonW Dp:=by walk_at "m"
theorem RK(T:Txt K mg t):FnOk P w K mg base CX0 2 t.cu t.dc ["named","name"] (liSp K Dp):=by
 refine T.aS.F.okM _e0 (fC (G:=Of) (Φ:=[("refuse_unknown",GX)]) T rfl (fMc ⟨_5m,nl0⟩) (fMc ⟨⟨_,_,_,FnOk.mono (_8d T) (by decide),T.am.m,T.am.F.kp,T.am.b⟩,nl0⟩)) FO _eT (fun vs M Q h=>?_) (fun vs M Q h=>?_)
 ·obtain⟨_,_,_,_,rfl,_⟩:=h;rfl
 obtain⟨e,kvs,z,v,rfl,he,hv,q⟩:=h;show wSs _ _ _ [some (.ref e),some (.str z)] M;delta FO Oe;simp!;refine⟨z,e,kvs,rfl,he,by rw[hv];rfl,?_⟩
 delta Od
 simp![he,hv]
 exact q
section
variable{M:MH}{W:Wld}{r:Addr}{R:RunS}{mm:Nat->Int}
theorem RunAt.gvl(h:RunAt M W r R mm)(G:W.Good){j:Nat}{f:Fer}{x:Boat}(hf:W.fer[j]?=some f) (hx:R.bs[j]?=some x):valM (zipK W.fns (R.bs.map λx=>MV.ref x.gl)) (Xs f.name)=some (.ref x.gl):=UP G.fn_nd (Dm hf) (by rw[Xq,hx];rfl)
theorem RunAt.tkl(h:RunAt M W r R mm)(G:W.Good){j:Nat}{f:Fer}{x:Boat}(hf:W.fer[j]?=some f) (hx:R.bs[j]?=some x):valM (zipK W.fns (R.bs.map λx=>MV.ref x.tl)) (Xs f.name)=some (.ref x.tl):=UP G.fn_nd (Dm hf) (by rw[Xq,hx];rfl)
theorem RunAt.btl(h:RunAt M W r R mm)(G:W.Good){j:Nat}{f:Fer}{x:Boat}(hf:W.fer[j]?=some f) (hx:R.bs[j]?=some x):valM (zipK W.fns (R.bs.map λx=>MV.ref x.b)) (Xs f.name)=some (.ref x.b):=UP G.fn_nd (Dm hf) (by rw[Xq,hx];rfl)
theorem RunAt.nml(h:RunAt M W r R mm)(G:W.Good){i n:Nat}{I:Isl}(hI:W.isl[i]?=some I) (hn:R.nums[i]?=some n):valM (zipK W.ins (R.nums.map natM)) (Xs I.name)=some (.int n):=UP G.in_nd (UQ hI) (by rw[Xq,hn];rfl)
theorem RunAt.wdl(h:RunAt M W r R mm)(G:W.Good){i:Nat}{a:Addr}{I:Isl}(hI:W.isl[i]?=some I) (ha:R.ws[i]?=some a):valM (zipK W.ins (R.ws.map MV.ref)) (Xs I.name)=some (.ref a):=UP G.in_nd (UQ hI) (by rw[Xq,ha];rfl)
theorem RunAt.dnl(h:RunAt M W r R mm)(G:W.Good){i n:Nat}{I:Isl}(hI:W.isl[i]?=some I) (hn:R.dn[i]?=some n):valM (zipK W.ins (R.dn.map natM)) (Xs I.name)=some (.int n):=UP G.in_nd (UQ hI) (by rw[Xq,hn];rfl)
set_option tactic.hygienic true in
theorem RunAt.went(h:RunAt M W r R mm){M':MH}{i n d:Nat}{I:Isl}{p:Addr}{kvs:List (Key×MV)}(hI:W.isl[i]?=some I) (hn:n≤I.stps.length) (hp:M p=none) (fr:∀a o,M a=some o->a≠R.pn->a≠R.pw->a≠R.ps->M' a=some o) (hk:M' p=some (.dic kvs)) (wk:WdOk W.w I kvs)
  (h1:M' R.pn=some (.dic (zipK W.ins ((R.nums.set i n).map natM)))) (h2:M' R.pw=some (.dic (zipK W.ins ((R.ws.set i p).map MV.ref)))) (h3:M' R.ps=some (.dic (zipK W.ins ((R.dn.set i d).map natM)))):
  RunAt M' W r {R with nums:=R.nums.set i n,ws:=R.ws.set i p,dn:=R.dn.set i d} mm/\Kept M M' r R {R with nums:=R.nums.set i n,ws:=R.ws.set i p,dn:=R.dn.set i d}:=by
 have nd:=h.nd;simp only[YB,Xl,not_or]at nd;obtain⟨⟨a1,a2,a3,a4,a5,a6⟩,⟨b2,b3,b4,b5,b6⟩,⟨c3,c4,c5,c6⟩,⟨d4,d5,d6⟩,⟨e5,e6⟩,f6,ndw⟩:=nd;have kd:∀a kv,M a=some (.dic kv)->a≠r:=λa kv e z=>by subst z;rw[h.ob]at e;cases e
 have wne:∀(k:Nat) a,R.ws[k]?=some a->a≠R.pn/\a≠R.pw/\a≠R.ps:=λk a ha=>⟨λz=>a6 (z▸Xz ha),λz=>b6 (z▸Xz ha),λz=>c6 (z▸Xz ha)⟩;have old:∀a o,M a=some o->a≠p:=λa o e=>neM e hp;refine⟨⟨fr _ _ h.ob (kd _ _ h.hn).symm (kd _ _ h.hw).symm (kd _ _ h.hs).symm,h1,h2,h3,fr _ _ h.hb (XN a3) (XN b3) (XN c3),fr _ _ h.hg (XN a4) (XN b4) (XN c4),fr _ _ h.ht (XN a5) (XN b5) (XN c5),by show(R.nums.set i n).length=_;rw[UC];exact h.nl,by show(R.ws.set i p).length=_;rw[UC];exact h.wl,by show(R.dn.set i d).length=_;rw[UC];exact h.sl,h.bl,λk J m hJ hm=>?_,λk J a hJ ha=>?_,λj f x hf hx=>?_,h.sep,?_⟩,⟨λa o ha hn=>fr a o ha ?_ ?_ ?_,λa ha=>.inl ha⟩⟩
 ·rcases Vk hm with⟨rfl,rfl⟩|⟨_,hm⟩
  ·rw[hI]at hJ;cases hJ;exact hn
  ·exact h.nb k J m hJ hm
 ·rcases Vk ha with⟨rfl,rfl⟩|⟨_,ha⟩
  ·rw[hI]at hJ;cases hJ;exact⟨kvs,hk,wk⟩
  ·obtain⟨kv,e,o⟩:=h.wa k J a hJ ha;obtain⟨n1,n2,n3⟩:=wne k a ha;exact⟨kv,fr _ _ e n1 n2 n3,o⟩
 ·have hx:R.bs[j]?=some x:=hx;have b:=h.ba j f x hf hx;exact b.fr (UG _) λa ha o e=>fr a o e (λz=>b.dic (z▸h.hn) ha) (λz=>b.dic (z▸h.hw) ha) (λz=>b.dic (z▸h.hs) ha)
 ·have pnot:∀a kv,M a=some (.dic kv)->a≠p:=λa kv e=>old a _ e;have ms:∀a,a∈R.ws.set i p->a∈R.ws\/a=p:=λa ha=>Hc ha;have pin:p∉R.ws:=λz=>by
   obtain⟨k,hk',e⟩:=Y6 z;have hi:k<W.isl.length:=by rw[<- h.wl];exact hk'
   obtain⟨kv,e2,_⟩:=h.wa k _ _ (Xc hi) (Xc hk');rw[e,hp]at e2;cases e2
  have ndp:(R.ws.set i p).Nodup:=by
   refine List.pairwise_iff_getElem.mpr λk l hk' hl kl e=>?_;rw[UC]at hk' hl;rw[Dz,Dz]at e;split at e<;>split at e
   ·rename_i z1 z2;lia
   ·exact pin (e▸XV hl)
   ·exact pin (e.symm▸XV hk')
   ·have:=(BF ndw).mp e;lia
  have mk:∀a kv,M a=some (.dic kv)->a∉R.ws->a∉R.ws.set i p:=λa kv e hn z=>(ms a z).elim hn (pnot a kv e);show(R.pn::R.pw::R.ps::R.pb::R.pg::R.pt::R.ws.set i p).Nodup;simp only[YB,Xl,not_or];exact⟨⟨a1,a2,a3,a4,a5,mk _ _ h.hn a6⟩,⟨b2,b3,b4,b5,mk _ _ h.hw b6⟩,⟨c3,c4,c5,mk _ _ h.hs c6⟩,⟨d4,d5,mk _ _ h.hb d6⟩,⟨e5,mk _ _ h.hg e6⟩,mk _ _ h.ht f6,ndp⟩
 ·exact λz=>hn (by simp[RunS.own,z])
 ·exact λz=>hn (by simp[RunS.own,z])
 ·exact λz=>hn (by simp[RunS.own,z])
end
abbrev Bo:SpM:=λvs M Q=>∃(r:Addr) (W:Wld) (R:RunS) (mm:Nat->Int) (j:Nat) (f:Fer) (x:Boat),vs=[.ref r,.str f.name]/\W.Good/\RunAt M W r R mm/\W.fer[j]?=some f/\R.bs[j]?=some x/\∀p,M p=none->Q (.ref p) (updM M p (.lst (x.A.ws.map natM)))
theorem RL:MonW Bo:=by walk_at "m"
theorem _er(T:Txt K mg t):FnOk P w K mg base CX0 3 t.b8 t.bo ["self","name"] (liSp K Bo):=by
 refine T.i8.okM _e9 (fC (G:=OX) (Φ:=[("looked_up",Dp)]) T rfl (fMc ⟨RJ,nl0⟩) (fMc ⟨fE T.aS (RK T),nl0⟩)) FW _f2 (fun vs M Q h=>?_) (fun vs M Q h=>?_)
 ·obtain⟨_,_,_,_,_,_,_,rfl,_⟩:=h;rfl
 obtain⟨r,W,R,mm,j,f,x,rfl,G,h,hf,hx,q⟩:=h;show wSs _ _ _ [some (.ref r),some (.str f.name)] M;have ob:=h.ob;have gv:=(h.ba j f x hf hx).gv;delta FW OW
 simp![ob,runO,valM]
 refine⟨_,_,_,_,rfl,h.hg,h.gvl G hf hx,?_⟩
 simp![gv]
 exact q
abbrev Bp:SpM:=λvs M Q=>∃(r:Addr) (W:Wld) (R:RunS) (mm:Nat->Int) (j:Nat) (f:Fer) (x:Boat),vs=[.ref r,.str f.name]/\W.Good/\RunAt M W r R mm/\W.fer[j]?=some f/\R.bs[j]?=some x/\∀p,M p=none->Q (.ref p) (updM M p (.lst ((x.A.ws.take x.A.tn).map natM)))
theorem RN:MonW Bp:=by walk_at "m"
theorem _ep(T:Txt K mg t):FnOk P w K mg base CX0 3 t.bV t.bg ["self","name"] (liSp K Bp):=by
 refine T.fH.okM _e7 (fC (G:=OZ) (Φ:=[("looked_up",Dp)]) T rfl (fMc ⟨RJ,nl0⟩) (fMc ⟨fE T.aS (RK T),nl0⟩)) FX _f0 (fun vs M Q h=>?_) (fun vs M Q h=>?_)
 ·obtain⟨_,_,_,_,_,_,_,rfl,_⟩:=h;rfl
 obtain⟨r,W,R,mm,j,f,x,rfl,G,h,hf,hx,q⟩:=h;show wSs _ _ _ [some (.ref r),some (.str f.name)] M;have ob:=h.ob;have tk:=(h.ba j f x hf hx).tk;delta FX OY
 simp![ob,runO,valM]
 refine⟨_,_,_,_,rfl,h.ht,h.tkl G hf hx,?_⟩
 simp![tk]
 exact q
theorem _kO{W:Wld}{I:Isl}{i:Nat}{s:Stp}(ok:IslOk W.w W.fns I)(hs:I.stps[i]?=some s) (ρ:Str->Int):∃n:Nat,Wg s ρ W.w i=(n:Int)/\n≤I.stps.length:=by
 have hi:=(XO.mp hs).1;have st:=ok.st s (Xz hs);have nx:∃n:Nat,(i:Int)+1=(n:Int)/\n≤I.stps.length:=⟨i+1,by lia,hi⟩
 cases s with
 |jump T j=>
  unfold Wg;by_cases c:T.val ρ W.w≠0
  ·simp only[if_pos c];exact⟨j.toNat,by have:=st.2.1;lia,by have:=st.2.1;have:=st.2.2;lia⟩
  ·simp only[if_neg c];exact nx
 |take _ _=>exact nx
 |give _ _=>exact nx
 |put _ _=>exact nx
theorem _jJ{W:Wld}{I:Isl}{s:Stp}{kvs:List (Key×MV)}{wd:MV}(w1:1≤W.w)(ok:IslOk W.w W.fns I)(hs:s∈I.stps)(wk:WdOk W.w I kvs)(hw:∀f x,s=.take f x->∃v:Int,wd=.int v/\0≤v/\v<2^W.w):WdOk W.w I (CY s kvs (rhoK kvs) W.w wd):=by
 have st:=ok.st s hs;cases s with
 |take f x=>
  obtain⟨v,rfl,hv⟩:=hw f x rfl;exact wk.put ok.nd st.2 hv
 |put x T=>exact wk.put ok.nd st.1 (T.val_in w1 λy hy=>(wk.at ok.nd (st.2.2.2 y hy)).2)
 |give _ _=>exact wk
 |jump _ _=>exact wk
abbrev UR:SpM:=λvs M Q=>∃(r:Addr) (W:Wld) (R:RunS) (mm:Nat->Int) (i n:Nat) (I:Isl) (s:Stp) (wd:MV),vs=[.ref r,.str I.name,.tup (I.stps.map Stp.mv),wd]/\W.Good/\RunAt M W r R mm/\W.isl[i]?=some I/\R.nums[i]?=some n/\I.stps[n]?=some s/\(∀f x,s=.take f x->∃v:Int,wd=.int v/\0≤v/\v<2^W.w)/\
 ∀R' M',R'.m=R.m->R'.bs=R.bs->RunAt M' W r R' mm->Kept M M' r R R'->Q .non M'
theorem _as:MonW UR:=by walk_at "m"
theorem _eq(T:Txt K mg t):FnOk P w K mg base CX0 52 t.bm t.bp ["self","name","steps","word"] (liSp K UR):=by
 refine T.cO.okM _e8 (fC (G:=OV) (Φ:=[("after",Ge)]) T rfl (fMc ⟨_ew,nl0⟩) (fMc ⟨fE T.bU (_kH T),nl0⟩)) FV _f1 (fun vs M Q h=>?_) (fun vs M Q h=>?_)
 ·obtain⟨_,_,_,_,_,_,_,_,_,rfl,_⟩:=h;rfl
 obtain⟨r,W,R,mm,i,n,I,s,wd,rfl,G,h,hI,hn,hs,hw,q⟩:=h;show wSs _ _ _ [some (.ref r),some (.str I.name),some (.tup (I.stps.map Stp.mv)),some wd,none] M;have hi:i<W.isl.length:=(XO.mp hI).1;have i5:=G.i5;have ok:=G.io I (Xz hI);obtain⟨a,ha⟩:∃a,R.ws[i]?=some a:=⟨_,Xc (by rw[h.wl];exact hi)⟩
 obtain⟨d,hd⟩:∃d,R.dn[i]?=some d:=⟨_,Xc (by rw[h.sl];exact hi)⟩
 obtain⟨kvs,hk,wk⟩:=h.wa i I a hI ha;have ob:=h.ob;have hpn:=h.hn;have hpw:=h.hw;have hps:=h.hs;have vn:=h.nml G hI hn;have vw:=h.wdl G hI ha;have vd:=h.dnl G hI hd;have nd:=h.nd;simp only[YB,Xl,not_or]at nd;obtain⟨⟨a1,a2,_⟩,⟨b2,_⟩,_⟩:=nd;have rn:∀b kv,M b=some (.dic kv)->r≠b:=λb kv e z=>by subst z;rw[ob]at e;cases e
 have r1:=rn _ _ hpn;have r2:=rn _ _ hpw;have r3:=rn _ _ hps;have lz:∀vs:List MV,vs.length=W.isl.length->(zipK W.ins vs).length<16777216:=λvs e=>by rw[GT (by rw[Wm];exact e),Wm];lia
 delta FV OU
 simp![ob,runO,valM,Wld.mv,hpn,hpw,vn,vw]
 refine⟨_,a,I.stps,n,W.w,kvs,rhoK kvs,I.vars,s,wd,rfl,.inl rfl,hs,RI (ok.st s (Xz hs)),G.w1,G.w2,hk,by rw[wk.len];unfold Isl.vars;rw[Xa];have:=ok.nv;lia,wk.reads ok.nd,λp hp=>?_⟩
 obtain⟨n',hn',hn2⟩:=_kO ok hs (rhoK kvs);rw[hn'];have wk':=_jJ (wd:=wd) G.w1 ok (Xz hs) wk hw;generalize CY s kvs (rhoK kvs) W.w wd=kvs' at*;have s1:=SameM.new hp (.dic kvs');have hk1:updM M p (.dic kvs') p=some (.dic kvs'):=X9;have pn:R.pn≠p:=neM hpn hp;have pw:R.pw≠p:=neM hpw hp;have ps:R.ps≠p:=neM hps hp;have ob1:=s1 _ _ ob;have hpn1:=s1 _ _ hpn;have hpw1:=s1 _ _ hpw;have hps1:=s1 _ _ hps;generalize updM M p _=M1 at*;delta OT
 simp![ob1,runO,valM,hpn1]
 refine⟨lz _ (by rw[Xa];exact h.nl),?_⟩
 rw[Bn (i:=i) (by rw[Xa,Wm];exact h.nl) G.in_nd (UQ hI)]
 have e1:(R.nums.map natM).set i (.int n')=(R.nums.set i n').map natM:=by rw[Wu]
 rw[e1];have ob2:updM M1 R.pn (.dic (zipK W.ins ((R.nums.set i n').map natM))) r=_:=(Xb r1).trans ob1;have hn2':updM M1 R.pn (.dic (zipK W.ins ((R.nums.set i n').map natM))) R.pn=_:=X9;have hw2:updM M1 R.pn (.dic (zipK W.ins ((R.nums.set i n').map natM))) R.pw=_:=(Xb (XN a1)).trans hpw1;have hs2:updM M1 R.pn (.dic (zipK W.ins ((R.nums.set i n').map natM))) R.ps=_:=(Xb (XN a2)).trans hps1;have hk2:updM M1 R.pn (.dic (zipK W.ins ((R.nums.set i n').map natM))) p=_:=(Xb (XN pn)).trans hk1;have f2:∀b o,M1 b=some o->b≠R.pn->updM M1 R.pn (.dic (zipK W.ins ((R.nums.set i n').map natM))) b=some o:=λb o e z=>(Xb z).trans e;generalize updM M1 R.pn _=M2 at*;delta OS
 simp![ob2,runO,valM,hw2]
 refine⟨lz _ (by rw[Xa];exact h.wl),?_⟩
 rw[Bn (i:=i) (by rw[Xa,Wm];exact h.wl) G.in_nd (UQ hI)]
 have e2:(R.ws.map MV.ref).set i (.ref p)=(R.ws.set i p).map MV.ref:=by rw[Wu]
 rw[e2];have ob3:updM M2 R.pw (.dic (zipK W.ins ((R.ws.set i p).map MV.ref))) r=_:=(Xb r2).trans ob2;have hn3:updM M2 R.pw (.dic (zipK W.ins ((R.ws.set i p).map MV.ref))) R.pn=_:=(Xb a1).trans hn2';have hw3:updM M2 R.pw (.dic (zipK W.ins ((R.ws.set i p).map MV.ref))) R.pw=_:=X9;have hs3:updM M2 R.pw (.dic (zipK W.ins ((R.ws.set i p).map MV.ref))) R.ps=_:=(Xb (XN b2)).trans hs2;have hk3:updM M2 R.pw (.dic (zipK W.ins ((R.ws.set i p).map MV.ref))) p=_:=(Xb (XN pw)).trans hk2;have f3:∀b o,M2 b=some o->b≠R.pw->updM M2 R.pw (.dic (zipK W.ins ((R.ws.set i p).map MV.ref))) b=some o:=λb o e z=>(Xb z).trans e;generalize updM M2 R.pw _=M3 at*;delta OR
 simp![ob3,runO,valM,hs3,vd]
 refine⟨lz _ (by rw[Xa];exact h.sl),?_⟩
 rw[Bn (i:=i) (by rw[Xa,Wm];exact h.sl) G.in_nd (UQ hI)]
 have e3:(R.dn.map natM).set i (.int ((d:Int)+1))=(R.dn.set i (d+1)).map natM:=by rw[Wu];rfl
 rw[e3];obtain⟨A,B⟩:=h.went (M':=updM M3 R.ps (.dic (zipK W.ins ((R.dn.set i (d+1)).map natM)))) hI hn2 hp (λb o e z1 z2 z3=>(Xb z3).trans (f3 b o (f2 b o (s1 b o e) z1) z2)) ((Xb (XN ps)).trans hk3) wk' ((Xb a2).trans hn3) ((Xb b2).trans hw3) X9;exact q {R with nums:=R.nums.set i n',ws:=R.ws.set i p,dn:=R.dn.set i (d+1)} _ rfl rfl A B
def Zqv(w:Nat)(f:Fer)(o:Option Stp)(ρ:Str->Int)(v:MV):Prop:=v=.non\/(∃T,o=some (.give f.name T)/\v=askO o ρ w)\/∃(x:Str) (n:Nat),o=some (.take f.name x)/\n<2^w/\v=.tup [.str "take",.str f.name,.int n]
abbrev Vn:SpM:=λvs M Q=>∃(r:Addr) (W:Wld) (R:RunS) (mm:Nat->Int) (j:Nat) (f:Fer) (z:Str) (c:Nat) (o:Option Stp) (ρ:Str->Int),vs=[.ref r,f.mv,.str z,.int c,askO o ρ W.w]/\W.Good/\RunAt M W r R mm/\mm j≤R.m/\W.fer[j]?=some f/\(z=f.giver\/z=f.taker)/\(∀s,o=some s->ZU W.fer z s)/\(∀g T,o=some (.give g T)->0≤T.val ρ W.w/\T.val ρ W.w<2^W.w)/\(∀y∈R.bs,y.A.ws.length≤1000)/\
 ∀R' M' v (sm:Int),R'.m=R.m->R'.nums=R.nums->RunAt M' W r R' (λi=>if i=j then R.m+1 else mm i)->Kept M M' r R R'->Zqv W.w f o ρ v->(∀a a',R.bs[j]?=some a->R'.bs[j]?=some a'->a'.A.ws.length≤a.A.ws.length+1)->(∀(i:Nat),i≠j->R'.bs[i]?=R.bs[i]?)->Q (.tup [v,.int sm]) M'
theorem _5C:MonW Vn:=by walk_at "m"
theorem _mQ{w:Nat}{v:Int}(h0:0≤v)(h1:v<2^w):∃n:Nat,v=(n:Int)/\n<2^w:=by
 refine⟨v.toNat,(UF h0).symm,?_⟩;have e:((2:Int)^w)=((2^w:Nat):Int):=by rw[V7];rfl
 lia
theorem Dq{R:RunS}{j:Nat}{x y:Boat}(hx:R.bs[j]?=some x) (hy:y.A.ws.length≤x.A.ws.length+1):∀a a',R.bs[j]?=some a->(R.bs.set j y)[j]?=some a'->a'.A.ws.length≤a.A.ws.length+1:=λa a' ha ha'=>by
 rw[hx]at ha;cases ha;rcases Vk ha' with⟨_,rfl⟩|⟨ne,_⟩
 ·exact hy
 ·exact absurd rfl ne
theorem _8Z(T:Txt K mg t):FnOk P w K mg base CX0 5 t.bu t.bD ["self","ferry","name","choice","asked"] (liSp K Vn):=by
 refine T.gg.okM _8W (_N (k:=4) (G:=OQ) (Φ:=[("is_wish_of",Wl)]) (Ψ:=[("Ferry_ring_giver",Vj),("Ferry_ring_taker",Wj)]) (Χ:=[("is_wish_of",Wl),("Ferry_ring_giver",Vj),("Ferry_ring_taker",Wj)]) rfl (_P T) (_Q T) rfl (fMc ⟨_93,(fMc ⟨_4O,(fMc ⟨_4N,nl0⟩)⟩)⟩) (fMc ⟨fE T.bP (_dj T),nl0⟩) (fMc ⟨⟨_,_,rfl,_,_,_,_,(FnOk.mono (_7M T) (by decide)),T.ay,T.aB,T.eY,T.dH⟩,(fMc ⟨⟨_,_,rfl,_,_,_,_,(FnOk.mono (_7L T) (by decide)),T.ay,T.aB,T.gY,T.eO⟩,nl0⟩)⟩) nl0 (_R T)) FU _9f (fun vs M Q h=>?_) (fun vs M Q h=>?_)
 ·obtain⟨_,_,_,_,_,_,_,_,_,_,rfl,_⟩:=h;rfl
 obtain⟨r,W,R,mm,j,f,z,c,o,ρ,rfl,G,h,hmj,hf,hz,hE,hT,hL,q⟩:=h;show wSs _ _ _ [some (.ref r),some f.mv,some (.str z),some (.int c),some (askO o ρ W.w),none,none,none] M;have hj:j<W.fer.length:=(XO.mp hf).1;have fm:f∈W.fer:=Xz hf;have fok:=G.fo f fm;obtain⟨x,hx⟩:∃x,R.bs[j]?=some x:=⟨_,Xc (by rw[h.bl];exact hj)⟩
 have b:=h.ba j f x hf hx;have xl:=hL x (Xz hx);have ob:=h.ob;have hb:=h.hb;have hg:=h.hg;have ht:=h.ht;have vb:=h.btl G hf hx;have vg:=h.gvl G hf hx;have vt:=h.tkl G hf hx;have fe:=b.fy.fe;have mm':∀i,i≠j->mm i≤(λi=>if i=j then R.m+1 else mm i) i:=λi ne=>by simp[ne]
 have m1:(λi=>if i=j then R.m+1 else mm i) j=R.m+1:=by simp
 have jn:∀M',FrM M M' [x.b,x.g,x.u]->∀a kv,M a=some (.dic kv)->M' a=some (.dic kv):=λM' fr a kv e=>fr a _ e λc=>b.dic e (by
  simp only[Boat.ads,Xl,XL,or_false]at c ⊢;rcases c with c|c|c<;>simp[c])
 have jo:∀M',FrM M M' [x.b,x.g,x.u]->M' r=some (runO W R):=λM' fr=>fr _ _ ob λc=>b.run ob (by
  simp only[Boat.ads,Xl,XL,or_false]at c ⊢;rcases c with c|c|c<;>simp[c])
 have glo:x.gl∉ [x.b,x.g,x.u]:=Rr b.fy b.gv;have tlo:x.tl∉ [x.b,x.g,x.u]:=Rr b.fy b.tk;have adF:∀M',FrM M M' [x.b,x.g,x.u]->FrM M M' x.ads:=λM' fr a o e hn=>fr a o e λc=>hn (by
  simp only[Boat.ads,Xl,XL,or_false]at c ⊢;rcases c with c|c|c<;>simp[c])
 delta FU OP
 simp![ob,runO,valM,Fer.mv,hb,vb]
 delta OO
 simp![Fer.mv]
 refine⟨o,ρ,W.w,f.name,rfl,?_⟩;delta ON
 simp![Fer.mv]
 refine Y5 (λcg=>?_) (λcg=>?_)
 · -- the giver's end
  have wsh:Yu o f.name=true->∃T,o=some (.give f.name T):=λe=>by
   rcases o with _|s
   ·cases e
   ·cases s with
    |take g y=>
     obtain rfl:g=f.name:=of_decide_eq_true e;exact absurd (cg.trans ((hE _ rfl) f fm rfl).symm) fok.ne
    |give g T=>
     obtain rfl:g=f.name:=of_decide_eq_true e;exact⟨T,rfl⟩
    |put _ _=>cases e
    |jump _ _=>cases e
  have go:∀(xo:Option Nat) (v:MV),v=wM xo->(xo=none\/∃T n,o=some (.give f.name T)/\askO o ρ W.w=.tup [.str "give",.str f.name,.int ((n:Nat):Int)]/\xo=some n/\n<2^W.w)->
    Vj [.ref x.b,.int R.m,.int c,v] M (fun v1 M1=>wSs ([("is_wish_of",Wl),("Ferry_ring_giver",Vj),("Ferry_ring_taker",Wj)]:List (Str×SpM)) FT {nx:=fun σ M=>wSs ([("is_wish_of",Wl),("Ferry_ring_giver",Vj),("Ferry_ring_taker",Wj)]:List (Str×SpM)) FS {nx:=fun _ M'=>Q .non M',rt:=Q} σ M,rt:=Q} [some (.ref r),some f.mv,some (.str z),some (.int c),some (askO o ρ W.w),some (.ref x.b),some (.bl (Yu o f.name)),some v1] M1):=by
   intro xo v hv hxo;subst hv;refine⟨x.b,x.p,x.g,x.u,x.A,R.m,c,xo,rfl,b.fy,VO b.gm hmj,VO b.tm hmj,λp' M1 hp' fr fy=>?_⟩;have gl1:=fr _ _ b.gv glo;have tl1:=fr _ _ b.tk tlo;have n1:x.gl≠p':=neM b.gv hp';have n2:x.tl≠p':=neM b.tk hp';have ads:∀(A:Ab),∀a∈(⟨x.b,p',x.g,x.u,x.gl,x.tl,A⟩:Boat).ads,a∈x.ads\/M a=none:=λA a ha=>by
    simp only[Boat.ads,Xl,XL,or_false]at ha ⊢;rcases ha with e|e|e|e|e|e
    ·exact .inl (.inl e)
    ·exact .inr (e▸hp')
    ·exact .inl (.inr (.inr (.inl e)))
    ·exact .inl (.inr (.inr (.inr (.inl e))))
    ·exact .inl (.inr (.inr (.inr (.inr (.inl e)))))
    ·exact .inl (.inr (.inr (.inr (.inr (.inr e)))))
   delta FT;simp!;by_cases gvs:x.A.gives xo=true
   ·have eA:(x.A.giver R.m c xo).ws=x.A.ws++[xo.getD 0]:=if_pos gvs;rcases hxo with e|⟨T,n,eo,ea,rfl,hn⟩
    ·subst e;cases gvs
    rw[gvs];have g1:=jn _ fr _ _ hg;have r1:=jo _ fr;simp!;delta OK
    simp![Fer.mv,r1,runO,valM,g1,vg,gl1,ea]
    refine⟨⟨_,rfl⟩,by rw[Xa];lia,?_⟩
    have eM:x.A.ws.map natM++[MV.int (n:Int)]=(x.A.giver R.m c (some n)).ws.map natM:=by rw[eA,Y1];rfl
    rw[eM];have fy2:=fy.put gl1 n1 ((x.A.giver R.m c (some n)).ws.map natM);have gl2:updM M1 x.gl (.lst ((x.A.giver R.m c (some n)).ws.map natM)) x.gl=_:=X9;have tl2:updM M1 x.gl (.lst ((x.A.giver R.m c (some n)).ws.map natM)) x.tl=_:=(Xb (XN b.n1.1)).trans tl1;have fr2:FrM M (updM M1 x.gl (.lst ((x.A.giver R.m c (some n)).ws.map natM))) x.ads:=λa o e hn=>(Xb (λz=>hn (by simp[Boat.ads,z]))).trans (adF _ fr a o e hn)
    generalize updM M1 x.gl _=M2 at*;delta OJ;simp!;have tn:(x.A.giver R.m c (some n)).tn≤x.A.ws.length:=by
     have:=b.fy.ok.lg1;have:=(b.fy.ok.tb _ (_f (by rw[b.fy.ok.tl];exact b.fy.ok.gl.1))).2
     have:=(b.fy.ok.tb _ (_f (by rw[b.fy.ok.tl];exact b.fy.ok.gl.1))).1
     have:=b.fy.ok.lt1;show x.A.tn≤_;lia
    have hy:BoatAt M2 f W.w (R.m+1) ⟨x.b,p',x.g,x.u,x.gl,x.tl,x.A.giver R.m c (some n)⟩:=⟨fy2,gl2,by
      show M2 x.tl=some (.lst (((x.A.giver R.m c (some n)).ws.take (x.A.giver R.m c (some n)).tn).map natM));rw[tl2,eA,Ha tn];rfl,⟨b.n1.1,n1,n2⟩,b.k,by show R.m<R.m+1;lia,by show x.A.tm<R.m+1;have:=b.tm;lia,λu hu=>by
      have hu:u∈(x.A.giver R.m c (some n)).ws:=hu;rw[eA]at hu;rcases YJ.mp hu with hu|hu
      ·exact b.wd u hu
      ·obtain rfl:u=n:=by simpa using hu
       exact hn⟩
    obtain⟨A1,A2⟩:=h.boat (y:=⟨x.b,p',x.g,x.u,x.gl,x.tl,x.A.giver R.m c (some n)⟩) (mm':=λi=>if i=j then R.m+1 else mm i) hf hx fr2 (by show BoatAt _ _ _ (if j=j then R.m+1 else mm j) _;rw[if_pos rfl];exact hy) rfl rfl rfl (ads _) mm'
    rw[<- ea];exact q {R with bs:=R.bs.set j _} M2 _ _ rfl rfl A1 A2 (.inr (.inl ⟨T,eo,rfl⟩)) (Dq hx (by show(x.A.giver R.m c (some n)).ws.length≤_;rw[eA,Yw];exact Xg _)) (λi ne=>Vx (XN ne))
   ·have eA:(x.A.giver R.m c xo).ws=x.A.ws:=if_neg gvs;rw[Bool.not_eq_true]at gvs;rw[gvs];simp!;delta OL;simp!;have hy:BoatAt M1 f W.w (R.m+1) ⟨x.b,p',x.g,x.u,x.gl,x.tl,x.A.giver R.m c xo⟩:=⟨fy,by
      show M1 x.gl=some (.lst ((x.A.giver R.m c xo).ws.map natM));rw[eA];exact gl1,by
      show M1 x.tl=some (.lst (((x.A.giver R.m c xo).ws.take (x.A.giver R.m c xo).tn).map natM));rw[eA];exact tl1,⟨b.n1.1,n1,n2⟩,b.k,by show R.m<R.m+1;lia,by show x.A.tm<R.m+1;have:=b.tm;lia,by
      show∀u∈(x.A.giver R.m c xo).ws,u<2^W.w;rw[eA];exact b.wd⟩
    obtain⟨A1,A2⟩:=h.boat (y:=⟨x.b,p',x.g,x.u,x.gl,x.tl,x.A.giver R.m c xo⟩) (mm':=λi=>if i=j then R.m+1 else mm i) hf hx (adF _ fr) (by show BoatAt _ _ _ (if j=j then R.m+1 else mm j) _;rw[if_pos rfl];exact hy) rfl rfl rfl (ads _) mm'
    exact q {R with bs:=R.bs.set j _} M1 _ _ rfl rfl A1 A2 (.inl rfl) (Dq hx (by show(x.A.giver R.m c xo).ws.length≤_;rw[eA];exact UE _)) (λi ne=>Vx (XN ne))
  delta OM
  simp![fe,XU,valM,ob,runO]
  by_cases hw:Yu o f.name=true
  ·obtain⟨T,eo⟩:=wsh hw;obtain⟨v0,v1⟩:=hT _ T eo;obtain⟨n,en,hn⟩:=_mQ v0 v1;have ea:askO o ρ W.w=.tup [.str "give",.str f.name,.int (n:Int)]:=by rw[eo];show MV.tup [.str "give",.str f.name,.int (T.val ρ W.w)]=_;rw[en]
   have:=go (some n) _ rfl (.inr ⟨T,n,eo,ea,rfl,hn⟩);rw[if_pos hw]
   simp![ea]
   rw[<- ea];exact this
  ·have:=go none _ rfl (.inl rfl);rw[if_neg hw]
   try simp!
   exact this
 · -- the taker's end
  have zt:f.taker=z:=(hz.resolve_left λe=>cg e.symm).symm;have wsh:Yu o f.name=true->∃y,o=some (.take f.name y):=λe=>by
   rcases o with _|s
   ·cases e
   ·cases s with
    |take g y=>
     obtain rfl:g=f.name:=of_decide_eq_true e;exact⟨y,rfl⟩
    |give g T=>
     obtain rfl:g=f.name:=of_decide_eq_true e;exact absurd ((hE _ rfl) f fm rfl) cg
    |put _ _=>cases e
    |jump _ _=>cases e
  delta FS
  simp![fe,XU,valM,ob,runO]
  refine⟨x.b,x.p,x.g,x.u,x.A,R.m,c,Yu o f.name,rfl,b.fy,VO b.gm hmj,VO b.tm hmj,λM1 fr fy=>?_⟩;have gl1:=fr _ _ b.gv glo;have tl1:=fr _ _ b.tk tlo;have ads:∀(A:Ab),∀a∈(⟨x.b,x.p,x.g,x.u,x.gl,x.tl,A⟩:Boat).ads,a∈x.ads\/M a=none:=λA a ha=>.inl ha;delta OI;simp!;by_cases tks:x.A.takes (Yu o f.name)=true
  ·have eT:takM x.A (Yu o f.name)=.int (x.A.ws.getD x.A.tn 0:Nat):=if_pos tks;have eA:(x.A.taker R.m c (Yu o f.name)).tn=x.A.tn+1:=if_pos tks;have hw:Yu o f.name=true:=((XX _ _).mp tks).1;have hlt:x.A.tn<x.A.ws.length:=by
    have m2:=_f (xs:=x.A.tx) (by rw[b.fy.ok.tl];exact b.fy.ok.gl.1)
    have t1:=b.fy.ok.tb _ m2;have t2:=b.fy.ok.lt1;have t3:XI x.A.tx≠x.A.tn:=of_decide_eq_true ((XX _ _).mp tks).2;lia
   obtain⟨y,eo⟩:=wsh hw;have gd:x.A.ws.getD x.A.tn 0=x.A.ws[x.A.tn]:=by rw[Yo,Xc hlt];rfl
   rw[eT];have t1:=jn _ fr _ _ ht;have r1:=jo _ fr;simp!;delta OG
   simp![Fer.mv,r1,runO,valM,t1,vt,tl1]
   refine⟨⟨_,rfl⟩,by rw[Xa,YI];lia,?_⟩
   have eM:(x.A.ws.take x.A.tn).map natM++[MV.int ((x.A.ws.getD x.A.tn 0:Nat):Int)]=(x.A.ws.take (x.A.tn+1)).map natM:=by
    rw[U2,Xc hlt,Y1,gd];rfl
   rw[eM];have fy2:=fy.put tl1 b.n1.2.2 ((x.A.ws.take (x.A.tn+1)).map natM);have tl2:updM M1 x.tl (.lst ((x.A.ws.take (x.A.tn+1)).map natM)) x.tl=_:=X9;have gl2:updM M1 x.tl (.lst ((x.A.ws.take (x.A.tn+1)).map natM)) x.gl=_:=(Xb b.n1.1).trans gl1;have fr2:FrM M (updM M1 x.tl (.lst ((x.A.ws.take (x.A.tn+1)).map natM))) x.ads:=λa o e hn=>(Xb (λz=>hn (by simp[Boat.ads,z]))).trans (adF _ fr a o e hn)
   generalize updM M1 x.tl _=M2 at*;delta OF
   simp![Fer.mv]
   have hy:BoatAt M2 f W.w (R.m+1) ⟨x.b,x.p,x.g,x.u,x.gl,x.tl,x.A.taker R.m c (Yu o f.name)⟩:=⟨fy2,gl2,by
     show M2 x.tl=some (.lst ((x.A.ws.take (x.A.taker R.m c (Yu o f.name)).tn).map natM));rw[eA];exact tl2,b.n1,b.k,by show x.A.gm<R.m+1;have:=b.gm;lia,by show R.m<R.m+1;lia,b.wd⟩
   obtain⟨A1,A2⟩:=h.boat (y:=⟨x.b,x.p,x.g,x.u,x.gl,x.tl,x.A.taker R.m c (Yu o f.name)⟩) (mm':=λi=>if i=j then R.m+1 else mm i) hf hx fr2 (by show BoatAt _ _ _ (if j=j then R.m+1 else mm j) _;rw[if_pos rfl];exact hy) rfl rfl rfl (ads _) mm'
   exact q {R with bs:=R.bs.set j _} M2 _ _ rfl rfl A1 A2 (.inr (.inr ⟨y,_,eo,by rw[gd];exact b.wd _ (XV hlt),rfl⟩)) (Dq hx (UE _)) (λi ne=>Vx (XN ne))
  ·have eT:takM x.A (Yu o f.name)=.non:=if_neg tks;have eA:(x.A.taker R.m c (Yu o f.name)).tn=x.A.tn:=if_neg tks;rw[eT];simp!;delta OH;simp!;have hy:BoatAt M1 f W.w (R.m+1) ⟨x.b,x.p,x.g,x.u,x.gl,x.tl,x.A.taker R.m c (Yu o f.name)⟩:=⟨fy,gl1,by
     show M1 x.tl=some (.lst ((x.A.ws.take (x.A.taker R.m c (Yu o f.name)).tn).map natM));rw[eA];exact tl1,b.n1,b.k,by show x.A.gm<R.m+1;have:=b.gm;lia,by show R.m<R.m+1;lia,b.wd⟩
   obtain⟨A1,A2⟩:=h.boat (y:=⟨x.b,x.p,x.g,x.u,x.gl,x.tl,x.A.taker R.m c (Yu o f.name)⟩) (mm':=λi=>if i=j then R.m+1 else mm i) hf hx (adF _ fr) (by show BoatAt _ _ _ (if j=j then R.m+1 else mm j) _;rw[if_pos rfl];exact hy) rfl rfl rfl (ads _) mm'
   exact q {R with bs:=R.bs.set j _} M1 _ _ rfl rfl A1 A2 (.inl rfl) (Dq hx (UE _)) (λi ne=>Vx (XN ne))
abbrev GY:SpM:=λvs M Q=>∃(ns:List Str) (ys:List MV) (z:Str) (i:Nat) (y:MV),vs=[.tup ys,.str z]/\(∀(j:Nat) u,ys[j]?=some u->∃x r,u=.tup (.str x::r)/\ns[j]?=some x)/\ns.Nodup/\ns[i]?=some z/\ys[i]?=some y/\Q y M
theorem _92:MonW GY:=by walk_at "m"
theorem _di(T:Txt K mg t):FnOk P w K mg base CX0 1 t.dt t.gP ["row","name"] (liSp K GY):=by
 refine T.bS.F.okM _da (fC (G:=O2) (Φ:=[]) T rfl nl0 nl0) FK _dH (λvs M Q h=>?_) (λvs M Q h=>?_)
 ·obtain⟨_,_,_,_,_,rfl,_⟩:=h;rfl
 obtain⟨ns,ys,z,k,y,rfl,ha,nd,hn,hy,q⟩:=h;show wSs _ _ _ [some (.tup ys),some (.str z),none] M;delta FK O1;simp!;obtain⟨J,hJ⟩:∃J:Nat->Sm->MH->Prop,∀j σ M',J j σ M'↔M'=M/\j≤k/\∃v,σ=[some (.tup ys),some (.str z),v]:=⟨_,λ_ _ _=>Ym⟩;refine⟨J,(hJ _ _ _).mpr ⟨rfl,YK _,_,rfl⟩,λj σ M' h=>trivial,?_,?_⟩
 ·rintro j u σ M' hu h;obtain⟨rfl,hj,v,rfl⟩:=(hJ _ _ _).mp h;have hu:ys[j]?=some u:=hu;obtain⟨x,r,rfl,hx⟩:=ha j u hu;delta O0;simp!;refine Y5 (λe=>?_) (λe=>?_)
  ·subst e;have:=(List.getElem?_inj (XO.mp hx).1 nd).mp (hx.trans hn.symm);subst this;rw[hy]at hu;cases hu;delta NZ;simp!;exact q
  ·refine(hJ _ _ _).mpr ⟨rfl,?_,_,rfl⟩;rcases Nat.lt_or_eq_of_le hj with l|l
   ·exact l
   ·subst l;rw[hx]at hn;exact absurd (Yb hn) e
 ·rintro σ M' h;obtain⟨rfl,hj,v,rfl⟩:=(hJ _ _ _).mp h;have:=(XO.mp hy).1;have hj:ys.length≤k:=hj;lia
abbrev Vo:SpM:=λvs M Q=>∃(W:Wld) (i:Nat) (I:Isl),vs=[W.mv,.str I.name]/\W.Good/\W.isl[i]?=some I/\Q I.mv M
theorem _aq:MonW Vo:=by walk_at "m"
theorem _el(T:Txt K mg t):FnOk P w K mg base CX0 2 t.gB t.cA ["world","name"] (liSp K Vo):=by
 refine T.bG.F.okM _e1 (fC (G:=O4) (Φ:=[("one_called",GY)]) T rfl (fMc ⟨_92,nl0⟩) (fMc ⟨fE T.bS (_di T),nl0⟩)) FL _eU (fun vs M Q h=>?_) (fun vs M Q h=>?_)
 ·obtain⟨_,_,_,rfl,_⟩:=h;rfl
 obtain⟨W,i,I,rfl,G,hI,q⟩:=h;show wSs _ _ _ [some W.mv,some (.str I.name)] M;delta FL O3;rw[Wld.mv];simp!;refine⟨W.ins,W.isl.map Isl.mv,I.name,i,I.mv,rfl,λj u hu=>?_,G.in_nd,UQ hI,by rw[Xq,hI];rfl,q⟩
 obtain⟨hj,rfl⟩:=YQ hu;exact⟨_,_,rfl,UQ (Xc hj)⟩
def GZ(w:Nat)(o:Option Stp)(ρ:Str->Int)(v:MV):Prop:=v=Vl o\/(∃f T,o=some (.give f T)/\v=askO o ρ w)\/∃(f x:Str) (n:Nat),o=some (.take f x)/\n<2^w/\v=.tup [.str "take",.str f,.int n]
theorem RunAt.tick{M:MH}{W:Wld}{r:Addr}{R:RunS}{mm mm':Nat->Int}(h:RunAt M W r R mm)(hm:∀i,i<W.fer.length->mm i≤mm' i)(m:Int):RunAt (updM M r (runO W {R with m:=m})) W r {R with m:=m} mm'/\Kept M (updM M r (runO W {R with m:=m})) r R {R with m:=m}:=by
 have ne:∀a kv,M a=some (.dic kv)->a≠r:=λa kv e z=>by subst z;rw[h.ob]at e;cases e
 have d:∀a kv,M a=some (.dic kv)->updM M r (runO W {R with m:=m}) a=some (.dic kv):=λa kv e=>(Xb (ne a kv e)).trans e;refine⟨⟨X9,d _ _ h.hn,d _ _ h.hw,d _ _ h.hs,d _ _ h.hb,d _ _ h.hg,d _ _ h.ht,h.nl,h.wl,h.sl,h.bl,h.nb,λi I a hI ha=>let⟨k,e,o⟩:=h.wa i I a hI ha;⟨k,d _ _ e,o⟩,λj f x hf hx=>?_,h.sep,h.nd⟩,⟨λa o e hn=>(Xb λz=>hn (by simp[RunS.own,z])).trans e,λa ha=>.inl ha⟩⟩
 have b:=h.ba j f x hf hx;exact b.fr (hm j (XO.mp hf).1) λa ha o e=>(Xb λz=>b.run h.ob (by rw[<- z];exact ha)).trans e
theorem RunAt.le{M:MH}{W:Wld}{r:Addr}{R:RunS}{mm mm':Nat->Int}(h:RunAt M W r R mm)(hm:∀i,mm i≤mm' i):RunAt M W r R mm':={h with ba:=λj f x hf hx=>(h.ba j f x hf hx).fr (hm j) λ_ _ _ e=>e}
theorem RunAt.off{M:MH}{W:Wld}{r:Addr}{R:RunS}{mm:Nat->Int}(h:RunAt M W r R mm){p:Addr}{xs:List MV}(hp:M p=some (.lst xs))(hn:p∉R.own r)(o:MO):RunAt (updM M p o) W r R mm:=by
 have d:∀a kv,M a=some (.dic kv)->updM M p o a=some (.dic kv):=λa kv e=>(Xb λz=>by subst z;rw[hp]at e;cases e).trans e
 refine⟨(Xb λz=>hn (by rw[<- z];exact Ye ..)).trans h.ob,d _ _ h.hn,d _ _ h.hw,d _ _ h.hs,d _ _ h.hb,d _ _ h.hg,d _ _ h.ht,h.nl,h.wl,h.sl,h.bl,h.nb,λi I a hI ha=>let⟨k,e,u⟩:=h.wa i I a hI ha;⟨k,d _ _ e,u⟩,λj f x hf hx=>(h.ba j f x hf hx).fr (UG _) λa ha u e=>(Xb λz=>hn ?_).trans e,h.sep,h.nd⟩
 rw[<- z];exact XR _ (XR _ (XR _ (XR _ (VB.mpr ⟨x,Xz hx,ha⟩))))
abbrev Bq:SpM:=λvs M Q=>∃(r:Addr) (W:Wld) (R:RunS) (i:Nat) (I:Isl) (c:Nat),vs=[.ref r,.str I.name,.int c]/\W.Good/\RunAt M W r R (λ_=>R.m)/\W.isl[i]?=some I/\(∀y∈R.bs,y.A.ws.length≤900)/\
 ∀R' M' v,RunAt M' W r R' (λ_=>R'.m)->Kept M M' r R R'->(∀n,(∀y∈R.bs,y.A.ws.length≤n)->∀y∈R'.bs,y.A.ws.length≤n+1)->Q v M'
theorem RP:MonW Bq:=by walk_at "m"
theorem US{z a b:Str}:inV (toV (.str z)) ([MV.str a,.str b].map toV)=decide (z=a\/z=b):=by
 have:=Gh (z:=z) (zs:=[a,b])
 simpa using this
theorem _fy(T:Txt K mg t):FnOk P w K mg base CX0 53 t.bT t.bR ["self","name","choice"] (liSp K Bq):=by
 refine T.gG.okM _fv (_N (k:=52) (G:=OE) (Φ:=[("island_of",Vo),("two_to",Zq),("what_alone",Vm),("wish",Vg)]) (Ψ:=[("Run_go_on",UR),("Run_ring_ferry",Vn)]) (Χ:=[("island_of",Vo),("two_to",Zq),("what_alone",Vm),("wish",Vg),("Run_go_on",UR),("Run_ring_ferry",Vn)]) rfl (_P T) (_Q T) rfl (fMc ⟨_aq,(fMc ⟨CS,(fMc ⟨_91,(fMc ⟨_fB,(fMc ⟨_as,(fMc ⟨_5C,nl0⟩)⟩)⟩)⟩)⟩)⟩) (fMc ⟨fE T.bG (_el T),(fMc ⟨fE T.aC (CT T),(fMc ⟨fE T.bn (_dh T),(fMc ⟨fE T.bL (_nb T),nl0⟩)⟩)⟩)⟩) (fMc ⟨⟨_,_,rfl,_,_,_,_,(FnOk.mono (_eq T) (by decide)),T.ab,T.ac,T.dU,T.eG⟩,(fMc ⟨⟨_,_,rfl,_,_,_,_,(FnOk.mono (_8Z T) (by decide)),T.ab,T.ac,T.fX,T.eB⟩,nl0⟩)⟩) nl0 (_R T)) FR _g7 (fun vs M Q h=>?_) (fun vs M Q h=>?_)
 ·obtain⟨_,_,_,_,_,_,rfl,_⟩:=h;rfl
 obtain⟨r,W,R,i,I,c,rfl,G,h,hI,hL,q⟩:=h;show wSs _ _ _ [some (.ref r),some (.str I.name),some (.int c),none,none,none,none,none,none,none,none] M;have hi:i<W.isl.length:=(XO.mp hI).1;have im:I∈W.isl:=Xz hI;have ok:=G.io I im;have f6:=G.f6;obtain⟨n,hn⟩:∃n,R.nums[i]?=some n:=⟨_,Xc (by rw[h.nl];exact hi)⟩
 obtain⟨a,ha⟩:∃a,R.ws[i]?=some a:=⟨_,Xc (by rw[h.wl];exact hi)⟩
 obtain⟨kvs,hk,wk⟩:=h.wa i I a hI ha;have ob:=h.ob;have hpn:=h.hn;have hpw:=h.hw;have vn:=h.nml G hI hn;have vw:=h.wdl G hI ha;delta FR OD
 simp![ob,runO,valM]
 refine⟨W,i,I,rfl,G,hI,?_⟩
 simp![Isl.mv]
 delta OC
 simp![ob,runO,valM,hpn,vn]
 delta OB
 simp![ob,runO,valM,Wld.mv,hpw,vw]
 refine⟨_,a,I.stps,n,W.w,kvs,rhoK kvs,I.vars,rfl,.inl rfl,λs hs=>RI (ok.st s hs),h.nb i I n hI hn,G.w1,G.w2,hk,wk.reads ok.nd,?_⟩;rw[_qk];obtain⟨o,ho⟩:∃o,I.stps[n]?=o:=⟨_,rfl⟩;rw[ho];have hE:∀s,o=some s->ZU W.fer I.name s:=λs e=>G.en I im s (Xz (ho.trans e));have hT:∀g T,o=some (.give g T)->0≤T.val (rhoK kvs) W.w/\T.val (rhoK kvs) W.w<2^W.w:=λg T e=>T.val_in G.w1 λy hy=>(wk.at ok.nd ((ok.st _ (Xz (ho.trans e))).2.2.2 y hy)).2;generalize rhoK kvs=ρ at*;delta OA;simp!;refine⟨o,ρ,W.w,rfl,?_⟩;delta Oz;simp!;intro p hp;have s1:=SameM.new hp (.lst []);have hp1:updM M p (.lst []) p=some (.lst []):=X9;have h1:=h.keep s1;have k1:Kept M (updM M p (.lst [])) r R R:=Kept.new s1;have own_some:∀b∈R.own r,∃u,M b=some u:=λb hb=>by
  simp only[RunS.own,Xl,VB]at hb;rcases hb with rfl|rfl|rfl|rfl|⟨x,hx,hb⟩
  ·exact⟨_,ob⟩
  ·exact⟨_,hpn⟩
  ·exact⟨_,hpw⟩
  ·exact⟨_,h.hs⟩
  ·obtain⟨j,hj,rfl⟩:=Y6 hx;obtain⟨u,e,_⟩:=(h.ba j _ _ (Xc (by rw[<- h.bl];exact hj)) (Xc hj)).at_ b hb
   exact⟨u,e⟩
 have pno:p∉R.own r:=λz=>by
  obtain⟨u,e⟩:=own_some p z;rw[hp]at e;cases e
 generalize updM M p _=M1 at*;have ob1:=h1.ob;delta Oy
 simp![ob1,runO,valM,Wld.mv,Xa]
 obtain⟨J,hJ⟩:∃J:Nat->Sm->MH->Prop,∀j σ M',J j σ M'↔∃(R1:RunS) (v:MV) (xs:List MV) (v8 v9 v10:Option MV),RunAt M' W r R1 (λk=>if k<j then R.m+1 else R.m)/\Kept M M' r R R1/\R1.m=R.m/\R1.nums=R.nums/\GZ W.w o ρ v/\M' p=some (.lst xs)/\xs.length≤j/\p∉R1.own r/\(∀k,j≤k->R1.bs[k]?=R.bs[k]?)/\(∀n,(∀y∈R.bs,y.A.ws.length≤n)->∀y∈R1.bs,y.A.ws.length≤n+1)/\
  σ=[some (.ref r),some (.str I.name),some (.int c),some (.tup (I.stps.map Stp.mv)),some (.int n),some (askO o ρ W.w),some v,some (.ref p),v8,v9,v10]:=⟨_,λ_ _ _=>Ym⟩
 refine⟨by lia,by lia,J,(hJ _ _ _).mpr ⟨R,_,[],_,_,_,by simpa using h1,k1,rfl,rfl,.inl rfl,hp1,Xg _,pno,λ_ _=>rfl,λn hn y hy=>Nat.le_succ_of_le (hn y hy),rfl⟩,λj σ M' h=>trivial,?_,?_⟩
 ·rintro j y σ M2 hy hj;obtain⟨R1,v,xs,v8,v9,v10,hR,hK,em,en,hv,hxs,xl,hpo,hbs,hlen,rfl⟩:=(hJ _ _ _).mp hj;obtain⟨hjl,rfl⟩:=B8 hy;have hjl:j<W.fer.length:=by simpa using hjl
  have ej:((0:Int)+(j:Nat))=(j:Nat):=by lia
  have hf:W.fer[j]?=some W.fer[j]:=Xc hjl;generalize W.fer[j]=f at*;have nxt:∀(R2:RunS) (v2:MV) (ys:List MV) (M3:MH) (w8 w9 w10:Option MV),RunAt M3 W r R2 (λk=>if k<j+1 then R.m+1 else R.m)->Kept M M3 r R R2->R2.m=R.m->R2.nums=R.nums->GZ W.w o ρ v2->M3 p=some (.lst ys)->ys.length≤j+1->p∉R2.own r->(∀k,j+1≤k->R2.bs[k]?=R.bs[k]?)->(∀n,(∀y∈R.bs,y.A.ws.length≤n)->∀y∈R2.bs,y.A.ws.length≤n+1)->
    J (j+1) [some (.ref r),some (.str I.name),some (.int c),some (.tup (I.stps.map Stp.mv)),some (.int n),some (askO o ρ W.w),some v2,some (.ref p),w8,w9,w10] M3:=λR2 v2 ys M3 w8 w9 w10 a1 a2 a3 a4 a5 a6 a7 a8 a9 b1=>(hJ _ _ _).mpr ⟨R2,v2,ys,_,_,_,a1,a2,a3,a4,a5,a6,a7,a8,a9,b1,rfl⟩
  have ob2:=hR.ob;have af:atI (W.fer.map Fer.mv) (j:Int)=some f.mv:=YE (by rw[Xq,hf];rfl)
  rw[ej];delta Ox
  simp![ob2,runO,valM,Wld.mv,af]
  delta Ow
  simp![Fer.mv]
  refine⟨rfl,rfl,?_⟩;rw[US];simp!;refine Y5 (λcz=>?_) (λcz=>?_)
  ·delta Ov
   simp![ob2,runO,valM]
   have e8:(8:Int)*(j:Int)=((8*j:Nat):Int):=by lia
   rw[e8];refine⟨8*j,rfl,by lia,?_⟩
   simp!;obtain⟨c2,hc2⟩:∃c2:Nat,(c:Int)/2^(8*j)=(c2:Int):=⟨c/2^(8*j),by rw[Int.natCast_ediv,V7];rfl⟩
   rw[hc2];refine⟨⟨B9 _,Int.lt_of_le_of_lt (Qs (by lia)) (by decide)⟩,?_⟩
   refine⟨r,W,R1,_,j,f,I.name,c2,o,ρ,rfl,G,hR,by rw[em];simp,hf,cz,hE,hT,λy hy=>Y4 (hlen 900 hL y hy) (by decide),λR2 M3 v2 sm a1 a2 a3 a4 a5 a6 a7=>?_⟩
   have hp3:=a4.fr _ _ hxs hpo;have pno2:p∉R2.own r:=λz=>by
    rcases a4.nw p z with y|y
    ·exact hpo y
    ·rw[hxs]at y;cases y
   have a3':RunAt M3 W r R2 (λk=>if k<j+1 then R.m+1 else R.m):=a3.le λk=>by
    show(if k=j then R1.m+1 else if k<j then R.m+1 else R.m)≤_;rw[em];by_cases e1:k=j
    ·subst e1;rw[if_pos rfl,if_pos (BX _)];exact UG _
    ·rw[if_neg e1];by_cases e2:k<j
     ·rw[if_pos e2,if_pos (by lia)];exact UG _
     ·rw[if_neg e2,if_neg (by lia)];exact UG _
   have k3:=hK.trans a4;delta Ou
   simp![Fer.mv,hp3]
   refine⟨⟨_,rfl⟩,by lia,?_⟩
   have r4:=a3'.off hp3 pno2 (.lst (xs++[.tup [.str f.name,.int sm]]));have p4:updM M3 p (.lst (xs++[.tup [.str f.name,.int sm]])) p=some (.lst (xs++[.tup [.str f.name,.int sm]])):=X9;have k4:Kept M (updM M3 p (.lst (xs++[.tup [.str f.name,.int sm]]))) r R R2:=⟨λb u e hb=>(Xb (neM e hp)).trans (k3.fr b u e hb),k3.nw⟩;generalize updM M3 p _=M4 at*;have bs4:∀k,j+1≤k->R2.bs[k]?=R.bs[k]?:=λk hk=>(a7 k (by lia)).trans (hbs k (by lia))
   have ln4:∀n,(∀y∈R.bs,y.A.ws.length≤n)->∀y∈R2.bs,y.A.ws.length≤n+1:=λm hm y hy=>by
    obtain⟨k,hk,rfl⟩:=Y6 hy;have e2:=Xc hk;by_cases e:k=j
    ·subst e;have l2:k<R1.bs.length:=by rw[hR.bl];exact hjl
     have e1:=Xc l2;have:=a6 _ _ e1 e2;have e0:=(hbs k (Xg _)).symm.trans e1;have:=hm _ (Xz e0);lia
    ·rw[a7 k e]at e2;exact hlen m hm _ (Xz e2)
   have fin:∀v3 w8 w9 w10,GZ W.w o ρ v3->J (j+1) [some (.ref r),some (.str I.name),some (.int c),some (.tup (I.stps.map Stp.mv)),some (.int n),some (askO o ρ W.w),some v3,some (.ref p),w8,w9,w10] M4:=λv3 w8 w9 w10 hv3=>nxt R2 v3 _ M4 w8 w9 w10 r4 k4 (a1.trans em) (a2.trans en) hv3 p4 (by rw[Yw];simpa using xl) pno2 bs4 ln4
   delta Ot;rcases a5 with rfl|⟨T,eo,rfl⟩|⟨y,m,eo,hm,rfl⟩
   ·simp!;exact fin _ _ _ _ hv
   ·have ea:askO o ρ W.w=.tup [.str "give",.str f.name,.int (T.val ρ W.w)]:=by rw[eo];rfl
    simp![ea]
    delta FQ;simp!;have:=fin (askO o ρ W.w) (some (.int (j:Int))) (some f.mv) (some (.tup [askO o ρ W.w,.int sm])) (.inr (.inl ⟨_,T,eo,rfl⟩));rw[ea]at this;exact this
   ·simp!;delta FQ;simp!;exact fin _ _ _ _ (.inr (.inr ⟨_,y,m,eo,hm,rfl⟩))
  ·refine nxt R1 v xs M2 _ _ _ (hR.le λk=>?_) hK em en hv hxs (by lia) hpo (λk hk=>hbs k (by lia)) hlen
   show(if k<j then R.m+1 else R.m)≤(if k<j+1 then R.m+1 else R.m);by_cases e2:k<j
   ·rw[if_pos e2,if_pos (by lia)];exact UG _
   ·rw[if_neg e2];by_cases e3:k<j+1
    ·rw[if_pos e3];lia
    ·rw[if_neg e3];exact UG _
 ·rintro σ M2 hj;obtain⟨R1,v,xs,v8,v9,v10,hR,hK,em,en,hv,hxs,xl,hpo,hbs,hlen,rfl⟩:=(hJ _ _ _).mp hj;have ob2:=hR.ob;obtain⟨t1,t2⟩:=hR.tick (mm':=λ_=>R1.m+1) (λk hk=>by rw[em];show(if _ then _ else _)≤_;split<;>lia) (R1.m+1)
  have k2:=hK.trans t2;delta Os
  simp![ob2,runO,valM,putM]
  have eo:updM M2 r (runO W {R1 with m:=R1.m+1})=updM M2 r (.ins "Run" [("world",W.mv),("moment",.int (R1.m+1)),("next_numbers",.ref R1.pn),("words_now",.ref R1.pw),("steps_so_far",.ref R1.ps),("boats",.ref R1.pb),("given_so_far",.ref R1.pg),("taken_so_far",.ref R1.pt)]):=rfl;rw[eo]at t1 k2;generalize updM M2 r _=M3 at*;have ret:∀(R3:RunS) (M4:MH) (D:EndM),D.rt=Q->RunAt M4 W r R3 (fun _=>R3.m)->Kept M M4 r R R3->(∀n,(∀y∈R.bs,y.A.ws.length≤n)->∀y∈R3.bs,y.A.ws.length≤n+1)->∀v8 v9 v10,wSs ([("island_of",Vo),("two_to",Zq),("what_alone",Vm),("wish",Vg),("Run_go_on",UR),("Run_ring_ferry",Vn)]:List (Str×SpM)) B6 D [some (.ref r),some (.str I.name),some (.int c),some (.tup (I.stps.map Stp.mv)),some (.int n),some (askO o ρ W.w),some v,some (.ref p),v8,v9,v10] M4:=by
   intro R3 M4 D hD a1 a2 a3 v8 v9 v10;delta B6;simp!;rw[hD];exact q R3 M4 _ a1 a2 a3
  have stay:∀D:EndM,D.rt=Q->∀v8 v9 v10,wSs ([("island_of",Vo),("two_to",Zq),("what_alone",Vm),("wish",Vg),("Run_go_on",UR),("Run_ring_ferry",Vn)]:List (Str×SpM)) B6 D [some (.ref r),some (.str I.name),some (.int c),some (.tup (I.stps.map Stp.mv)),some (.int n),some (askO o ρ W.w),some v,some (.ref p),v8,v9,v10] M3:=fun D hD=>ret {R1 with m:=R1.m+1} M3 D hD t1 k2 hlen;have ob3:=t1.ob;have go:∀(s:Stp) (wd:MV),o=some s->(∀f x,s=.take f x->∃v:Int,wd=.int v/\0≤v/\v<2^W.w)->∀v8 v9 v10,UR [.ref r,.str I.name,.tup (I.stps.map Stp.mv),wd] M3 (fun _ M4=>wSs ([("island_of",Vo),("two_to",Zq),("what_alone",Vm),("wish",Vg),("Run_go_on",UR),("Run_ring_ferry",Vn)]:List (Str×SpM)) B6 {nx:=fun _ M'=>Q .non M',rt:=Q} [some (.ref r),some (.str I.name),some (.int c),some (.tup (I.stps.map Stp.mv)),some (.int n),some (askO o ρ W.w),some v,some (.ref p),v8,v9,v10] M4):=fun s wd es hw v8 v9 v10=>
   ⟨r,W,{R1 with m:=R1.m+1},_,i,n,I,s,wd,rfl,G,t1,hI,by show R1.nums[i]?=_;rw[en];exact hn,ho.trans es,hw,λR' M4 e1 e2 a1 a2=>ret R' M4 _ rfl (a1.le λ_=>Int.le_of_eq e1.symm) (k2.trans a2) (by rw[e2];exact hlen) v8 v9 v10⟩
  delta Oq;rcases hv with rfl|⟨f,T,es,rfl⟩|⟨f,y,m,es,hm,rfl⟩
  ·rcases o with _|s
   ·simp only[Vl]at stay ⊢;simp!;refine⟨rfl,rfl,?_⟩;rw[US];simp!;exact stay _ rfl _ _ _
   ·cases s with
    |take f x=>
     simp only[Vl]at stay ⊢;simp!;refine⟨rfl,rfl,?_⟩;rw[US];simp!;exact stay _ rfl _ _ _
    |give f T=>
     simp only[Vl]at stay ⊢;simp!;refine⟨rfl,rfl,?_⟩;rw[US];simp!;exact stay _ rfl _ _ _
    |put x T=>
     have:=go _ .non rfl (λf x e=>nomatch e) v8 v9 v10;simp only[Vl]at this ⊢;simp!;refine⟨rfl,rfl,?_⟩;rw[US];simp!;delta B7
     simp![ob3,runO,valM]
     exact this
    |jump T x=>
     have:=go _ .non rfl (λf x e=>nomatch e) v8 v9 v10;simp only[Vl]at this ⊢;simp!;refine⟨rfl,rfl,?_⟩;rw[US];simp!;delta B7
     simp![ob3,runO,valM]
     exact this
  ·have this:=go _ .non es (λf x e=>nomatch e) v8 v9 v10;have ea:askO o ρ W.w=.tup [.str "give",.str f,.int (T.val ρ W.w)]:=by rw[es];rfl
   rw[ea]at this ⊢;simp!;refine⟨rfl,rfl,?_⟩;rw[US];simp!;delta B7
   simp![ob3,runO,valM]
   exact this
  ·have this:=go _ (.int (m:Int)) es (λf x e=>⟨_,rfl,by lia,by
    have e:((2:Int)^W.w)=((2^W.w:Nat):Int):=by rw[V7];rfl
    lia⟩) v8 v9 v10
   simp!;refine⟨rfl,rfl,?_⟩;rw[US];simp!;delta B7
   simp![ob3,runO,valM]
   exact this
theorem RQ{w:Nat}{I:Isl}(nd:I.vars.Nodup)(wd:∀p∈I.prs,0≤p.2/\p.2<2^w):YM (I.prs.map λp=>((Xs p.1:Key),MV.int p.2))=zipK I.vars ((I.prs.map (·.2)).map MV.int)/\WdOk w I (zipK I.vars ((I.prs.map (·.2)).map MV.int)):=by
 have e:∀ps:List (Str×Int),(ps.map λp=>((Xs p.1:Key),MV.int p.2))=zipK (ps.map (·.1)) ((ps.map (·.2)).map MV.int):=λps=>by
  induction ps with
  |nil=>rfl
  |cons p r ih=>rw[Xy,ih];rfl
 refine⟨by rw[e];exact GU (by simp) nd,I.prs.map (·.2),by unfold Isl.vars;simp,rfl,λv hv=>?_⟩
 obtain⟨p,hp,rfl⟩:=XS.mp hv;exact wd p hp
theorem _po(ps:List (Str×Int)):ps.map prV=(ps.map λp=>((Xs p.1:Key),MV.int p.2)).map prM:=by rw[Ys];rfl
theorem RT:∀{ks:List Str} {vs ys:List MV},vs.length=ks.length->ys.length=ks.length->(∀(j:Nat) k v,ks[j]?=some k->vs[j]?=some v->ys[j]?=some (.tup [.str k,v]))->ys=(zipK ks vs).map prM
 |[],[],[],_,_,_=>rfl
 |[],_::_,_,h,_,_=>by cases h
 |[],_,_::_,_,h,_=>by cases h
 |_::_,[],_,h,_,_=>by cases h
 |_::_,_,[],_,h,_=>by cases h
 |k::ks,v::vs,y::ys,h1,h2,h=>by
  have e:=h 0 k v rfl rfl;have e:y=.tup [.str k,v]:=by simpa using e
  rw[e,RT (ks:=ks) (vs:=vs) (ys:=ys) (by simpa using h1) (by simpa using h2) λj k v a b=>by simpa using h (j+1) k v (by simpa using a) (by simpa using b)]
  rfl
theorem FrM.grow{M M1 M2:MH}{l:List Addr}(h:FrM M M1 l)(s:SameM M1 M2):FrM M M2 l:=λa o e n=>s a o (h a o e n)
theorem Ct{α β:Type}{d:α}{f:α->β}{L:List α}{n:Nat}(h:L.length=n):(Xr n).map (λj=>f (L.getD j d))=L.map f:=by
 apply BE;intro i;rw[Xq,Xq];by_cases hi:i<n
 ·rw[Wr hi,Xc (by rw[h];exact hi),Ch,Ch,Yo,Xc (by rw[h];exact hi)];rfl
 ·rw[UA (by rw[UB];lia),UA (by lia)];rfl
def abOf(W:Wld)(j:Nat):Ab:=match W.fer[j]? with
 |some f=>ab0 f.k f.st
 |none=>ab0 0 1
def Zg(W:Wld)(Ns:List (List Addr))(gs ts:List Addr)(j:Nat):Boat:=⟨(Ns.getD j []).getD 0 default,(Ns.getD j []).getD 1 default,(Ns.getD j []).getD 2 default,(Ns.getD j []).getD 3 default,gs.getD j default,ts.getD j default,abOf W j⟩
theorem RU:∀{L:List (List Addr)} {i j:Nat} {x y:List Addr},L.flatten.Nodup->L[i]?=some x->L[j]?=some y->i≠j->∀a∈x,a∉y
 |[],_,_,_,_,_,h,_,_=>by simp at h
 |l::L,0,0,_,_,_,_,_,ne=>absurd rfl ne
 |l::L,0,j+1,x,y,nd,h1,h2,_=>λa ha hb=>by
  rw[ZA,Zi]at nd;obtain rfl:l=x:=by simpa using h1
  exact nd.2.2 a ha a (VA.mpr ⟨y,Xz (by simpa using h2),hb⟩) rfl
 |l::L,i+1,0,x,y,nd,h1,h2,_=>λa ha hb=>by
  rw[ZA,Zi]at nd;obtain rfl:l=y:=by simpa using h2
  exact nd.2.2 a hb a (VA.mpr ⟨x,Xz (by simpa using h1),ha⟩) rfl
 |l::L,i+1,j+1,x,y,nd,h1,h2,ne=>by
  rw[ZA,Zi]at nd;exact RU nd.2.1 (by simpa using h1) (by simpa using h2) (λe=>ne (by rw[e]))
theorem _X{L:List Addr}{j:Nat}(h:j<L.length):L.getD j default∈L/\L[j]?=some (L.getD j default):=by
 rw[Yo,Xc h];exact⟨XV h,rfl⟩
theorem RV{L:List Addr}(nd:L.Nodup){i j:Nat}(hi:i<L.length)(hj:j<L.length)(ne:i≠j):L.getD i default≠L.getD j default:=λe=>by
 have:=(List.getElem?_inj hi nd).mp ((_X hi).2.trans ((congrArg some e).trans (_X hj).2.symm));exact ne this
abbrev Br:SpM:=fun vs M Q=>∃(r:Addr) (W:Wld),vs=[.ref r,W.mv]/\M r=some (.ins "Run" [])/\W.Good/\∀R M',FrM M M' [r]->RunAt M' W r R (fun _=>R.m)->(∀y∈R.bs,y.A.ws.length=0)->(∀a∈R.own r,a=r\/M a=none)->Q .non M'
theorem RW:MonW Br:=by walk_at "m"
theorem _b5(T:Txt K mg t):FnOk P w K mg base CX0 6 t.aV t.bJ ["self","world"] (liSp K Br):=by
 refine T.dX.okM _aS (_N (k:=5) (G:=Op) (Φ:=[]) (Ψ:=[("Ferry___init__",Bi)]) (Χ:=[("Ferry___init__",Bi)]) rfl (_P T) (_Q T) rfl (fMc ⟨Rq,nl0⟩) nl0 nl0 (fMc ⟨⟨_,_,rfl,_,_,_,_,_,(by decide:4+1≤5),_90 T,T.ay,T.ik,T.cq,T.fu⟩,nl0⟩) (_R T)) FP _bG (fun vs M Q h=>?_) (fun vs M Q h=>?_)
 ·obtain⟨_,_,rfl,_⟩:=h;rfl
 obtain⟨r,W,rfl,hr,G,q⟩:=h;show wSs _ _ _ [some (.ref r),some W.mv] M;have hΦ:=(UL (Φ:=[("Ferry___init__",Bi)]) (fMc ⟨Rq,nl0⟩));have i5:=G.i5;have f6:=G.f6;have dins:∀{ps:List MV},ps.length=W.isl.length->YM (zipK W.ins ps)=zipK W.ins ps:=λe=>GU (by rw[Wm];exact e) G.in_nd
 have dfns:∀{ps:List MV},ps.length=W.fer.length->YM (zipK W.fns ps)=zipK W.fns ps:=λe=>GU (by rw[Do];exact e) G.fn_nd
 delta FP Oo
 simp![hr,putM]
 have fr0:=(FrM.refl M [r]).upd (Y3.mpr rfl) (.ins "Run" [("world",W.mv)]);have r0:updM M r (.ins "Run" [("world",W.mv)]) r=some (.ins "Run" [("world",W.mv)]):=X9;generalize updM M r _=M0 at*;delta On
 simp![r0,putM]
 have fr1:=fr0.upd (Y3.mpr rfl) (.ins "Run" [("world",W.mv),("moment",.int 0)]);have r1:updM M0 r (.ins "Run" [("world",W.mv),("moment",.int 0)]) r=some (.ins "Run" [("world",W.mv),("moment",.int 0)]):=X9;generalize updM M0 r _=M1 at*;delta Om;simp!;refine _O W.isl Isl.mv (λI=>.tup [.str I.name,.int 0]) ?_ ?_ hΦ λD hD=>?_
 ·simp![Wld.mv]
  exact⟨rfl,by lia,trivial⟩
 ·intro I hI M' s;simp only[sCm,Xy,Yc,Yp,Yq,Yj,Y8]
  simp![Isl.mv]
  try exact⟨rfl,rfl⟩
 rw[RF W.isl (·.name) (λ_=>.int 0)];have s2:=SameM.new hD (.lst ((zipK (W.isl.map (·.name)) (W.isl.map λ_=>MV.int 0)).map prM));have d2:updM M1 D (.lst ((zipK (W.isl.map (·.name)) (W.isl.map λ_=>MV.int 0)).map prM)) D=some (.lst ((zipK (W.isl.map (·.name)) (W.isl.map λ_=>MV.int 0)).map prM)):=X9;generalize updM M1 D _=M2 at*;simp!;refine⟨_,d2,λpn hpn=>?_⟩;have e2:YM (zipK (W.isl.map (·.name)) (W.isl.map λ_=>MV.int 0))=zipK W.ins ((W.isl.map λ_=>0).map natM):=by rw[Ys];exact dins (by rw[Xa])
 rw[e2];have s3:=s2.trans (SameM.new hpn (.dic (zipK W.ins ((W.isl.map λ_=>0).map natM))));have hn3:updM M2 pn (.dic (zipK W.ins ((W.isl.map λ_=>0).map natM))) pn=some (.dic (zipK W.ins ((W.isl.map λ_=>0).map natM))):=X9;have rpn:pn≠r:=(neM (s2 _ _ r1) hpn).symm;have f_pn:M1 pn=none:=s2.free hpn;generalize updM M2 pn _=M3 at*;have r3:=s3 _ _ r1
 simp![r3,putM]
 obtain⟨X,hX⟩:∃X,X=MO.ins "Run" [("world",W.mv),("moment",.int 0),("next_numbers",.ref pn)]:=⟨_,rfl⟩;rw[<- hX];have fr4:=(fr1.grow s3).upd (Y3.mpr rfl) X;have r4:updM M3 r X r=some X:=X9;have hn4:updM M3 r X pn=_:=(Xb rpn).trans hn3;generalize updM M3 r _=M4 at*;subst hX;delta Ol;simp!;refine GV W.isl Isl.mv (·.name) (λI=>.dic (zipK I.vars ((I.prs.map (·.2)).map MV.int))) (λM'=>M'=M4) ?_ ?_ hΦ λD5 ws M5 hD5 s5 wl wnd Dn5 wfree wat hd5=>?_
 ·simp![Wld.mv]
  first|exact .inl ⟨trivial,rfl⟩|exact⟨rfl,by lia,.inl ⟨trivial,rfl⟩,rfl⟩|exact⟨rfl,by lia,.inl ⟨trivial,rfl⟩⟩|exact⟨by lia,.inl ⟨trivial,rfl⟩⟩|exact⟨rfl,.inl ⟨trivial,rfl⟩⟩
 ·intro I hI Ma M' e s;have ok:=G.io I hI;simp only[sCm,Xy,Yc,Yp,Yq,Yj,Y8]
  simp![Isl.mv]
  refine⟨_,_po I.prs,λp hp=>?_⟩;exact⟨p,hp,rfl,by rw[(RQ (w:=W.w) ok.nd ok.wd).1]⟩
 simp!;refine⟨_,hd5,λpw hpw=>?_⟩;have e5:YM (zipK (W.isl.map (·.name)) (ws.map MV.ref))=zipK W.ins (ws.map MV.ref):=dins (by rw[Xa];exact wl)
 rw[e5];have s6:=s5.trans (SameM.new hpw (.dic (zipK W.ins (ws.map MV.ref))));have hw6:updM M5 pw (.dic (zipK W.ins (ws.map MV.ref))) pw=some (.dic (zipK W.ins (ws.map MV.ref))):=X9;have jy:∀(j:Nat) a x,ws[j]?=some a->W.isl[j]?=some x->updM M5 pw (.dic (zipK W.ins (ws.map MV.ref))) a=some (.dic (zipK x.vars ((x.prs.map (·.2)).map MV.int))):=λj a x h1 h2=>SameM.new hpw _ _ _ (wat j a x h1 h2);have wpw:pw∉ws:=λz=>by
  obtain⟨j,hj,e⟩:=Y6 z;have:=wat j _ _ (Xc hj) (Xc (by rw[<- wl];exact hj))
  rw[e,hpw]at this;cases this
 have rpw:pw≠r:=(neM (s5 _ _ r4) hpw).symm;have rws:∀a∈ws,a≠r:=λa ha=>(neM r4 (wfree a ha)).symm;have jz:M4 pw=none:=s5.free hpw;generalize updM M5 pw _=M6 at*;have r6:=s6 _ _ r4;have hn6:=s6 _ _ hn4;have wpn:pn∉ws:=λz=>absurd hn4 (by rw[wfree _ z];intro y;cases y)
 have pnw:pn≠pw:=neM hn4 jz
 simp![r6,putM]
 obtain⟨X,hX⟩:∃X,X=MO.ins "Run" [("world",W.mv),("moment",.int 0),("next_numbers",.ref pn),("words_now",.ref pw)]:=⟨_,rfl⟩;rw[<- hX];have fr7:=(fr4.grow s6).upd (Y3.mpr rfl) X;have r7:updM M6 r X r=some X:=X9;have hn7:updM M6 r X pn=_:=(Xb rpn).trans hn6;have hw7:updM M6 r X pw=_:=(Xb rpw).trans hw6;have jq:∀(j:Nat) a x,ws[j]?=some a->W.isl[j]?=some x->updM M6 r X a=some (.dic (zipK x.vars ((x.prs.map (·.2)).map MV.int))):=λj a x h1 h2=>(Xb (rws a (Xz h1))).trans (jy j a x h1 h2);generalize updM M6 r _=M7 at*;subst hX;delta Oj;simp!;refine _O W.isl Isl.mv (λI=>.tup [.str I.name,.int 0]) ?_ ?_ hΦ λD8 hD8=>?_
 ·simp![Wld.mv]
  exact⟨rfl,by lia,trivial⟩
 ·intro I hI M' s;simp only[sCm,Xy,Yc,Yp,Yq,Yj,Y8]
  simp![Isl.mv]
  try exact⟨rfl,rfl⟩
 rw[RF W.isl (·.name) (λ_=>.int 0)];have s8:=SameM.new hD8 (.lst ((zipK (W.isl.map (·.name)) (W.isl.map λ_=>MV.int 0)).map prM));have d8:updM M7 D8 (.lst ((zipK (W.isl.map (·.name)) (W.isl.map λ_=>MV.int 0)).map prM)) D8=some (.lst ((zipK (W.isl.map (·.name)) (W.isl.map λ_=>MV.int 0)).map prM)):=X9;generalize updM M7 D8 _=M8 at*;simp!;refine⟨_,d8,λps hps=>?_⟩;rw[e2];have s9:=s8.trans (SameM.new hps (.dic (zipK W.ins ((W.isl.map λ_=>0).map natM))));have hs9:updM M8 ps (.dic (zipK W.ins ((W.isl.map λ_=>0).map natM))) ps=some (.dic (zipK W.ins ((W.isl.map λ_=>0).map natM))):=X9;have rps:ps≠r:=(neM (s8 _ _ r7) hps).symm;have ji:M7 ps=none:=s8.free hps;generalize updM M8 ps _=M9 at*;have r9:=s9 _ _ r7;have hn9:=s9 _ _ hn7;have hw9:=s9 _ _ hw7;have pns:pn≠ps:=neM hn7 ji;have pws:pw≠ps:=neM hw7 ji;have wps:ps∉ws:=λz=>by
  obtain⟨j,hj,e⟩:=Y6 z;have:=jq j _ _ (Xc hj) (Xc (by rw[<- wl];exact hj))
  rw[e,ji]at this;cases this
 simp![r9,putM]
 obtain⟨X,hX⟩:∃X,X=MO.ins "Run" [("world",W.mv),("moment",.int 0),("next_numbers",.ref pn),("words_now",.ref pw),("steps_so_far",.ref ps)]:=⟨_,rfl⟩;rw[<- hX];have jA:=(fr7.grow s9).upd (Y3.mpr rfl) X;have r10:updM M9 r X r=some X:=X9;have j9:∀a o,M9 a=some o->a≠r->updM M9 r X a=some o:=λa o e z=>(Xb z).trans e;generalize updM M9 r _=M10 at*;subst hX;have jB:=j9 _ _ hn9 rpn;have jC:=j9 _ _ hw9 rpw;have jD:=j9 _ _ hs9 rps;have jp:∀(j:Nat) a x,ws[j]?=some a->W.isl[j]?=some x->M10 a=some (.dic (zipK x.vars ((x.prs.map (·.2)).map MV.int))):=λj a x h1 h2=>j9 _ _ (s9 _ _ (jq j a x h1 h2)) (rws a (Xz h1));clear j9 s9 s8 s6 s5 s3 s2 jq jy wat d8 d2 hd5 r9 r7 r6 r4 r3 hn9 hn7 hn6 hn4 hn3 hw9 hw7 hw6 hs9;delta Oi;simp!;refine RG W.fer Fer.mv (λf y N M2=>∃b p g u,N=[b,p,g,u]/\y=.tup [.str f.name,.ref b]/\FyAt M2 b p g u (ab0 f.k f.st)) (λM'=>M'=M10) ?_ ?_ ?_ hΦ λD11 ys Ns M11 hD11 s11 yl Nl Nnd DN Nfree Nat_ hd11=>?_
 ·rintro f y N M2 M3 hk ⟨b,p,g,u,rfl,e1,fy⟩;obtain⟨pl,hp,hpl⟩:=fy.pls;exact⟨b,p,g,u,rfl,e1,⟨fy.ok,(hk b (by simp)).trans fy.fe,⟨pl,(hk p (by simp)).trans hp,hpl⟩,(hk g (by simp)).trans fy.gi,(hk u (by simp)).trans fy.ta,fy.ne⟩⟩
 ·simp![Wld.mv]
  first|exact .inl ⟨trivial,rfl⟩|exact⟨rfl,by lia,.inl ⟨trivial,rfl⟩,rfl⟩|exact⟨rfl,by lia,.inl ⟨trivial,rfl⟩⟩|exact⟨by lia,.inl ⟨trivial,rfl⟩⟩|exact⟨rfl,.inl ⟨trivial,rfl⟩⟩
 ·intro f hf Ma M' e s;have fo:=G.fo f hf;simp only[sCm,Xy,Yc,Yp,Yq,Yj,Y8]
  simp![Fer.mv]
  intro b hb;refine⟨b,f.k,f.st,rfl,X9,by have:=fo.k3;lia,fo.s1,fo.s3,λp g u M3 hp hg hu fr fy=>?_⟩
  have fb:updM M' b (.ins "Ferry" []) b=some (.ins "Ferry" []):=X9;have ne:∀z,updM M' b (.ins "Ferry" []) z=none->z≠b/\M' z=none:=fun z hz=>by
   have n:z≠b:=(neM fb hz).symm;exact⟨n,by rw[Xb n]at hz;exact hz⟩
  obtain⟨pl,hpl,_⟩:=fy.pls;have pg:p≠g:=λz=>by rw[z,fy.gi]at hpl;cases hpl
  have pu:p≠u:=λz=>by rw[z,fy.ta]at hpl;cases hpl
  have sm:SameM M' M3:=λa o ea=>by
   have n:a≠b:=neM ea hb;exact fr a o ((Xb n).trans ea) (by simpa using n)
  try simp!
  refine⟨sm,[b,p,g,u],?_,λa ha=>?_,b,p,g,u,rfl,rfl,fy⟩
  ·simp only[YB,Xl,XL,or_false,not_or,not_false_eq_true,List.nodup_nil,and_true];exact⟨⟨(ne p hp).1.symm,(ne g hg).1.symm,(ne u hu).1.symm⟩,⟨pg,pu⟩,fy.ne⟩
  ·simp only[Xl,XL,or_false]at ha;rcases ha with rfl|rfl|rfl|rfl
   ·exact⟨hb,_,fy.fe⟩
   ·exact⟨(ne _ hp).2,_,hpl⟩
   ·exact⟨(ne _ hg).2,_,fy.gi⟩
   ·exact⟨(ne _ hu).2,_,fy.ta⟩
 have eys:ys=(zipK W.fns (Ns.map λN=>MV.ref (N.getD 0 default))).map prM:=by
  refine RT (by rw[Xa,Do];exact Nl) (by rw[Do];exact yl) λj k v hk hv=>?_
  have hj:j<W.fer.length:=by rw[<- Do];exact(XO.mp hk).1
  have hfj:=Xc hj;rw[Dm hfj]at hk;cases hk;have hN:=Xc (show j<Ns.length by rw[Nl];exact hj)
  have hY:=Xc (show j<ys.length by rw[yl];exact hj)
  rw[Xq,hN]at hv;cases hv;obtain⟨b,p,g,u,eN,ey,_⟩:=Nat_ j _ _ _ hfj hY hN;rw[hY,ey,eN];rfl
 rw[eys]at hd11;simp!;refine⟨_,hd11,λpb hpb=>?_⟩;rw[dfns (by rw[Xa];exact Nl)]
 have s12:=s11.trans (SameM.new hpb (.dic (zipK W.fns (Ns.map λN=>MV.ref (N.getD 0 default)))));have hb12:updM M11 pb (.dic (zipK W.fns (Ns.map λN=>MV.ref (N.getD 0 default)))) pb=some (.dic (zipK W.fns (Ns.map λN=>MV.ref (N.getD 0 default)))):=X9;have rpb:pb≠r:=(neM (s11 _ _ r10) hpb).symm;have jj:M10 pb=none:=s11.free hpb;have rN:∀N∈Ns,∀a∈N,a≠r:=λN hN a ha=>(neM r10 (Nfree a (VA.mpr ⟨N,hN,ha⟩))).symm;obtain⟨Fx,hFx⟩:∃Fx:MH->Prop,∀X,Fx X↔(X pn=some (.dic (zipK W.ins ((W.isl.map λ_=>0).map natM)))/\X pw=some (.dic (zipK W.ins (ws.map MV.ref)))/\X ps=some (.dic (zipK W.ins ((W.isl.map λ_=>0).map natM)))/\X pb=some (.dic (zipK W.fns (Ns.map λN=>MV.ref (N.getD 0 default))))/\(∀(j:Nat) a x,ws[j]?=some a->W.isl[j]?=some x->X a=some (.dic (zipK x.vars ((x.prs.map (·.2)).map MV.int))))/\∀(j:Nat) f N,W.fer[j]?=some f->Ns[j]?=some N->∃b p g u,N=[b,p,g,u]/\FyAt X b p g u (ab0 f.k f.st)):=⟨_,λ_=>Ym⟩;have fx:∀X Y,(∀a o,X a=some o->a≠r->Y a=some o)->Fx X->Fx Y:=λX Y k h=>by
  obtain⟨h1,h2,h3,h4,h5,h6⟩:=(hFx X).mp h;refine(hFx Y).mpr ⟨k _ _ h1 rpn,k _ _ h2 rpw,k _ _ h3 rps,k _ _ h4 rpb,λj a x e1 e2=>k _ _ (h5 j a x e1 e2) (rws a (Xz e1)),λj f N e1 e2=>?_⟩;obtain⟨b,p,g,u,rfl,fy⟩:=h6 j f N e1 e2;have rn:=rN _ (Xz e2);obtain⟨pl,hp,hpl⟩:=fy.pls;exact⟨b,p,g,u,rfl,⟨fy.ok,k _ _ fy.fe (rn b (by simp)),⟨pl,k _ _ hp (rn p (by simp)),hpl⟩,k _ _ fy.gi (rn g (by simp)),k _ _ fy.ta (rn u (by simp)),fy.ne⟩⟩
 have F12:Fx (updM M11 pb (.dic (zipK W.fns (Ns.map λN=>MV.ref (N.getD 0 default))))):=(hFx _).mpr ⟨s12 _ _ jB,s12 _ _ jC,s12 _ _ jD,hb12,λj a x e1 e2=>s12 _ _ (jp j a x e1 e2),λj f N e1 e2=>by
  have hY:=Xc (show j<ys.length by rw[yl];exact(XO.mp e1).1)
  obtain⟨b,p,g,u,e,_,fy⟩:=Nat_ j f _ N e1 hY e2;exact⟨b,p,g,u,e,fy.keep (SameM.new hpb _)⟩⟩
 have Nsome:∀N∈Ns,∀a∈N,a≠pb:=λN hN a ha=>by
  obtain⟨j,hj,rfl⟩:=Y6 hN;have hj2:j<W.fer.length:=by rw[<- Nl];exact hj
  obtain⟨b,p,g,u,e,_,fy⟩:=Nat_ j _ _ _ (Xc hj2) (Xc (show j<ys.length by rw[yl];exact hj2)) (Xc hj)
  obtain⟨pl,hp,_⟩:=fy.pls;rw[e]at ha;simp only[Xl,XL,or_false]at ha;rcases ha with rfl|rfl|rfl|rfl
  ·exact neM fy.fe hpb
  ·exact neM hp hpb
  ·exact neM fy.gi hpb
  ·exact neM fy.ta hpb
 have j6:pn≠pb/\pw≠pb/\ps≠pb/\pb∉ws:=⟨neM jB jj,neM jC jj,neM jD jj,λz=>by
  obtain⟨j,hj,e⟩:=Y6 z;have:=jp j _ _ (Xc hj) (Xc (by rw[<- wl];exact hj))
  rw[e,jj]at this;cases this⟩
 generalize updM M11 pb _=M12 at*;have r12:=s12 _ _ r10
 simp![r12,putM]
 obtain⟨X,hX⟩:∃X,X=MO.ins "Run" [("world",W.mv),("moment",.int 0),("next_numbers",.ref pn),("words_now",.ref pw),("steps_so_far",.ref ps),("boats",.ref pb)]:=⟨_,rfl⟩;rw[<- hX];have jE:=(jA.grow s12).upd (Y3.mpr rfl) X;have r13:updM M12 r X r=some X:=X9;have F13:=fx _ (updM M12 r X) (λa o e z=>(Xb z).trans e) F12;generalize updM M12 r _=M13 at*;subst hX;clear F12 r12 s12 s11 hd11 eys;delta Oh;simp!;refine GV W.fer Fer.mv (·.name) (λ_=>.lst []) (λM'=>M'=M13) ?_ ?_ hΦ λD14 gs M14 hD14 s14 gsl gnd Dg gfree gat hd14=>?_
 ·simp![Wld.mv]
  first|exact .inl ⟨trivial,rfl⟩|exact⟨rfl,by lia,.inl ⟨trivial,rfl⟩,rfl⟩|exact⟨rfl,by lia,.inl ⟨trivial,rfl⟩⟩|exact⟨by lia,.inl ⟨trivial,rfl⟩⟩|exact⟨rfl,.inl ⟨trivial,rfl⟩⟩
 ·intro f hf Ma M' e s;simp only[sCm,Xy,Yc,Yp,Yq,Yj,Y8]
  simp![Fer.mv]
  exact λp hp=>⟨p,hp,rfl,rfl⟩
 simp!;refine⟨_,hd14,λpg hpg=>?_⟩;have e14:YM (zipK (W.fer.map (·.name)) (gs.map MV.ref))=zipK W.fns (gs.map MV.ref):=dfns (by rw[Xa];exact gsl)
 rw[e14];have s15:=s14.trans (SameM.new hpg (.dic (zipK W.fns (gs.map MV.ref))));have jF:updM M14 pg (.dic (zipK W.fns (gs.map MV.ref))) pg=some (.dic (zipK W.fns (gs.map MV.ref))):=X9;have rpg:pg≠r:=(neM (s14 _ _ r13) hpg).symm;have ja:M13 pg=none:=s14.free hpg;have rgs:∀a∈gs,a≠r:=λa ha=>(neM r13 (gfree a ha)).symm;have g15:∀a∈gs,updM M14 pg (.dic (zipK W.fns (gs.map MV.ref))) a=some (.lst []):=λa ha=>by
  obtain⟨j,hj,rfl⟩:=Y6 ha;exact SameM.new hpg _ _ _ (gat j _ _ (Xc hj) (Xc (by rw[<- gsl];exact hj)))
 generalize updM M14 pg _=M15 at*;have r15:=s15 _ _ r13;have F15:=fx _ M15 (λa o e _=>s15 a o e) F13
 simp![r15,putM]
 obtain⟨X,hX⟩:∃X,X=MO.ins "Run" [("world",W.mv),("moment",.int 0),("next_numbers",.ref pn),("words_now",.ref pw),("steps_so_far",.ref ps),("boats",.ref pb),("given_so_far",.ref pg)]:=⟨_,rfl⟩;rw[<- hX];have jG:=(jE.grow s15).upd (Y3.mpr rfl) X;have r16:updM M15 r X r=some X:=X9;have jk:∀a o,M15 a=some o->a≠r->updM M15 r X a=some o:=λa o e z=>(Xb z).trans e;generalize updM M15 r _=M16 at*;subst hX;have F16:=fx _ M16 jk F15;have jH:=jk _ _ jF rpg;have g16:∀a∈gs,M16 a=some (.lst []):=λa ha=>jk _ _ (g15 a ha) (rgs a ha);clear jk g15 jF r15 F15 s15 s14 hd14 gat;delta Og;simp!;refine GV W.fer Fer.mv (·.name) (λ_=>.lst []) (λM'=>M'=M16) ?_ ?_ hΦ λD17 ts M17 hD17 s17 tsl tnd Dt tfree tat hd17=>?_
 ·simp![Wld.mv]
  first|exact .inl ⟨trivial,rfl⟩|exact⟨rfl,by lia,.inl ⟨trivial,rfl⟩,rfl⟩|exact⟨rfl,by lia,.inl ⟨trivial,rfl⟩⟩|exact⟨by lia,.inl ⟨trivial,rfl⟩⟩|exact⟨rfl,.inl ⟨trivial,rfl⟩⟩
 ·intro f hf Ma M' e s;simp only[sCm,Xy,Yc,Yp,Yq,Yj,Y8]
  simp![Fer.mv]
  exact λp hp=>⟨p,hp,rfl,rfl⟩
 simp!;refine⟨_,hd17,λpt hpt=>?_⟩;have e17:YM (zipK (W.fer.map (·.name)) (ts.map MV.ref))=zipK W.fns (ts.map MV.ref):=dfns (by rw[Xa];exact tsl)
 rw[e17];have s18:=s17.trans (SameM.new hpt (.dic (zipK W.fns (ts.map MV.ref))));have ht18:updM M17 pt (.dic (zipK W.fns (ts.map MV.ref))) pt=some (.dic (zipK W.fns (ts.map MV.ref))):=X9;have rpt:pt≠r:=(neM (s17 _ _ r16) hpt).symm;have j8:M16 pt=none:=s17.free hpt;have rts:∀a∈ts,a≠r:=λa ha=>(neM r16 (tfree a ha)).symm;have t18:∀a∈ts,updM M17 pt (.dic (zipK W.fns (ts.map MV.ref))) a=some (.lst []):=λa ha=>by
  obtain⟨j,hj,rfl⟩:=Y6 ha;exact SameM.new hpt _ _ _ (tat j _ _ (Xc hj) (Xc (by rw[<- tsl];exact hj)))
 generalize updM M17 pt _=M18 at*;have r18:=s18 _ _ r16;have F18:=fx _ M18 (λa o e _=>s18 a o e) F16
 simp![r18,putM]
 obtain⟨X,hX⟩:∃X,X=MO.ins "Run" [("world",W.mv),("moment",.int 0),("next_numbers",.ref pn),("words_now",.ref pw),("steps_so_far",.ref ps),("boats",.ref pb),("given_so_far",.ref pg),("taken_so_far",.ref pt)]:=⟨_,rfl⟩;rw[<- hX];have fr19:=(jG.grow s18).upd (Y3.mpr rfl) X;have r19:updM M18 r X r=some X:=X9;have jb:∀a o,M18 a=some o->a≠r->updM M18 r X a=some o:=λa o e z=>(Xb z).trans e;generalize updM M18 r _=M19 at*;subst hX;have F19:=fx _ M19 jb F18;have hg19:=jb _ _ (s18 _ _ jH) rpg;have g19:∀a∈gs,M19 a=some (.lst []):=λa ha=>jb _ _ (s18 _ _ (g16 a ha)) (rgs a ha);have ht19:=jb _ _ ht18 rpt;have t19:∀a∈ts,M19 a=some (.lst []):=λa ha=>jb _ _ (t18 a ha) (rts a ha);obtain⟨hn,hw,hs,hb,wat,nat⟩:=(hFx _).mp F19;obtain⟨n13,w13,p13,b13,wat13,nat13⟩:=(hFx _).mp F13;obtain⟨n16,w16,p16,b16,wat16,nat16⟩:=(hFx _).mp F16;have Nin:∀(X:MH),(∀(j:Nat) f N,W.fer[j]?=some f->Ns[j]?=some N->∃b p g u,N=[b,p,g,u]/\FyAt X b p g u (ab0 f.k f.st))->∀N∈Ns,∀a∈N,∃o,X a=some o:=λX hX N hN a ha=>by
  obtain⟨j,hj,rfl⟩:=Y6 hN;obtain⟨b,p,g,u,e,fy⟩:=hX j _ _ (Xc (by rw[<- Nl];exact hj)) (Xc hj)
  obtain⟨pl,hp,_⟩:=fy.pls;rw[e]at ha;simp only[Xl,XL,or_false]at ha;rcases ha with rfl|rfl|rfl|rfl
  ·exact⟨_,fy.fe⟩
  ·exact⟨_,hp⟩
  ·exact⟨_,fy.gi⟩
  ·exact⟨_,fy.ta⟩
 have Ng:∀N∈Ns,∀a∈N,a∉gs:=λN hN a ha z=>by
  obtain⟨o,e⟩:=Nin _ nat13 N hN a ha;rw[gfree a z]at e;cases e
 have Nt:∀N∈Ns,∀a∈N,a∉ts:=λN hN a ha z=>by
  obtain⟨o,e⟩:=Nin _ nat16 N hN a ha;rw[tfree a z]at e;cases e
 have gt:∀a∈gs,a∉ts:=λa ha z=>by
  have:=g16 a ha;rw[tfree a z]at this;cases this
 have at_:∀(j:Nat) f,W.fer[j]?=some f->∃b p g u,Ns[j]?=some [b,p,g,u]/\FyAt M19 b p g u (ab0 f.k f.st)/\Zg W Ns gs ts j=⟨b,p,g,u,gs.getD j default,ts.getD j default,ab0 f.k f.st⟩:=λj f hf=>by
  have hj:j<Ns.length:=by rw[Nl];exact(XO.mp hf).1
  have hN:=Xc hj;obtain⟨b,p,g,u,e,fy⟩:=nat j f _ hf hN;rw[e]at hN;refine⟨b,p,g,u,hN,fy,?_⟩;have eg:Ns.getD j []=[b,p,g,u]:=by rw[Yo,hN];rfl
  unfold Zg abOf;rw[hf,eg];rfl
 have bat:∀(j:Nat) x,((Xr W.fer.length).map (Zg W Ns gs ts))[j]?=some x->j<W.fer.length/\x=Zg W Ns gs ts j:=λj x h=>by
  have hj:=(XO.mp h).1;rw[Xa,UB]at hj;rw[Xq,Wr hj]at h;exact⟨hj,(Yb h).symm⟩
 have adsI:∀j,j<W.fer.length->∀a∈(Zg W Ns gs ts j).ads,(∃N,Ns[j]?=some N/\a∈N)\/a=gs.getD j default\/a=ts.getD j default:=λj hj a ha=>by
  obtain⟨b,p,g,u,hN,_,e⟩:=at_ j _ (Xc hj);rw[e]at ha;simp only[Boat.ads,Xl,XL,or_false]at ha;rcases ha with c|c|c|c|c|c
  ·exact .inl ⟨_,hN,by simp[c]⟩
  ·exact .inl ⟨_,hN,by simp[c]⟩
  ·exact .inl ⟨_,hN,by simp[c]⟩
  ·exact .inl ⟨_,hN,by simp[c]⟩
  ·exact .inr (.inl c)
  ·exact .inr (.inr c)
 have free:∀X,FrM M X [r]->∀a,a≠r->X a=none->M a=none:=λX fr a ne hx=>by
  cases e:M a with
  |none=>rfl
  |some o=>rw[fr a o e (by simpa using ne)]at hx;cases hx
 have eb:((Xr W.fer.length).map (Zg W Ns gs ts)).map (λx=>MV.ref x.b)=Ns.map λN=>MV.ref (N.getD 0 default):=by
  rw[Ys];exact Ct (d:=[]) (f:=λN=>MV.ref (N.getD 0 default)) Nl
 have eg:((Xr W.fer.length).map (Zg W Ns gs ts)).map (λx=>MV.ref x.gl)=gs.map MV.ref:=by
  rw[Ys];exact Ct (d:=default) (f:=MV.ref) gsl
 have et:((Xr W.fer.length).map (Zg W Ns gs ts)).map (λx=>MV.ref x.tl)=ts.map MV.ref:=by
  rw[Ys];exact Ct (d:=default) (f:=MV.ref) tsl
 have wno:∀(X:MH) (z:Addr),(∀(j:Nat) a x,ws[j]?=some a->W.isl[j]?=some x->X a=some (.dic (zipK x.vars ((x.prs.map (·.2)).map MV.int))))->X z=none->z∉ws:=λX z hX hz c=>by
  obtain⟨j,hj,e⟩:=Y6 c;have:=hX j _ _ (Xc hj) (Xc (by rw[<- wl];exact hj))
  rw[e,hz]at this;cases this
 refine q ⟨0,W.isl.map λ_=>0,ws,W.isl.map λ_=>0,(Xr W.fer.length).map (Zg W Ns gs ts),pn,pw,ps,pb,pg,pt⟩ M19 fr19 ⟨r19,hn,hw,hs,?_,?_,?_,by rw[Xa],wl,by rw[Xa],by rw[Xa,UB],λi I m hI hm=>?_,λi I a hI ha=>⟨_,wat i a I ha hI,(RQ (G.io I (Xz hI)).nd (G.io I (Xz hI)).wd).2⟩,λj f x hf hx=>?_,λi j x y ne hx hy a ha hb=>?_,?_⟩ (λy hy=>?_) (λa ha=>?_)
 ·show M19 pb=some (.dic (zipK W.fns (((Xr W.fer.length).map (Zg W Ns gs ts)).map (λx=>MV.ref x.b))));rw[eb];exact hb
 ·show M19 pg=some (.dic (zipK W.fns (((Xr W.fer.length).map (Zg W Ns gs ts)).map (λx=>MV.ref x.gl))));rw[eg];exact hg19
 ·show M19 pt=some (.dic (zipK W.fns (((Xr W.fer.length).map (Zg W Ns gs ts)).map (λx=>MV.ref x.tl))));rw[et];exact ht19
 ·have hm:(W.isl.map λ_=>0)[i]?=some m:=hm;rw[Xq,hI]at hm;cases hm;exact YK _
 ·obtain⟨hj,rfl⟩:=bat j x hx;obtain⟨b,p,g,u,hN,fy,e⟩:=at_ j f hf;rw[e];have g1:=(_X (L:=gs) (j:=j) (by rw[gsl];exact hj)).1
  have t1:=(_X (L:=ts) (j:=j) (by rw[tsl];exact hj)).1
  have pm:p∈ [b,p,g,u]:=by simp
  have q1:gs.getD j default≠ts.getD j default:=λz=>gt _ g1 (z▸t1);have q2:gs.getD j default≠p:=λz=>Ng _ (Xz hN) p pm (z▸g1);have q3:ts.getD j default≠p:=λz=>Nt _ (Xz hN) p pm (z▸t1);exact⟨fy,g19 _ g1,t19 _ t1,⟨q1,q2,q3⟩,rfl,(by decide:(-1:Int)<0),(by decide:(-1:Int)<0),λz hz=>by cases hz⟩
 ·obtain⟨hi,rfl⟩:=bat i x hx;obtain⟨hj,rfl⟩:=bat j y hy;have gi:=(_X (L:=gs) (j:=i) (by rw[gsl];exact hi)).1
  have gj:=(_X (L:=gs) (j:=j) (by rw[gsl];exact hj)).1
  have ti:=(_X (L:=ts) (j:=i) (by rw[tsl];exact hi)).1
  have tj:=(_X (L:=ts) (j:=j) (by rw[tsl];exact hj)).1
  rcases adsI i hi a ha with⟨N,hN,c⟩|c|c<;>rcases adsI j hj a hb with⟨N',hN',d⟩|d|d
  ·exact RU Nnd hN hN' ne a c d
  ·exact Ng N (Xz hN) a c (d▸gj)
  ·exact Nt N (Xz hN) a c (d▸tj)
  ·exact Ng N' (Xz hN') a d (c▸gi)
  ·exact RV gnd (by rw[gsl];exact hi) (by rw[gsl];exact hj) ne (c.symm.trans d)
  ·exact gt a (c▸gi) (d▸tj)
  ·exact Nt N' (Xz hN') a d (c▸ti)
  ·exact gt a (d▸gj) (c▸ti)
  ·exact RV tnd (by rw[tsl];exact hi) (by rw[tsl];exact hj) ne (c.symm.trans d)
 ·show(pn::pw::ps::pb::pg::pt::ws).Nodup;simp only[YB,Xl,not_or];exact⟨⟨pnw,pns,j6.1,neM n13 ja,neM n16 j8,wpn⟩,⟨pws,j6.2.1,neM w13 ja,neM w16 j8,wpw⟩,⟨j6.2.2.1,neM p13 ja,neM p16 j8,wps⟩,⟨neM b13 ja,neM b16 j8,j6.2.2.2⟩,⟨neM jH j8,wno _ _ wat13 ja⟩,wno _ _ wat16 j8,wnd⟩
 ·obtain⟨j,hj,e⟩:=Y6 hy;obtain⟨hj2,rfl⟩:=bat j y (by rw[Xc hj,e])
  obtain⟨b,p,g,u,hN,fy,e⟩:=at_ j _ (Xc hj2);rw[e];rfl
 ·simp only[RunS.own,Xl,VB]at ha;rcases ha with c|c|c|c|⟨x,hx,c⟩
  ·exact .inl c
  ·exact .inr (c▸free _ fr1 _ rpn f_pn)
  ·exact .inr (c▸free _ fr4 _ rpw jz)
  ·exact .inr (c▸free _ fr7 _ rps ji)
  ·obtain⟨j,hj,e⟩:=Y6 hx;obtain⟨hj2,rfl⟩:=bat j x (by rw[Xc hj,e])
   have g1:=(_X (L:=gs) (j:=j) (by rw[gsl];exact hj2)).1
   have t1:=(_X (L:=ts) (j:=j) (by rw[tsl];exact hj2)).1
   rcases adsI j hj2 a c with⟨N,hN,d⟩|d|d
   ·exact .inr (free _ jA _ (rN N (Xz hN) a d) (Nfree a (VA.mpr ⟨N,Xz hN,d⟩)))
   ·subst d;exact .inr (free _ jE _ (rgs _ g1) (gfree _ g1))
   ·subst d;exact .inr (free _ jG _ (rts _ t1) (tfree _ t1))
theorem RunAt.own_some{M:MH}{W:Wld}{r:Addr}{R:RunS}{mm:Nat->Int}(h:RunAt M W r R mm):∀a∈R.own r,∃o,M a=some o:=λb hb=>by
 simp only[RunS.own,Xl,VB]at hb;rcases hb with rfl|rfl|rfl|rfl|⟨x,hx,hb⟩
 ·exact⟨_,h.ob⟩
 ·exact⟨_,h.hn⟩
 ·exact⟨_,h.hw⟩
 ·exact⟨_,h.hs⟩
 ·obtain⟨j,hj,rfl⟩:=Y6 hx;obtain⟨u,e,_⟩:=(h.ba j _ _ (Xc (by rw[<- h.bl];exact hj)) (Xc hj)).at_ b hb
  exact⟨u,e⟩
theorem Ab.Ok.two{A:Ab}(h:A.Ok):A.tn≤A.ws.length/\A.ws.length≤A.tn+2^A.k:=by
 have m1:=h.tb _ (_f (xs:=A.tx) (by rw[h.tl];exact h.gl.1))
 have m2:=h.gb _ (_f (xs:=A.gx) h.gl.1);have:=h.lt1;have:=h.lg1;lia
abbrev rgM(x:Str×Nat):MV:=.tup [.str x.1,.int x.2]
abbrev Bs:SpM:=λvs M Q=>∃(pc pi:Addr) (cs:List Int) (ys:List MV) (Is:List Isl),vs=[.ref pc,.ref pi]/\M pc=some (.lst (cs.map MV.int))/\cs.length≤80/\M pi=some (.lst ys)/\IslsIn M Is ys/\1≤Is.length/\Is.length≤5/\
 ∀p (rs:List (Str×Nat)) M',SameM M M'->M p=none->M' p=some (.lst (rs.map rgM))->rs.length=cs.length->(∀x∈rs,∃I∈Is,x.1=I.name)->Q (.ref p) M'
theorem RX:MonW Bs:=by walk_at "m"
theorem _dl(T:Txt K mg t):FnOk P w K mg base CX0 1 t.dj t.fM ["cells","islands"] (liSp K Bs):=by
 refine T.cb.F.okM _df (fC (G:=Qf) (Φ:=[]) T rfl nl0 nl0) G8 _dM (λvs M Q h=>?_) (λvs M Q h=>?_)
 ·obtain⟨_,_,_,_,_,rfl,_⟩:=h;rfl
 obtain⟨pc,pi,cs,ys,Is,rfl,hc,cl,hi,hI,i1,i5,q⟩:=h;show wSs _ _ _ [some (.ref pc),some (.ref pi),none,none] M;have yl:=hI.1;delta G8 Qe;simp!;intro p hp;have s1:=SameM.new hp (.lst []);have hp1:updM M p (.lst []) p=some (.lst []):=X9;generalize updM M p _=M1 at*;have hc1:=s1 _ _ hc;delta Qd
 simp![hc1]
 obtain⟨J,hJ⟩:∃J:Nat->Sm->MH->Prop,∀j σ M',J j σ M'↔∃(rs:List (Str×Nat)) (v:Option MV),SameM M M'/\M' p=some (.lst (rs.map rgM))/\rs.length=j/\(∀x∈rs,∃I∈Is,x.1=I.name)/\σ=[some (.ref pc),some (.ref pi),some (.ref p),v]:=⟨_,λ_ _ _=>Ym⟩;refine⟨J,(hJ _ _ _).mpr ⟨[],_,s1,hp1,rfl,(λx h=>nomatch h),rfl⟩,λj σ M' h=>?_,?_,?_⟩
 ·obtain⟨_,_,s,_⟩:=(hJ _ _ _).mp h;exact s _ _ hc
 ·rintro j y σ M' hy h;obtain⟨rs,v,s,hps,rl,ro,rfl⟩:=(hJ _ _ _).mp h;obtain⟨hj,rfl⟩:=YQ (show(cs.map MV.int)[j]?=some y from hy);generalize cs[j]=x at*;have hi':=s _ _ hi;have hI':=hI.keep s;delta Qc
  simp![hps,hi']
  have m0:=ZC x (show(ys.length:Int)≠0 by lia)
  have m1:=U6 x (show(0:Int)<(ys.length:Int) by lia)
  obtain⟨k,hk⟩:∃k:Nat,x%(ys.length:Int)=(k:Int):=⟨_,(UF m0).symm⟩;rw[hk]at m1 ⊢;have hky:k<ys.length:=by lia
  have hkI:k<Is.length:=by lia
  obtain⟨a,b,ey,_⟩:=hI'.2 k _ _ (Xc hkI) (Xc hky);refine⟨⟨_,rfl⟩,by lia,_,YE (Xc hky),?_⟩
  rw[ey]
  simp![hi',hps]
  have c0:=ZC (x/(ys.length:Int)) (show(1000000000000000000000000000000:Int)≠0 by decide)
  obtain⟨c,hc2⟩:∃c:Nat,x/(ys.length:Int)%1000000000000000000000000000000=(c:Int):=⟨_,(UF c0).symm⟩;rw[hc2];have hj:j<cs.length:=hj;refine⟨⟨by lia,by lia⟩,by rw[Xa];lia,(hJ _ _ _).mpr ⟨rs++[(Is[k].name,c)],_,s.upd hp _,by rw[X9,Y1];rfl,by rw[Yw,rl];rfl,(λz hz=>?_),rfl⟩⟩
  rcases YJ.mp hz with hz|hz
  ·exact ro z hz
  ·rw[Y3]at hz;subst hz;exact⟨_,XV hkI,rfl⟩
 ·rintro σ M' h;obtain⟨rs,v,s,hps,rl,ro,rfl⟩:=(hJ _ _ _).mp h;delta Qb;simp!;exact q p rs M' s hp hps (rl.trans (Xa _)) ro
theorem _pK(T:Txt K mg t):FnOk P w K mg base CX0 60 t.fI t.dy ["script"] (liSp K Kn):=by
 refine T.ei.F.okM _oJ (_N (k:=59) (G:=Qq) (Φ:=[("_law_rings",Bs),("_law_things",Bm),("_law_whole",Bj),("made",Be)]) (Ψ:=[("Run___init__",Br),("Run_given",Bo),("Run_ring",Bq),("Run_taken",Bp)]) (Χ:=[("_law_rings",Bs),("_law_things",Bm),("_law_whole",Bj),("made",Be),("Run___init__",Br),("Run_given",Bo),("Run_ring",Bq),("Run_taken",Bp)]) rfl (_P T) (_Q T) rfl (fMc ⟨RX,(fMc ⟨RD,(fMc ⟨Rs,(fMc ⟨QY,(fMc ⟨RW,(fMc ⟨RL,(fMc ⟨RP,(fMc ⟨RN,nl0⟩)⟩)⟩)⟩)⟩)⟩)⟩)⟩) (fMc ⟨fE T.cb (_dl T),(fMc ⟨fE T.bE (_c6 T),(fMc ⟨fE T.bK (_dk T),(fMc ⟨fE T.c9 (_nd T),nl0⟩)⟩)⟩)⟩) (fMc ⟨⟨_,_,rfl,_,_,_,_,(FnOk.mono (_er T) (by decide)),T.ab,T.ac,T.cx,T.gK⟩,(fMc ⟨⟨_,_,rfl,_,_,_,_,(FnOk.mono (_fy T) (by decide)),T.ab,T.ac,T.cM,T.eE⟩,(fMc ⟨⟨_,_,rfl,_,_,_,_,(FnOk.mono (_ep T) (by decide)),T.ab,T.ac,T.dE,T.dW⟩,nl0⟩)⟩)⟩) (fMc ⟨⟨_,_,rfl,_,_,_,_,_,(by decide:6+1≤59),_b5 T,T.ab,T.gc,T.cS,T.gU⟩,nl0⟩) (_R T)) G9 _qn (fun vs M Q h=>?_) (fun vs M Q h=>?_)
 ·obtain⟨ns,rfl,_⟩:=h;rfl
 obtain⟨ns,rfl,h63,q⟩:=h;have hΦ:=(UL (Φ:=[("_law_rings",Bs),("_law_things",Bm),("_law_whole",Bj),("made",Be),("Run___init__",Br),("Run_given",Bo),("Run_ring",Bq),("Run_taken",Bp)]) (fMc ⟨RX,(fMc ⟨RD,(fMc ⟨Rs,(fMc ⟨QY,(fMc ⟨RW,(fMc ⟨RL,(fMc ⟨RP,(fMc ⟨RN,nl0⟩)⟩)⟩)⟩)⟩)⟩)⟩)⟩));show wSs _ _ _ [some (.frl (ns.map .int)),none,none,none,none,none,none,none,none,none] M;delta G9 Qp;simp!;refine⟨ns,3,rfl,λW pi pf ys M1 s1 G i1 f1 f2 f3 hpi hIs hpf=>?_⟩;have i5:=G.i5;have f6:=G.f6;simp!;delta Qo
 simp![hpi]
 intro p1 hp1;have s2:=SameM.new hp1 (.lst ys);have hp2:updM M1 p1 (.lst ys) p1=some (.lst ys):=X9;generalize updM M1 p1 _=M2 at*;have hpf2:=s2 _ _ hpf
 simp![hpf2]
 intro p2 hp3;have s3:=SameM.new hp3 (.lst (W.fer.map Fer.mv));have hp4:updM M2 p2 (.lst (W.fer.map Fer.mv)) p2=some (.lst (W.fer.map Fer.mv)):=X9;generalize updM M2 p2 _=M3 at*;refine⟨p1,p2,ys,W,rfl,s3 _ _ hp2,hIs.keep (s2.trans s3),hp4,G,λM4 s4=>?_⟩;have s14:=(s2.trans s3).trans s4;have hpi4:=s14 _ _ hpi;have jI:=s14 _ _ hpf;have hIs4:=hIs.keep s14
 try simp!
 intro r hr;have rr:updM M4 r (.ins "Run" []) r=some (.ins "Run" []):=X9;have s5:=SameM.new hr (.ins "Run" []);refine⟨r,W,rfl,rr,G,λR M5 fr5 hR5 hl5 ho5=>?_⟩;have s45:SameM M4 M5:=λa o e=>fr5 a o (s5 a o e) (by simpa using neM e hr)
 have hpi5:=s45 _ _ hpi4;have hpf5:=s45 _ _ jI;have hIs5:=hIs4.keep s45;have no5:∀a o,M4 a=some o->a∉R.own r:=λa o e z=>by
  rcases ho5 a z with rfl|c
  ·rw[hr]at e;cases e
  ·rw[s5 _ _ e]at c;cases c
 try simp!
 delta Qn;simp!;intro pc hpc;obtain⟨cs,hcs,cl⟩:∃cs:List Int,cutM (ns.map MV.int) (some 10) (some 90)=cs.map MV.int/\cs.length≤63:=by
  refine⟨(ns.drop (HT.sIx (ns.map MV.int).length 0 (some 10))).take (HT.sIx (ns.map MV.int).length (ns.map MV.int).length (some 90) - HT.sIx (ns.map MV.int).length 0 (some 10)),?_,?_⟩
  ·unfold cutM;rw[List.map_take,List.map_drop]
  ·rw[YI,Wt];lia
 rw[hcs];have s6:=SameM.new hpc (.lst (cs.map MV.int));have hc6:updM M5 pc (.lst (cs.map MV.int)) pc=some (.lst (cs.map MV.int)):=X9;generalize updM M5 pc _=M6 at*;refine⟨pc,pi,cs,ys,W.isl,rfl,hc6,by lia,s6 _ _ hpi5,hIs5.keep s6,i1,i5,λp rs M7 s7 hp hp7 rl ro=>?_⟩
 have s57:=s6.trans s7;have hR7:=hR5.keep s57;have hpf7:=s57 _ _ hpf5;have pno:p∉R.own r:=λz=>by
  obtain⟨o,e⟩:=hR5.own_some p z;rw[s6 _ _ e]at hp;cases hp
 have fno:pf∉R.own r:=no5 _ _ jI
 simp![hp7]
 obtain⟨J,hJ⟩:∃J:Nat->Sm->MH->Prop,∀j σ M',J j σ M'↔∃(R':RunS) (v5 v6 v7 v8 v9:Option MV),RunAt M' W r R' (λ_=>R'.m)/\M' p=some (.lst (rs.map rgM))/\M' pf=some (.lst (W.fer.map Fer.mv))/\p∉R'.own r/\pf∉R'.own r/\(∀y∈R'.bs,y.A.ws.length≤j)/\σ=[some (.frl (ns.map MV.int)),some (.int W.w),some (.ref pi),some (.ref pf),some (.ref r),v5,v6,v7,v8,v9]:=⟨_,λ_ _ _=>Ym⟩;refine⟨J,(hJ _ _ _).mpr ⟨R,_,_,_,_,_,hR7,hp7,hpf7,pno,fno,λy hy=>VL (hl5 y hy),rfl⟩,λj σ M' h=>?_,?_,?_⟩
 ·obtain⟨_,_,_,_,_,_,_,h,_⟩:=(hJ _ _ _).mp h;exact h
 ·rintro j y σ M' hy h;obtain⟨R',v5,v6,v7,v8,v9,hR,hps,hfs,n1,n2,hl,rfl⟩:=(hJ _ _ _).mp h;obtain⟨hj,rfl⟩:=YQ (show(rs.map rgM)[j]?=some y from hy);obtain⟨I,hIm,en⟩:=ro _ (XV hj);generalize rs[j]=x at*;obtain⟨i,hi,rfl⟩:=Y6 hIm;have ob:=hR.ob;simp!;delta Qm;rw[en]
  simp![ob,runO,valM]
  refine⟨r,W,R',i,_,x.2,rfl,G,hR,Xc hi,λy hy=>Y4 (hl y hy) (by lia),λR2 M8 v hR2 k2 ln=>?_⟩
  have hp8:=k2.fr _ _ hps n1;have hf8:=k2.fr _ _ hfs n2;have n1':p∉R2.own r:=λz=>(k2.nw p z).elim n1 λc=>by rw[hps]at c;cases c
  have n2':pf∉R2.own r:=λz=>(k2.nw pf z).elim n2 λc=>by rw[hfs]at c;cases c
  try simp!
  delta Ql
  simp![hf8]
  obtain⟨J2,hJ2⟩:∃J:Nat->Sm->MH->Prop,∀j σ M',J j σ M'↔∃(v5 v6 v7 v8 v9:Option MV),SameM M8 M'/\σ=[some (.frl (ns.map MV.int)),some (.int W.w),some (.ref pi),some (.ref pf),some (.ref r),v5,v6,v7,v8,v9]:=⟨_,λ_ _ _=>Ym⟩;refine⟨J2,(hJ2 _ _ _).mpr ⟨_,_,_,_,_,SameM.refl _,rfl⟩,λj σ M' h=>?_,?_,?_⟩
  ·obtain⟨_,_,_,_,_,h,_⟩:=(hJ2 _ _ _).mp h;exact h _ _ hf8
  ·rintro k y σ M9 hy h;obtain⟨v5,v6,v7,v8,v9,s9,rfl⟩:=(hJ2 _ _ _).mp h;obtain⟨hk,rfl⟩:=YQ (show(W.fer.map Fer.mv)[k]?=some y from hy);have hf:=Xc hk;generalize W.fer[k]=f at*;have hR9:=hR2.keep s9;obtain⟨b,hb⟩:∃b,R2.bs[k]?=some b:=⟨_,Xc (by rw[hR2.bl];exact hk)⟩
   have B:=hR9.ba k f b hf hb;have ob9:=hR9.ob;have fo:=G.fo f (Xz hf);obtain⟨t1,t2⟩:=B.fy.ok.two;delta Qk
   simp![ob9,runO,valM,Fer.mv]
   refine⟨r,W,R2,_,k,f,b,rfl,G,hR9,hf,hb,λpg hpg=>?_⟩;have s10:=SameM.new hpg (.lst (b.A.ws.map natM));have g10:updM M9 pg (.lst (b.A.ws.map natM)) pg=some (.lst (b.A.ws.map natM)):=X9;generalize updM M9 pg _=M10 at*;have jJ:=hR9.keep s10;have ob10:=jJ.ob
   try simp!
   delta Qj
   simp![ob10,runO,valM,Fer.mv]
   refine⟨r,W,R2,_,k,f,b,rfl,G,jJ,hf,hb,λpt hpt=>?_⟩;have s11:=SameM.new hpt (.lst ((b.A.ws.take b.A.tn).map natM));have t11:updM M10 pt (.lst ((b.A.ws.take b.A.tn).map natM)) pt=some (.lst ((b.A.ws.take b.A.tn).map natM)):=X9;have g11:=s11 _ _ g10;generalize updM M10 pt _=M11 at*
   try simp!
   delta Qi
   simp![g11,t11,Xa,YI]
   intro px hpx;rw[DL t1,_hz,<- List.map_take];have s12:=SameM.new hpx (.lst ((b.A.ws.take b.A.tn).map natM));have x12:updM M11 px (.lst ((b.A.ws.take b.A.tn).map natM)) px=some (.lst ((b.A.ws.take b.A.tn).map natM)):=X9;have g12:=s12 _ _ g11;have t12:=s12 _ _ t11;generalize updM M11 px _=M12 at*;refine _l6 rfl (Alike.lstFlat 0 (.inr ⟨_,rfl,x12⟩) (.inr ⟨_,rfl,t12⟩) (λv hv=>by obtain⟨c,_,rfl⟩:=XS.mp hv;rfl)) (by decide) ?_
   rw[if_neg (by decide)]
   simp![g12,t12,Xa,YI]
   have k2':((1:Int)*2^(f.k:Int).toNat)=((2^b.A.k:Nat):Int):=by rw[YL,Int.one_mul,B.k,V7];rfl
   rw[k2',DL t1];refine⟨⟨by lia,by have:=fo.k3;lia⟩,Y5 (λc=>by lia) (λ_=>?_)⟩
   delta Qh;simp!;refine _ju b.A.ws natM ?_ ?_ hΦ λpz hpz=>?_
   ·simp![g12]
    exact⟨rfl,DJ (ln j hl b (Xz hb)) (by show _<16777216;lia),g12⟩
   ·intro z hz M' s;have zb:=B.wd z hz;simp only[sCm,Xy,Yc,Yp,Yq,Yj,Y8];simp!;refine⟨(z:Int),rfl,?_⟩;simp!;have w2:W.w≤64:=G.w2;have e2:((1:Int)*2^(W.w:Int).toNat)=((2^W.w:Nat):Int):=by rw[YL,Int.one_mul,V7];rfl
    rw[if_neg (by lia),e2]
    exact⟨⟨by lia,by lia⟩,by lia⟩
   have s13:=SameM.new hpz (.lst []);have z13:updM M12 pz (.lst []) pz=some (.lst []):=X9;generalize updM M12 pz _=M13 at*;simp!;intro pe hpe;have s14:=SameM.new hpe (.lst []);have e14:updM M13 pe (.lst []) pe=some (.lst []):=X9;generalize updM M13 pe _=M14 at*;refine EF (s14 _ _ z13) e14 ?_;rw[if_neg (by decide)]
   try simp!
   exact(hJ2 _ _ _).mpr ⟨_,_,_,_,_,s9.trans (s10.trans (s11.trans (s12.trans (s13.trans s14)))),rfl⟩
  ·rintro σ M9 h;obtain⟨v5,v6,v7,v8,v9,s9,rfl⟩:=(hJ2 _ _ _).mp h;exact(hJ _ _ _).mpr ⟨R2,_,_,_,_,_,hR2.keep s9,s9 _ _ hp8,s9 _ _ hf8,n1',n2',ln j hl,rfl⟩
 ·rintro σ M' h;obtain⟨R',v5,v6,v7,v8,v9,hR,hps,hfs,n1,n2,hl,rfl⟩:=(hJ _ _ _).mp h;delta Qg;simp!;exact q _
end
theorem all_mk{l:DH}{w:Xm}{K:X4}{h:Heap}{mg:Str->Option X0}{fa:Addr}(X:K.In h)(G:h.Ns Xo mg)(hfa:mg "law"=some (.ref fa))
  {iD:Addr}
  {iu:Addr}
  {iB:Addr}
  {f15 f16 f17 f18 f19 f20 f21 f22 f52 f53 f54 f55 f56 f57:Addr} {od15 an15 od16 an16 od17 an17 od18 an18 od19 an19 od20 an20 od21 an21 od22 an22 od52 an52 od53 an53 od54 an54 od55 an55 od56 an56 od57 an57:Option Addr} {sl15 sl16 sl17 sl18 sl19 sl20 sl21 sl22 sl52 sl53 sl54 sl55 sl56 sl57:Array (Option X0)} {oc15 kV15 dc15 pm15 cd15 ct15 oc16 kV16 dc16 pm16 cd16 ct16 oc17 kV17 dc17 pm17 cd17 ct17 oc18 kV18 dc18 pm18 cd18 ct18 oc19 kV19 dc19 pm19 cd19 ct19 oc20 kV20 dc20 pm20 cd20 ct20 oc21 kV21 dc21 pm21 cd21 ct21 oc22 kV22 dc22 pm22 cd22 ct22 oc52 kV52 dc52 pm52 cd52 ct52 oc53 kV53 dc53 pm53 cd53 ct53 oc54 kV54 dc54 pm54 cd54 ct54 oc55 kV55 dc55 pm55 cd55 ct55 oc56 kV56 dc56 pm56 cd56 ct56 oc57 kV57 dc57 pm57 cd57 ct57:X0}
  {f1 f2 f3 f4 f5 f6 f7 f8 f9 f10 f11 f12 f13 f14 f23 f24 f25 f26 f27 f28 f29 f30 f31 f32 f33 f34 f35 f36 f37 f38 f39 f40 f41 f42 f43 f44 f45 f46 f47 f48 f49 f50 f51 f58 f59 f60 f61 f62 f63 f64 f65 f66:Addr} {d1 d2 d3 d4 d5 d6 d7 d8 d9 d10 d11 d12 d13 d14 d23 d24 d25 d26 d27 d28 d29 d30 d31 d32 d33 d34 d35 d36 d37 d38 d39 d40 d41 d42 d43 d44 d45 d46 d47 d48 d49 d50 d51 d58 d59 d60 d61 d62 d63 d64 d65 d66:Xh}
  {tk1:Tok}
  {tk2:Tok}
  {tk3:Tok}
  {tk4:Tok}
  {tk5:Tok}
  {tk6:Tok}
  {tk7:Tok}
  {tk8:Tok}
  {tk9:Tok}
  {tk10:Tok}
  {tk11:Tok}
  (j7:XA K Xo "Run"=some (some (.ref iD)))
  (iO:XA K Xo "Ferry"=some (some (.ref iu)))
  (iP:XA K Xo "Side"=some (some (.ref iB)))
  (h1:Fn1 K "is_whole" A7 f1 d1)
  (h2:Fn1 K "is_width" A8 f2 d2)
  (h3:Fn1 K "two_to" A9 f3 d3)
  (h4:Fn1 K "fits" Aa f4 d4)
  (h5:Fn1 K "cut" Ac f5 d5)
  (h6:Fn1 K "amid" Ad f6 d6)
  (h7:Fn1 K "code_of" Ae f7 d7)
  (h8:Fn1 K "number_of" Af f8 d8)
  (h9:Fn1 K "first_sign" Ag f9 d9)
  (h10:Fn1 K "shown" Ah f10 d10)
  (h11:Fn1 K "first_sight" Ai f11 d11)
  (h12:Fn1 K "sampled" Aj f12 d12)
  (h13:Fn1 K "moved" Ak f13 d13)
  (h14:Fn1 K "used" Al f14 d14)
  (a15:XF K (.ref iB) "__init__"=some (some (.ref f15))) (i15:Yz K (.ref f15)=true) (l15:K.lookup f15=some ⟨oc15,od15,.func (Y9 "__init__" "Side.__init__" (Yh Ud) (Xe Ud) (X5 Ud) .none kV15 dc15 pm15 an15 cd15 ct15),sl15⟩) (c15:Yx K cd15 "Side.__init__"=true) (k15:XW K (.ref f15)=true)
  (a16:XF K (.ref iB) "ring_ahead"=some (some (.ref f16))) (i16:Yz K (.ref f16)=true) (l16:K.lookup f16=some ⟨oc16,od16,.func (Y9 "ring_ahead" "Side.ring_ahead" (Yh Ue) (Xe Ue) (X5 Ue) .none kV16 dc16 pm16 an16 cd16 ct16),sl16⟩) (c16:Yx K cd16 "Side.ring_ahead"=true) (k16:XW K (.ref f16)=true)
  (a17:XF K (.ref iB) "less_the_seen"=some (some (.ref f17))) (i17:Yz K (.ref f17)=true) (l17:K.lookup f17=some ⟨oc17,od17,.func (Y9 "less_the_seen" "Side.less_the_seen" (Yh Uf) (Xe Uf) (X5 Uf) .none kV17 dc17 pm17 an17 cd17 ct17),sl17⟩) (c17:Yx K cd17 "Side.less_the_seen"=true) (k17:XW K (.ref f17)=true)
  (a18:XF K (.ref iB) "grow"=some (some (.ref f18))) (i18:Yz K (.ref f18)=true) (l18:K.lookup f18=some ⟨oc18,od18,.func (Y9 "grow" "Side.grow" (Yh Ug) (Xe Ug) (X5 Ug) .none kV18 dc18 pm18 an18 cd18 ct18),sl18⟩) (c18:Yx K cd18 "Side.grow"=true) (k18:XW K (.ref f18)=true)
  (a19:XF K (.ref iB) "show_and_see"=some (some (.ref f19))) (i19:Yz K (.ref f19)=true) (l19:K.lookup f19=some ⟨oc19,od19,.func (Y9 "show_and_see" "Side.show_and_see" (Yh Uh) (Xe Uh) (X5 Uh) .none kV19 dc19 pm19 an19 cd19 ct19),sl19⟩) (c19:Yx K cd19 "Side.show_and_see"=true) (k19:XW K (.ref f19)=true)
  (a20:XF K (.ref iu) "__init__"=some (some (.ref f20))) (i20:Yz K (.ref f20)=true) (l20:K.lookup f20=some ⟨oc20,od20,.func (Y9 "__init__" "Ferry.__init__" (Yh Ui) (Xe Ui) (X5 Ui) .none kV20 dc20 pm20 an20 cd20 ct20),sl20⟩) (c20:Yx K cd20 "Ferry.__init__"=true) (k20:XW K (.ref f20)=true)
  (a21:XF K (.ref iu) "ring_giver"=some (some (.ref f21))) (i21:Yz K (.ref f21)=true) (l21:K.lookup f21=some ⟨oc21,od21,.func (Y9 "ring_giver" "Ferry.ring_giver" (Yh Uj) (Xe Uj) (X5 Uj) .none kV21 dc21 pm21 an21 cd21 ct21),sl21⟩) (c21:Yx K cd21 "Ferry.ring_giver"=true) (k21:XW K (.ref f21)=true)
  (a22:XF K (.ref iu) "ring_taker"=some (some (.ref f22))) (i22:Yz K (.ref f22)=true) (l22:K.lookup f22=some ⟨oc22,od22,.func (Y9 "ring_taker" "Ferry.ring_taker" (Yh Uk) (Xe Uk) (X5 Uk) .none kV22 dc22 pm22 an22 cd22 ct22),sl22⟩) (c22:Yx K cd22 "Ferry.ring_taker"=true) (k22:XW K (.ref f22)=true)
  (h23:Fn1 K "parts_within" Am f23 d23)
  (h24:Fn1 K "size_of" An f24 d24)
  (h25:Fn1 K "names_read" Ao f25 d25)
  (h26:Fn1 K "vars_in" Ap f26 d26)
  (h27:Fn1 K "worth_of_two" Aq f27 d27)
  (h28:Fn1 K "worth" Ar f28 d28)
  (h29:Fn1 K "wish" As f29 d29)
  (h30:Fn1 K "number_after" At f30 d30)
  (h31:Fn1 K "words_after" Au f31 d31)
  (h32:Fn1 K "after" Av f32 d32)
  (h33:Fn1 K "is_name" Aw f33 d33)
  (h34:Fn1 K "refuse_name" Ax f34 d34)
  (h35:Fn1 K "refuse_unknown" Ay f35 d35)
  (h36:Fn1 K "refuse_ferry_names" Az f36 d36)
  (h37:Fn1 K "refuse_variables" AA f37 d37)
  (h38:Fn1 K "refuse_term" AB f38 d38)
  (h39:Fn1 K "refuse_step" AC f39 d39)
  (h40:Fn1 K "refuse_island" AD f40 d40)
  (h41:Fn1 K "refuse_islands" AE f41 d41)
  (h42:Fn1 K "refuse_ferry" AF f42 d42)
  (h43:Fn1 K "refuse_wrong_end" AG f43 d43)
  (h44:Fn1 K "refuse_wrong_ends" AH f44 d44)
  (h45:Fn1 K "frozen" AI f45 d45)
  (h46:Fn1 K "made" AJ f46 d46)
  (h47:Fn1 K "one_called" AK f47 d47)
  (h48:Fn1 K "island_of" AL f48 d48)
  (h49:Fn1 K "what_alone" AM f49 d49)
  (h50:Fn1 K "is_wish_of" AN f50 d50)
  (h51:Fn1 K "looked_up" AO f51 d51)
  (a52:XF K (.ref iD) "__init__"=some (some (.ref f52))) (i52:Yz K (.ref f52)=true) (l52:K.lookup f52=some ⟨oc52,od52,.func (Y9 "__init__" "Run.__init__" (Yh Ul) (Xe Ul) (X5 Ul) .none kV52 dc52 pm52 an52 cd52 ct52),sl52⟩) (c52:Yx K cd52 "Run.__init__"=true) (k52:XW K (.ref f52)=true)
  (a53:XF K (.ref iD) "ring"=some (some (.ref f53))) (i53:Yz K (.ref f53)=true) (l53:K.lookup f53=some ⟨oc53,od53,.func (Y9 "ring" "Run.ring" (Yh Um) (Xe Um) (X5 Um) .none kV53 dc53 pm53 an53 cd53 ct53),sl53⟩) (c53:Yx K cd53 "Run.ring"=true) (k53:XW K (.ref f53)=true)
  (a54:XF K (.ref iD) "ring_ferry"=some (some (.ref f54))) (i54:Yz K (.ref f54)=true) (l54:K.lookup f54=some ⟨oc54,od54,.func (Y9 "ring_ferry" "Run.ring_ferry" (Yh Uo) (Xe Uo) (X5 Uo) .none kV54 dc54 pm54 an54 cd54 ct54),sl54⟩) (c54:Yx K cd54 "Run.ring_ferry"=true) (k54:XW K (.ref f54)=true)
  (a55:XF K (.ref iD) "go_on"=some (some (.ref f55))) (i55:Yz K (.ref f55)=true) (l55:K.lookup f55=some ⟨oc55,od55,.func (Y9 "go_on" "Run.go_on" (Yh Up) (Xe Up) (X5 Up) .none kV55 dc55 pm55 an55 cd55 ct55),sl55⟩) (c55:Yx K cd55 "Run.go_on"=true) (k55:XW K (.ref f55)=true)
  (a56:XF K (.ref iD) "given"=some (some (.ref f56))) (i56:Yz K (.ref f56)=true) (l56:K.lookup f56=some ⟨oc56,od56,.func (Y9 "given" "Run.given" (Yh Uq) (Xe Uq) (X5 Uq) .none kV56 dc56 pm56 an56 cd56 ct56),sl56⟩) (c56:Yx K cd56 "Run.given"=true) (k56:XW K (.ref f56)=true)
  (a57:XF K (.ref iD) "taken"=some (some (.ref f57))) (i57:Yz K (.ref f57)=true) (l57:K.lookup f57=some ⟨oc57,od57,.func (Y9 "taken" "Run.taken" (Yh Ur) (Xe Ur) (X5 Ur) .none kV57 dc57 pm57 an57 cd57 ct57),sl57⟩) (c57:Yx K cd57 "Run.taken"=true) (k57:XW K (.ref f57)=true)
  (h58:Fn1 K "_law_cell_at" AQ f58 d58)
  (h59:Fn1 K "_law_whole" AR f59 d59)
  (h60:Fn1 K "_law_name" AS f60 d60)
  (h61:Fn1 K "_law_term" AT f61 d61)
  (h62:Fn1 K "_law_step" AU f62 d62)
  (h63:Fn1 K "_law_island" AV f63 d63)
  (h64:Fn1 K "_law_things" AW f64 d64)
  (h65:Fn1 K "_law_rings" AX f65 d65)
  (h66:Fn1 K "law" AY f66 d66)
  (iW:UX K iB U7=true) (iX:VG K iB=true) (iY:Wx K iB=true) (iZ:XF K (.ref iB) "__setattr__"=some (some (.builtin "object.__setattr__"))) (j4:Wy K iB=true) (j5:XW K (.ref iB)=true)
  (iK:XF K (.ref iB) "turn"=some none)
  (iH:XF K (.ref iB) "total"=some none)
  (iL:XF K (.ref iB) "sign"=some none)
  (iI:XF K (.ref iB) "sight"=some none)
  (iQ:UX K iu U7=true) (iR:VG K iu=true) (iS:Wx K iu=true) (iT:XF K (.ref iu) "__setattr__"=some (some (.builtin "object.__setattr__"))) (iU:Wy K iu=true) (iV:XW K (.ref iu)=true)
  (iE:XF K (.ref iu) "places"=some none)
  (iF:XF K (.ref iu) "giver"=some none)
  (iG:XF K (.ref iu) "taker"=some none)
  (jc:UX K iD U7=true) (jd:VG K iD=true) (je:Wx K iD=true) (jf:XF K (.ref iD) "__setattr__"=some (some (.builtin "object.__setattr__"))) (jg:Wy K iD=true) (jh:XW K (.ref iD)=true)
  (iM:XF K (.ref iD) "world"=some none)
  (iJ:XF K (.ref iD) "moment"=some none)
  (iw:XF K (.ref iD) "next_numbers"=some none)
  (iC:XF K (.ref iD) "words_now"=some none)
  (iy:XF K (.ref iD) "steps_so_far"=some none)
  (iN:XF K (.ref iD) "boats"=some none)
  (iz:XF K (.ref iD) "given_so_far"=some none)
  (iA:XF K (.ref iD) "taken_so_far"=some none)
  (z1:XA K Xo "all"=some none)
  (z2:XA K Xo "bool"=some none)
  (z3:XA K Xo "dict"=some none)
  (z4:XA K Xo "int"=some none)
  (z5:XA K Xo "isinstance"=some none)
  (z6:XA K Xo "len"=some none)
  (z7:XA K Xo "list"=some none)
  (z8:XA K Xo "max"=some none)
  (z9:XA K Xo "min"=some none)
  (z10:XA K Xo "range"=some none)
  (z11:XA K Xo "set"=some none)
  (z12:XA K Xo "sorted"=some none)
  (z13:XA K Xo "tuple"=some none)
  (g1:XA K Xo "MOST_WIDTH"=some (some (.int 64 tk1)))
  (g2:XA K Xo "MOST_LETTERS"=some (some (.int 8 tk2)))
  (g3:XA K Xo "MOST_ISLANDS"=some (some (.int 5 tk3)))
  (g4:XA K Xo "MOST_FERRIES"=some (some (.int 6 tk4)))
  (g5:XA K Xo "MOST_VARS"=some (some (.int 6 tk5)))
  (g6:XA K Xo "MOST_STEPS"=some (some (.int 12 tk6)))
  (g7:XA K Xo "MOST_PARTS"=some (some (.int 30 tk7)))
  (g8:XA K Xo "MOST_DEPTH"=some (some (.int 8 tk8)))
  (g9:XA K Xo "MOST_K"=some (some (.int 3 tk9)))
  (g10:XA K Xo "MOST_STAGES"=some (some (.int 3 tk10)))
  (g11:XA K Xo "BITS_A_FERRY"=some (some (.int 8 tk11))):
  ∃fd:Xh,(∀(s:X2) (v:X0),BindsTo s fd ⟨[v],[]⟩ [("script",v)])/\∀base:Heap,K.In base->base.Ns Xo mg->FnOk l.prog w K mg base CX0 60 fa fd ["script"] (CJ K):=by
 have e:=hfa.symm.trans (Yy X G h66.a);cases e;have T:Txt K mg ⟨f1,d1,f2,d2,f3,d3,f4,d4,f5,d5,f6,d6,f7,d7,f8,d8,f9,d9,f10,d10,f11,d11,f12,d12,f13,d13,f14,d14,f15,_,f16,_,f17,_,f18,_,f19,_,f20,_,f21,_,f22,_,f23,d23,f24,d24,f25,d25,f26,d26,f27,d27,f28,d28,f29,d29,f30,d30,f31,d31,f32,d32,f33,d33,f34,d34,f35,d35,f36,d36,f37,d37,f38,d38,f39,d39,f40,d40,f41,d41,f42,d42,f43,d43,f44,d44,f45,d45,f46,d46,f47,d47,f48,d48,f49,d49,f50,d50,f51,d51,f52,_,f53,_,f54,_,f55,_,f56,_,f57,_,f58,d58,f59,d59,f60,d60,f61,d61,f62,d62,f63,d63,f64,d64,f65,d65,fa,d66,iB,iu,iD⟩:={
  aQ:=h1.t X G λ_ _ _ _ _ _=>us1 (λ_=>rfl)
  aH:=h2.t X G λ_ _ _ _ _ _=>us1 (λ_=>rfl)
  aC:=h3.t X G λ_ _ _ _ _ _=>us1 (λ_=>rfl)
  bZ:=h4.t X G λ_ _ _ _ _ _=>us2 (λ_ _=>rfl)
  aA:=h5.t X G λ_ _ _ _ _ _=>us2 (λ_ _=>rfl)
  bO:=h6.t X G λ_ _ _ _ _ _=>us3 (λ_ _ _=>rfl)
  aR:=h7.t X G λ_ _ _ _ _ _=>us1 (λ_=>rfl)
  ci:=h8.t X G λ_ _ _ _ _ _=>us1 (λ_=>rfl)
  aO:=h9.t X G λ_ _ _ _ _ _=>us1 (λ_=>rfl)
  aU:=h10.t X G λ_ _ _ _ _ _=>us3 (λ_ _ _=>rfl)
  bC:=h11.t X G λ_ _ _ _ _ _=>us2 (λ_ _=>rfl)
  aW:=h12.t X G λ_ _ _ _ _ _=>us3 (λ_ _ _=>rfl)
  cc:=h13.t X G λ_ _ _ _ _ _=>us2 (λ_ _=>rfl)
  be:=h14.t X G λ_ _ _ _ _ _=>us1 (λ_=>rfl)
  gJ:=fun_mk (st:=Ud) l15 c15 k15
  dr:=(fun_mk (st:=Ud) l15 c15 k15).binds (ps:=["self","turn","stages"]) fun _ _ _ _ _ _=>us3 (fun _ _ _=>rfl)
  il:=⟨a15,i15,k15⟩
  gL:=fun_mk (st:=Ue) l16 c16 k16
  bh:=(fun_mk (st:=Ue) l16 c16 k16).binds (ps:=["self"]) fun _ _ _ _ _ _=>us1 (fun _=>rfl)
  bc:=⟨a16,i16,k16⟩
  cL:=fun_mk (st:=Uf) l17 c17 k17
  ce:=(fun_mk (st:=Uf) l17 c17 k17).binds (ps:=["self"]) fun _ _ _ _ _ _=>us1 (fun _=>rfl)
  br:=⟨a17,i17,k17⟩
  i0:=fun_mk (st:=Ug) l18 c18 k18
  aY:=(fun_mk (st:=Ug) l18 c18 k18).binds (ps:=["self"]) fun _ _ _ _ _ _=>us1 (fun _=>rfl)
  c8:=⟨a18,i18,k18⟩
  cG:=fun_mk (st:=Uh) l19 c19 k19
  bY:=(fun_mk (st:=Uh) l19 c19 k19).binds (ps:=["self","moment","choice","other_sign"]) fun _ _ _ _ _ _=>us4 (fun _ _ _ _=>rfl)
  bX:=⟨a19,i19,k19⟩
  fc:=fun_mk (st:=Ui) l20 c20 k20
  fu:=(fun_mk (st:=Ui) l20 c20 k20).binds (ps:=["self","k","stages"]) fun _ _ _ _ _ _=>us3 (fun _ _ _=>rfl)
  iq:=⟨a20,i20,k20⟩
  dA:=fun_mk (st:=Uj) l21 c21 k21
  dH:=(fun_mk (st:=Uj) l21 c21 k21).binds (ps:=["self","moment","choice","word"]) fun _ _ _ _ _ _=>us4 (fun _ _ _ _=>rfl)
  eY:=⟨a21,i21,k21⟩
  de:=fun_mk (st:=Uk) l22 c22 k22
  eO:=(fun_mk (st:=Uk) l22 c22 k22).binds (ps:=["self","moment","choice","wished"]) fun _ _ _ _ _ _=>us4 (fun _ _ _ _=>rfl)
  gY:=⟨a22,i22,k22⟩
  aw:=h23.t X G λ_ _ _ _ _ _=>us1 (λ_=>rfl)
  aq:=h24.t X G λ_ _ _ _ _ _=>us1 (λ_=>rfl)
  ax:=h25.t X G λ_ _ _ _ _ _=>us1 (λ_=>rfl)
  aK:=h26.t X G λ_ _ _ _ _ _=>us1 (λ_=>rfl)
  aJ:=h27.t X G λ_ _ _ _ _ _=>us4 (λ_ _ _ _=>rfl)
  ae:=h28.t X G λ_ _ _ _ _ _=>us3 (λ_ _ _=>rfl)
  bL:=h29.t X G λ_ _ _ _ _ _=>us4 (λ_ _ _ _=>rfl)
  aE:=h30.t X G λ_ _ _ _ _ _=>us4 (λ_ _ _ _=>rfl)
  aG:=h31.t X G λ_ _ _ _ _ _=>us4 (λ_ _ _ _=>rfl)
  bU:=h32.t X G λ_ _ _ _ _ _=>us5 (λ_ _ _ _ _=>rfl)
  bM:=h33.t X G λ_ _ _ _ _ _=>us1 (λ_=>rfl)
  aI:=h34.t X G λ_ _ _ _ _ _=>us2 (λ_ _=>rfl)
  am:=h35.t X G λ_ _ _ _ _ _=>us2 (λ_ _=>rfl)
  aL:=h36.t X G λ_ _ _ _ _ _=>us1 (λ_=>rfl)
  bz:=h37.t X G λ_ _ _ _ _ _=>us2 (λ_ _=>rfl)
  bj:=h38.t X G λ_ _ _ _ _ _=>us2 (λ_ _=>rfl)
  b0:=h39.t X G λ_ _ _ _ _ _=>us4 (λ_ _ _ _=>rfl)
  c7:=h40.t X G λ_ _ _ _ _ _=>us3 (λ_ _ _=>rfl)
  aF:=h41.t X G λ_ _ _ _ _ _=>us3 (λ_ _ _=>rfl)
  aM:=h42.t X G λ_ _ _ _ _ _=>us2 (λ_ _=>rfl)
  b7:=h43.t X G λ_ _ _ _ _ _=>us4 (λ_ _ _ _=>rfl)
  aN:=h44.t X G λ_ _ _ _ _ _=>us2 (λ_ _=>rfl)
  ak:=h45.t X G λ_ _ _ _ _ _=>us1 (λ_=>rfl)
  c9:=h46.t X G λ_ _ _ _ _ _=>us3 (λ_ _ _=>rfl)
  bS:=h47.t X G λ_ _ _ _ _ _=>us2 (λ_ _=>rfl)
  bG:=h48.t X G λ_ _ _ _ _ _=>us2 (λ_ _=>rfl)
  bn:=h49.t X G λ_ _ _ _ _ _=>us1 (λ_=>rfl)
  bP:=h50.t X G λ_ _ _ _ _ _=>us2 (λ_ _=>rfl)
  aS:=h51.t X G λ_ _ _ _ _ _=>us2 (λ_ _=>rfl)
  dX:=fun_mk (st:=Ul) l52 c52 k52
  gU:=(fun_mk (st:=Ul) l52 c52 k52).binds (ps:=["self","world"]) fun _ _ _ _ _ _=>us2 (fun _ _=>rfl)
  ip:=⟨a52,i52,k52⟩
  gG:=fun_mk (st:=Um) l53 c53 k53
  eE:=(fun_mk (st:=Um) l53 c53 k53).binds (ps:=["self","name","choice"]) fun _ _ _ _ _ _=>us3 (fun _ _ _=>rfl)
  cM:=⟨a53,i53,k53⟩
  gg:=fun_mk (st:=Uo) l54 c54 k54
  eB:=(fun_mk (st:=Uo) l54 c54 k54).binds (ps:=["self","ferry","name","choice","asked"]) fun _ _ _ _ _ _=>us5 (fun _ _ _ _ _=>rfl)
  fX:=⟨a54,i54,k54⟩
  cO:=fun_mk (st:=Up) l55 c55 k55
  eG:=(fun_mk (st:=Up) l55 c55 k55).binds (ps:=["self","name","steps","word"]) fun _ _ _ _ _ _=>us4 (fun _ _ _ _=>rfl)
  dU:=⟨a55,i55,k55⟩
  i8:=fun_mk (st:=Uq) l56 c56 k56
  gK:=(fun_mk (st:=Uq) l56 c56 k56).binds (ps:=["self","name"]) fun _ _ _ _ _ _=>us2 (fun _ _=>rfl)
  cx:=⟨a56,i56,k56⟩
  fH:=fun_mk (st:=Ur) l57 c57 k57
  dW:=(fun_mk (st:=Ur) l57 c57 k57).binds (ps:=["self","name"]) fun _ _ _ _ _ _=>us2 (fun _ _=>rfl)
  dE:=⟨a57,i57,k57⟩
  bq:=h58.t X G λ_ _ _ _ _ _=>us2 (λ_ _=>rfl)
  bK:=h59.t X G λ_ _ _ _ _ _=>us1 (λ_=>rfl)
  aX:=h60.t X G λ_ _ _ _ _ _=>us2 (λ_ _=>rfl)
  bd:=h61.t X G λ_ _ _ _ _ _=>us2 (λ_ _=>rfl)
  bb:=h62.t X G λ_ _ _ _ _ _=>us5 (λ_ _ _ _ _=>rfl)
  bQ:=h63.t X G λ_ _ _ _ _ _=>us5 (λ_ _ _ _ _=>rfl)
  bE:=h64.t X G λ_ _ _ _ _ _=>us2 (λ_ _=>rfl)
  cb:=h65.t X G λ_ _ _ _ _ _=>us2 (λ_ _=>rfl)
  ei:=h66.t X G λ_ _ _ _ _ _=>us1 (λ_=>rfl)
  ag:=iP
  dl:=Yy X G iP
  ai:=⟨iW,iX,iY,iZ⟩
  fK:=⟨j4,a15,i15,j5⟩
  fL:=iK
  gh:=iH
  ii:=iL
  dZ:=iI
  ay:=iO
  ik:=Yy X G iO
  aB:=⟨iQ,iR,iS,iT⟩
  cq:=⟨iU,a20,i20,iV⟩
  fQ:=iE
  gT:=iF
  ft:=iG
  ab:=j7
  gc:=Yy X G j7
  ac:=⟨jc,jd,je,jf⟩
  cS:=⟨jg,a52,i52,jh⟩
  fv:=iM
  fj:=iJ
  gZ:=iw
  cH:=iC
  fV:=iy
  dY:=iN
  fh:=iz
  fD:=iA
  dz:=Z2 X G z1
  fk:=Z2 X G z2
  dw:=Z2 X G z3
  cB:=Z2 X G z4
  fG:=Z2 X G z5
  dm:=Z2 X G z6
  cU:=Z2 X G z7
  gD:=Z2 X G z8
  df:=Z2 X G z9
  gC:=Z2 X G z10
  dL:=Z2 X G z11
  dS:=Z2 X G z12
  ge:=Z2 X G z13
  cI:=⟨_,Yy X G g1⟩
  fq:=⟨_,Yy X G g2⟩
  ij:=⟨_,Yy X G g3⟩
  dP:=⟨_,Yy X G g4⟩
  eC:=⟨_,Yy X G g5⟩
  gk:=⟨_,Yy X G g6⟩
  eP:=⟨_,Yy X G g7⟩
  fB:=⟨_,Yy X G g8⟩
  eD:=⟨_,Yy X G g9⟩
  gW:=⟨_,Yy X G g10⟩
  fT:=⟨_,Yy X G g11⟩
 }
 exact⟨d66,h66.bt λ_ _ _ _ _ _ _=>rfl,λbase _ _=>_nw (FnOk.mono (_pK T) (by decide))⟩
theorem walk{l:DH}{q:Xv}{loose:List Str}{XP:(Str->Option X0)->Heap->Prop}{YP:Xm->Heap->Prop}{d:DefRec}{K:Params->X4}(hn:l.most=some 63)(hdf:d.params.defaults=[])
  (hY:∀(w:Xm) (h:Heap),YP w h->(K w.params).In h)
  (F:∀(w:Xm) (mg:Str->Option X0) (fa:Addr) (h:Heap),(K w.params).In h->h.Ns Xo mg->mg d.name=some (.ref fa)->
   ∃fd:Xh,(∀(s:X2) (u:X0),BindsTo s fd ⟨[u],[]⟩ [("script",u)])/\∀base:Heap,(K w.params).In base->base.Ns Xo mg->FnOk l.prog w (K w.params) mg base CX0 60 fa fd ["script"] (CJ (K w.params))):
  PySem.W.WalkO q loose XP YP l.row.toRowW d [] (λf vs=>PySem.call f vs):=
 L2.walk_of (n:=63) (k:=60) (x:="script") (CX:=fun _=>CX0) (sp:=fun w=>CJ (K w.params)) hn (by decide) hdf ⟨rfl,by decide,by decide⟩ hY F (fun _ H a ns hl hO hS=>⟨a,ns,rfl,_qg hO hS,hl,fun _=>rfl⟩) fun _ _ _ _ _ z=>z
end My
structure PySem.W.Fast:Prop where
 (tw11567182553193263129 tw8253237359179294657 tw2498903077575205265 tw5924199073702580800 tw6976689875358113870 tw17141176299815566071 tw7633861551321823609 tw18097218572282011162 tw684394730034314674 tw5741450930111236124 tw17356548885801358410 tw15767754606128751588 tw11475519873880810425 tw17217448234167281288 tw10860918138566934217 tw8925041339653577370 tw10433146231159793395 tw2899519988996504989 tw15676261689278725309 tw14817596393912797674 tw10761073965357278543 tw12794191471006883114 tw11541936857338275725 tw6520011416755571483 tw3898640004393567212 tw11042217576640602137 tw8551999155723695729 tw4257447119442775669 tw17840768085260312533 tw10081054792094284737 tw6865505481355244353 tw13285884114276312415 tw13760963757702946910 tw1527583866285091269 tw11203439387641557483 tw1134927842997973219 tw12036802887889512137 tw4376155367201446724 tw10878958660319728488 tw206201252329618482 tw8441667911361923209 tw11457983092011825823 tw17273372227462070289 tw9665146572432176228 tw15317118651174868533 tw5192227166364774383 tw13953580794342769350 tw9143239650097263529 tw3605486931975058717 tw6377689348548698972 tw13634223094096420297 tw6267983398063628552 tw5193316193189043325 tw10799064794443867993 tw10091640392893718956 tw4788149037892023760 tw17499020982677418761 tw17537191889357456859 tw9740322730404500115 tw5520049326904537508 tw6967901723030649441 tw6979873787967533249 tw9469939659665959061 tw6834958703999594467 tw7534853758692728716 tw15139278344013652650 tw2176000815199373804 tw7362250377390251307 tw11581668742033355664 tw5817369722270878822 tw6865255260610975420 tw9375190039396913035 tw10553743413383612903 tw12124804073287827942 tw12109613938407366918 tw12875256120617908284 tw10996377576773850131 tw5496989725365040307 tw1490921840747550590 tw199987235042224773 tw12458170550792074502 tw6919961799360707524 tw4928413253651941191 tw10830348997048353578 tw1202815760411874797 tw7085497572141305253 tw16577952335416016354 tw2905058270642003309 tw1313155838258757895 tw15434410933490069324 tw8039843921079360706 tw15779092863631347417 tw2016813662033271179 tw15974436633938480154 tw5832640508843091588 tw5398709020005020591 tw18370189056906737963 tw3044369325365819072 tw4846641131497584249 tw16523373339292593260 tw715602930496593232 tw1485049520868156853 tw11073200259617782889 tw8390446826456461534 tw8440148175683104991 tw13081593797428452379 tw17126724175214228905 tw16625641084785438190 tw13969823779905678119 tw13939192118452140290 tw2090210343807137143 tw15096802327379406942 tw92122343054320679 tw10803717528958449626 tw7006298064375625301 tw5886977100550928110 tw15629219442950707399 tw10983269153272788756 tw4824777838148075843 tw4745408152782968129 tw5257324157422016743 tw2549041013935970704 tw15612545709070660858 tw5242863938633713966 tw11511808186335396187 tw4652167732294657998 tw2573202794532189523 tw7851437195787321293 tw13443372296688603298 tw8786066757444667727 tw11043711738787798808 tw16819892507621312365 tw2908055105132352744 tw8750741264465680899 tw17798418164678457440 tw14907519254045974101 tw10005288008558198001 tw12978220485469810643 tw12006228611817648268 tw17650143645304150718 tw5846846740773928093 tw11079940953155458751 tw16331317856703174234 tw5052118763349024679 tw4129547120715114164 tw15918607510868809964 tw11193962684570068751 tw7840555884421085248 tw3862604523686408219 tw8524404234778860213 tw15396200245994008241 tw14780844484046095827 tw9468877558598776246 tw8986715977450482618 tw5920049179034819589 tw63921322718115679 tw7667730291827836805 tw18408182315544951851 tw11779159669810641407 tw16224662174067344047 tw9644998026327156743 tw9668153197246606061 tw7621074387846137682 tw5172176595085464210 tw13558245155589404317 tw16725936136426781470 tw14551849659093781899 tw12711601419640361468 tw15693044602051546021 tw16123952143851708805 tw7479101787032408612 tw5871734267695672466 tw13774153430055594081 tw12156698940696282743 tw11298682379482198781 tw2585690232677952703 tw5384259774240498469 tw15385922421727984198 tw15416595886672998578 tw16635850227485843575 tw2199017534300970936 tw18172475669822601214 tw9648992471100412880 tw17311970726837976481 tw2882495145988935386 tw7546148657766123810 tw17359181947402491084 tw16304944132444519036 tw6561205565264534813 tw15889152120916605087 tw3004863671101165230 tw16097149266873746944 tw6417236488169242665 tw7444542688079960095 tw9730671235551555332 tw1010182975937833920 tw12654884983598945421 tw8230206489244487428 tw17095202044707198964 tw986081684359486660 tw13587875580051322679 tw5430095083386532020 tw6622310938539141929 tw2199655566761960403 tw6789030602438861562 tw11371323969429072345 tw6292243427615612180 tw14703706697207395789 tw1596216741779627733 tw16368114282377518479 tw13690807292089479088 tw1881084351270301440 tw6953193156147603986 tw7129334417846745149 tw15119852167725856528 tw16710505234905459066 tw539360305732301339 tw16492129947756387919 tw269506205389593840 tw13452396338292799420 tw2523362353407142634 tw11114069389217441360 tw13806283293169092361 tw12520837429416744771 tw899505992682459122 tw9250511472548410206 tw16279661991160065336 tw9885017400855260117 tw18236594170150923223 tw11838765299272366675 tw15668367470646255661 tw1126041331972385547 tw17542710917483083099 tw3454487135832373895 tw254161315000630983 tw7704808281900373347 tw11979380481397006772 tw6067584877847531062 tw376890611208017707 tw1142585733796472378 tw9968576534891274210 tw17515630349602311388 tw5982341459102149600 tw6630461770053761834 tw14458564568095787736 tw9774154535043134047 tw17583830955986458389 tw2298959186387691299 tw4393662111748805585 tw11615646736745736898 tw2494815673750316697 tw15168296601940859430 tw1783588307736445765 tw18030153842759735028 tw1522398128797855076 tw13581410822081245326 tw1715046915057983599 tw13003111811733381890 tw2234123166187345992 tw4514201479126196750 tw8038104836985085482 tw415320027402368755 tw16676644072429422849 tw18107610837676035881 tw12390205865437166696 tw2312505040517518354 tw11572683243505795388 tw4524134969451115158 tw2815168709452949270 tw14211681365804394181 tw10145438297712453449 tw17212053777727148025 tw9373147328679548117 tw15379871660515917628 tw9514229810972242657 tw10059843553839267365 tw16913974798684226916 tw17747560774403305459 tw9468961160239298050 tw506976991365354772 tw12987865636221288532 tw8678041466025873776 tw17002730370838158309 tw16443817135001756644 tw13322174302923944811 tw485423962371956119 tw2724318342827225424 tw11286245891592115664 tw409517416661165865 tw12772182563494448836 tw8183631410643913271 tw4196424805623095941 tw14380642191088829656 tw17382020109988560955 tw17059041184746599558 tw4666127849394166982 tw11069401161121084940 tw18282448154904766673 tw10063608187662602474 tw7796815956793251792 tw2619474241299966261 tw14478465250625887382 tw4574872247315408314 tw10078796027468830733 tw2360240290415278913 tw14910847165875119458 tw2519970646133151787 tw12131746574540267163 tw17798825758010711437 tw16323664806192354862 tw9807817867308955453 tw9380206148491603371 tw10500300629552436569 tw5145833930693111738 tw4759696689189529407 tw15878680596912189487 tw13648772306511583501 tw17569632297267617931 tw15931634432260047585 tw7269193400579201900 tw16392128310822971702 tw17764868341522330550 tw2588733997484944475 tw5287356207258973595 tw17424853811124481424 tw11005042720031387855 tw11294534942621389220 tw11819081482096840339 tw7691396746203867821 tw10540868058239739130 tw6229942624661764255 tw9568695129981164160 tw14275581676380991060 tw12099176268519626699 tw12211210645630337876 tw5185432380372467516 tw12975900122050222492 tw7646573281507423186 tw11627026234849373317 tw4151564118685737738 tw756858803877915773 tw9976334746322427851 tw13915961505904961848 tw16107378099885222312 tw2159960105088566306 tw10126878992344319710 tw4736739078162462037 tw499248690808728120 tw13181272254420402779 tw15322169916443609040 tw7000952895544721936 tw7976014447525865810 tw423273250223694754 tw110559864421148584 tw12875509455192288659 tw4100407092334628077 tw10662482659930537871 tw9631145558759923742 tw809750556697201532 tw9832690659521498822 tw9042359457675261549 tw3257827897271194217 tw15297779807251743284 tw5250006934105362478 tw881526277550613010 tw12299510459324171896 tw7276484121719807780 tw8862697422212628160 tw1320755270974297528 tw16297880181471669847 tw9274120575451567284 tw10568222014115315666 tw3781849949152724486 tw6057647939942432067 tw13001074386892493346 tw9509177239484620357 tw14793109634277618387 tw2885917508888456656 tw17877602573831518769 tw1209168169271159917 tw6397123237808012487 tw336274782680235157 tw6381952002815992677 tw12848729104273169295 tw17527332086769217565 tw6573184798901151945 tw3259929431335048372 tw12964316287601310533 tw6135338199434491013 tw5859099740064798429 tw14358298298528362489 tw2255990365553278175:True)
open PySem PySem.W PyProof.Rows
local macro_rules | `(tactic| walk_at "q_fn") => `(tactic| (refine' ⟨?a, L2.fun_mk ?l ?c ?k⟩; (case a => k_is); (case l => k_is); (case c => k_is); (case k => k_is)))
set_option maxRecDepth 100000 in
set_option maxHeartbeats 0 in
theorem PySem.Challenge.cw_bellferry_k54_whole_what_is_given_is_tak_holds : PySem.Challenge.rw_bellferry_k54_whole_what_is_given_is_tak.Holds := by
 w_on;o_law;k_head;(case hw=>w_witness2)
 k_fill
 refine My.walk (l:=PySem.Challenge.rw_bellferry_k54_whole_what_is_given_is_tak) rfl rfl (λw h Y=>PySem.W.kIn_of Y) ?F
 case F=>
  intro w mg fa h KX G hmg;refine' My.all_mk KX G hmg ?j7 ?iO ?iP ?h1 ?h2 ?h3 ?h4 ?h5 ?h6 ?h7 ?h8 ?h9 ?h10 ?h11 ?h12 ?h13 ?h14 ?a15 ?i15 ?l15 ?c15 ?k15 ?a16 ?i16 ?l16 ?c16 ?k16 ?a17 ?i17 ?l17 ?c17 ?k17 ?a18 ?i18 ?l18 ?c18 ?k18 ?a19 ?i19 ?l19 ?c19 ?k19 ?a20 ?i20 ?l20 ?c20 ?k20 ?a21 ?i21 ?l21 ?c21 ?k21 ?a22 ?i22 ?l22 ?c22 ?k22 ?h23 ?h24 ?h25 ?h26 ?h27 ?h28 ?h29 ?h30 ?h31 ?h32 ?h33 ?h34 ?h35 ?h36 ?h37 ?h38 ?h39 ?h40 ?h41 ?h42 ?h43 ?h44 ?h45 ?h46 ?h47 ?h48 ?h49 ?h50 ?h51 ?a52 ?i52 ?l52 ?c52 ?k52 ?a53 ?i53 ?l53 ?c53 ?k53 ?a54 ?i54 ?l54 ?c54 ?k54 ?a55 ?i55 ?l55 ?c55 ?k55 ?a56 ?i56 ?l56 ?c56 ?k56 ?a57 ?i57 ?l57 ?c57 ?k57 ?h58 ?h59 ?h60 ?h61 ?h62 ?h63 ?h64 ?h65 ?h66 ?iW ?iX ?iY ?iZ ?j4 ?j5 ?iK ?iH ?iL ?iI ?iQ ?iR ?iS ?iT ?iU ?iV ?iE ?iF ?iG ?jc ?jd ?je ?jf ?jg ?jh ?iM ?iJ ?iw ?iC ?iy ?iN ?iz ?iA ?z1 ?z2 ?z3 ?z4 ?z5 ?z6 ?z7 ?z8 ?z9 ?z10 ?z11 ?z12 ?z13 ?g1 ?g2 ?g3 ?g4 ?g5 ?g6 ?g7 ?g8 ?g9 ?g10 ?g11
  (case j7=>k_is)
  (case iO=>k_is)
  (case iP=>k_is)
  (case h1=>walk_at "q_fn")
  (case h2=>walk_at "q_fn")
  (case h3=>walk_at "q_fn")
  (case h4=>walk_at "q_fn")
  (case h5=>walk_at "q_fn")
  (case h6=>walk_at "q_fn")
  (case h7=>walk_at "q_fn")
  (case h8=>walk_at "q_fn")
  (case h9=>walk_at "q_fn")
  (case h10=>walk_at "q_fn")
  (case h11=>walk_at "q_fn")
  (case h12=>walk_at "q_fn")
  (case h13=>walk_at "q_fn")
  (case h14=>walk_at "q_fn")
  (case a15=>k_is)
  (case i15=>k_is)
  (case l15=>k_is)
  (case c15=>k_is)
  (case k15=>k_is)
  (case a16=>k_is)
  (case i16=>k_is)
  (case l16=>k_is)
  (case c16=>k_is)
  (case k16=>k_is)
  (case a17=>k_is)
  (case i17=>k_is)
  (case l17=>k_is)
  (case c17=>k_is)
  (case k17=>k_is)
  (case a18=>k_is)
  (case i18=>k_is)
  (case l18=>k_is)
  (case c18=>k_is)
  (case k18=>k_is)
  (case a19=>k_is)
  (case i19=>k_is)
  (case l19=>k_is)
  (case c19=>k_is)
  (case k19=>k_is)
  (case a20=>k_is)
  (case i20=>k_is)
  (case l20=>k_is)
  (case c20=>k_is)
  (case k20=>k_is)
  (case a21=>k_is)
  (case i21=>k_is)
  (case l21=>k_is)
  (case c21=>k_is)
  (case k21=>k_is)
  (case a22=>k_is)
  (case i22=>k_is)
  (case l22=>k_is)
  (case c22=>k_is)
  (case k22=>k_is)
  (case h23=>walk_at "q_fn")
  (case h24=>walk_at "q_fn")
  (case h25=>walk_at "q_fn")
  (case h26=>walk_at "q_fn")
  (case h27=>walk_at "q_fn")
  (case h28=>walk_at "q_fn")
  (case h29=>walk_at "q_fn")
  (case h30=>walk_at "q_fn")
  (case h31=>walk_at "q_fn")
  (case h32=>walk_at "q_fn")
  (case h33=>walk_at "q_fn")
  (case h34=>walk_at "q_fn")
  (case h35=>walk_at "q_fn")
  (case h36=>walk_at "q_fn")
  (case h37=>walk_at "q_fn")
  (case h38=>walk_at "q_fn")
  (case h39=>walk_at "q_fn")
  (case h40=>walk_at "q_fn")
  (case h41=>walk_at "q_fn")
  (case h42=>walk_at "q_fn")
  (case h43=>walk_at "q_fn")
  (case h44=>walk_at "q_fn")
  (case h45=>walk_at "q_fn")
  (case h46=>walk_at "q_fn")
  (case h47=>walk_at "q_fn")
  (case h48=>walk_at "q_fn")
  (case h49=>walk_at "q_fn")
  (case h50=>walk_at "q_fn")
  (case h51=>walk_at "q_fn")
  (case a52=>k_is)
  (case i52=>k_is)
  (case l52=>k_is)
  (case c52=>k_is)
  (case k52=>k_is)
  (case a53=>k_is)
  (case i53=>k_is)
  (case l53=>k_is)
  (case c53=>k_is)
  (case k53=>k_is)
  (case a54=>k_is)
  (case i54=>k_is)
  (case l54=>k_is)
  (case c54=>k_is)
  (case k54=>k_is)
  (case a55=>k_is)
  (case i55=>k_is)
  (case l55=>k_is)
  (case c55=>k_is)
  (case k55=>k_is)
  (case a56=>k_is)
  (case i56=>k_is)
  (case l56=>k_is)
  (case c56=>k_is)
  (case k56=>k_is)
  (case a57=>k_is)
  (case i57=>k_is)
  (case l57=>k_is)
  (case c57=>k_is)
  (case k57=>k_is)
  (case h58=>walk_at "q_fn")
  (case h59=>walk_at "q_fn")
  (case h60=>walk_at "q_fn")
  (case h61=>walk_at "q_fn")
  (case h62=>walk_at "q_fn")
  (case h63=>walk_at "q_fn")
  (case h64=>walk_at "q_fn")
  (case h65=>walk_at "q_fn")
  (case h66=>walk_at "q_fn")
  (case iW=>k_is)
  (case iX=>k_is)
  (case iY=>k_is)
  (case iZ=>k_is)
  (case j4=>k_is)
  (case j5=>k_is)
  (case iK=>k_is)
  (case iH=>k_is)
  (case iL=>k_is)
  (case iI=>k_is)
  (case iQ=>k_is)
  (case iR=>k_is)
  (case iS=>k_is)
  (case iT=>k_is)
  (case iU=>k_is)
  (case iV=>k_is)
  (case iE=>k_is)
  (case iF=>k_is)
  (case iG=>k_is)
  (case jc=>k_is)
  (case jd=>k_is)
  (case je=>k_is)
  (case jf=>k_is)
  (case jg=>k_is)
  (case jh=>k_is)
  (case iM=>k_is)
  (case iJ=>k_is)
  (case iw=>k_is)
  (case iC=>k_is)
  (case iy=>k_is)
  (case iN=>k_is)
  (case iz=>k_is)
  (case iA=>k_is)
  (case z1=>k_is)
  (case z2=>k_is)
  (case z3=>k_is)
  (case z4=>k_is)
  (case z5=>k_is)
  (case z6=>k_is)
  (case z7=>k_is)
  (case z8=>k_is)
  (case z9=>k_is)
  (case z10=>k_is)
  (case z11=>k_is)
  (case z12=>k_is)
  (case z13=>k_is)
  (case g1=>k_is)
  (case g2=>k_is)
  (case g3=>k_is)
  (case g4=>k_is)
  (case g5=>k_is)
  (case g6=>k_is)
  (case g7=>k_is)
  (case g8=>k_is)
  (case g9=>k_is)
  (case g10=>k_is)
  (case g11=>k_is)
#print axioms PySem.Challenge.cw_bellferry_k54_whole_what_is_given_is_tak_holds
