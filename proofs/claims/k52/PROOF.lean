import PyProof.Rows.All
import Wide.All
import OpenK.AllK
import Wide.FinOn
import Lean
import PyProof.EqAt
import PyProof.EqKinds
import PyProof.TupleCall
import PySem.Challenge.RW_bellferry_k52_samples
import PyProof.Rows.SetFrom
import PyProof.FactsAll.set_1
import PyProof.CollectWalk
import PyProof.Rows.SortStr
import PyProof.IsiH_list
import PyProof.ConsumeWalk
import PyProof.StrWalks
import PyProof.IsiH_tuple
import PyProof.SliceStr2
import PyProof.ListRange
import PyProof.Rows.Range3
import PyProof.Rows.CallKwBuiltin
import PyProof.WalkInts
import PyProof.FString5
set_option Elab.async false
set_option tactic.hygienic false
set_option linter.all false
set_option maxRecDepth 100000
set_option maxHeartbeats 8000000
set_option genSizeOf false
set_option genSizeOfSpec false
noncomputable section
set_option bootstrap.genMatcherCode false
set_option compiler.extract_closed false
open PySem renaming Value→X0, World→Xn, Program→Xv, sysModules→YL, mainGlobals→Xp, bootBuiltins→YF, Around→XA, Shared→X2, wpAny→X3, model→X6, backTo→XY, starEach→XB, wpAny_mono→Zu, holding→Z3, wpAny_truthy_bool→Zv, swapsWith→Zw, assignEach→Zx, wpAny_bind→X1, wpAny_holding→YM, wpAny_passesOwn→UX, letOwnedTupleGo→Bz, wpAny_pure→X8, wpAny_load→Vr, rawInt→Y6, foldedSetIterable→BA, Operator→Uz, binaryOp→Yg, compareOp→Y0, codeAny→YU, attributeBase→UA, FuncData→Xi, codeAny_mono→Vs, wpAny_Call_Name_kw→UB, backToKw→ZS, keywordEach→ZT, Keyword→Z4, NameKind→Z5, wpAny_callSpecial?_slot→BB, wpAny_call_entry→Zf, wpAny_typeOf→Zy, wpAny_newObj_type→ZU, typeLookup→Vt, sliceBounds→UY, call_meets→UZ, valueAt→Z1, tupleKind_room_in1→BC, wpAny_richCompare_same_room→Vu, wpAny_loadPart'→Yb, plainId_quiet→Zg, codeAny_builtin→Z6, codeAny_call_builtin→Wq, wpAny_dictEntries→BD, wpAny_notOrdered_dict→BE, wpAny_isInstance→UC, SetTable→Yt, wpAny_setState_of→Wr, wpAny_rule→UD, wpAny_askSetting→Ws, wpAny_pyIter_list→BF, typeLookup_type→Vv, builtinLookup_eq_fast→Vw, wpAny_setField→Vx, ownMembersOf→YV, getattributeRaised→BG
open List renaming getElem?_eq_getElem→Xa, length_map→Xc, mem_of_getElem?→Xw, getElem?_eq_some_iff→XG, replicate→Xj, getElem?_map→Xr, mem_cons→Xl, mem_cons_of_mem→XS, map_cons→Xx, not_mem_nil→XJ, size_toArray→XR, getD_eq_getElem?_getD→Ym, mem_singleton→XX, getElem_of_mem→Y1, range→Xs, getElem_mem→XU, map_append→XV, mem_cons_self→Y8, mem_map→XN, getD_cons_succ→Yu, getD_cons_zero→Yv, length_append→Yn, getElem?_append_right→Zh, nil_append→Ya, length_cons→Yh, cons_append→Yo, getElem?_append_left→Zz, length_replicate→Z7, mem_append→Yw, getElem?_eq_none→Zi, length_take→YN, nodup_cons→YG, replicate_succ→Z8, mem_append_right→ZA, map_nil→Yc, nodup_append→Z9, map_map→Yp, eq_of_mem_replicate→V0, lookup_cons→Zj, flatten_cons→ZB, take_add_one→ZC, mem_range→Za, take_of_length_le→Vy, length_range→UE, eq_nil_of_length_eq_zero→BH, any_cons→ZD, length_set→UF, length_dropLast→Wt, append_assoc→Vz, getElem?_set→VA, all_cons→UG, getElem?_range→Wu, mem_flatten→VB, mem_flatMap→VC, map_replicate→Wv, lookup→ZV, append_nil→VD, foldl_cons→VE, find?_cons→VF, getElem?_inj→Ww, getElem?_set_ne→BJ, dropLast_subset→BK, all_eq_true→Wx, length_eq_zero_iff→Ds, filter_append→BL, getElem?_set_self→Du, ext_getElem?→BM, nodup_nil→Wy, getElem_inj→BN, length_drop→BO, ext_getElem→BP, take_append_of_le_length→GU, filterMap_cons→Dv, length_pos_iff→Dw, range_succ→BQ, length_eraseIdx_of_lt→GV, pairwise_cons→Dx, map_set→Wz, getElem?_eq_none_iff→GW, mem_or_eq_of_mem_set→GX, foldl→VG, foldl_append→Dy, length→WB, getElem?_replicate→GY, take_length→Dz, getElem_map→DA, getElem_set→DB, drop_eq_nil_of_le→GZ, mem_filter→DC, of_mem_zip→DD, length_nil→DE, map_id'→BR, getD→WC
open PySem.W renaming Frag→X4, findIn→XF, nsIn→Xy, keepIn→XZ, mg_none_of→Z2, fnOf→Yd, mg_of→Yx, codeIn→YO, isFn→YQ, kia_one→Zk, kia_tup→Zl, emptyDict→ZW, instObj→UH, plainGet→V1, hasDictIn→VH, kitOne→V2, plainOver→WD, makesIn→WE, kitx_list→BS, kitx_dict→BT, plainGet_of→DF, callWith_K→DG, lookIn→BU, kitAny→BV, methodObj→DH, cellsFrom_some→Ha, takerIn→DI, methodCall_KW→Hb, OpenLaw→DJ
open PySem.Heap renaming get?_push_of_some→Xq, get?_push_size→XO, lt_size→Xu, get?_update_self→V3, size_push→Zm, get?_update_other→VI, SameBut→ZX, ExtBut→BW
open Nat renaming le_refl→Xe, ne_of_lt→Xz, lt_of_lt_of_le→Yy, le_trans→Y2, lt_succ_of_lt→ZE, two_pow_pos→Zn, zero_le→YH, lt_succ_self→V4, lt_irrefl→ZY, pow_le_pow_right→BX, le_succ→UI, ne_of_gt→V5, lt_trans→V6, lt_succ_iff_lt_or_eq→DK, not_lt_zero→WF, le_of_eq→WG, mod_lt→VJ, le_of_lt→BY, sub_self→BZ
open Bool renaming false_ne_true→XE, and_eq_true→XW, false_eq_true→Yi, not_true→VL, false_and→WH, or_self→VM, eq_iff_iff→C0, and_false→C1, not_false→C2, true_and→C3, or_eq_true→DL, false_or→DM
open PySem.Value renaming none→Xt, ref→Xo, type→XC, str→XD, bool→Y9, int→VN, float→C4
open Array renaming length_toList→Yq, getElem?_eq_getElem→V7, getElem?_eq_none→DO, getElem?_toList→Hc
open Option.some renaming inj→Y7, injEq→C5
open Sum renaming inr→Xm, inl→V8
open Int renaming toNat_natCast→YI, emod_lt_of_pos→ZZ, toNat_of_nonneg→UJ, emod_nonneg→ZF, lt_of_lt_of_le→VO, natCast_pow→V9, natCast_nonneg→WI, le_refl→U0, zero_add→WJ, natCast_emod→DP, sub_emod→C6
open PySem.NameKind renaming free→Yj, cell→VP
open PySem.Around renaming under_plainId→Zo, under→DQ
open PySem.Str renaming ofString→Ye, empty→U1
open False renaming elim→Y3
open PyProof.Rows renaming slot_tuple_getitem→VQ, callWith_type1→WK, callWith_builtin1→Hd, bitAnd_pp→He
open PySem.Heap.SameBut renaming update→U2
open Ne renaming symm→XQ
open True renaming intro→Yr
open PySem.Builtin.Tuple renaming tupleCompareSizes→C7, tupleExact→C8, tupleItemsOf→Hf, tupleTooMany→Hg, tupleIsExact→Hh
open PySem.AutoSeq1 renaming wpAny_loadPart'→C9, sub_tuple_tuple→Hi, sub_list_list→Hj, idx_int→Hk
open PySem renaming mem_of_lookup→VR, Within→DR
open PySem.Builtin.Slice renaming slicePlaces→Ca, sliceAdjust→DS, sliceApplied→Hl
open PySem.Builtin.Dict renaming dictSlotArgs→Cb, updateFrom→Cc, selfAndRest→Hm, samePairs→Hn
open PySem.F renaming slot_tuple_getattribute→Cd, slot_list_getattribute→Ce, slot_tuple_mul→Cf, called_set→UK, args_tuple_add_2→Ho, args_tuple_mul_2→Hq, entry_tuple_add→Hr, slot_tuple_rmul→Hs, entry_tuple_mul→Ht, slot_tuple_add→Hu, sub_dict_dict→Hv, slot_int_rmul→Hw, slot_dict_eq→Hx, slot_dict_ne→Hy, slot_list_eq→DT, slot_list_ne→DU
open PySem.Builtin.List renaming listTooLong→Cg, listExtendWith→Hz, listSameRef→HA
open Iff renaming rfl→Yf
open PySem.SetTable renaming grown→Va, below→Ch
open PySem.Calls renaming spliced_cons→WL, spliced_nil→WM, Name_function_global→HB, callWith_builtin→HC
open PySem.Data renaming fields→U3, seq→YW
open PySem.Manifest renaming find?→VS
open PySem.Obj renaming mapSeq→U4, data_mapFields→Ci, isFreed_of_fields→DV, cls_mapFields→DW, mapFields→DX
open Option renaming map_eq_some_iff→DY, map_some→Cj, toList_some→DZ, isSome_map→E1
open Sum.inr renaming inj→Vb
open PySem.Shared renaming TypeIs→WN
open ForInStep renaming yield→Ck
open Nat.succ renaming inj→WO
open PySem.Builtin renaming bitAnd→Cl, bitXor→Cm
open PySem.Builtin.Frozenset renaming sizeOf→HD
open PySem.Heap.DictOf renaming new→E2
open List.Pairwise renaming sublist→HE
open PySem.SeqAt.EqAt renaming int_str→HF, str_int→HG
open PySem.ScopeKind renaming function→HH
open PySem.SetTable.below renaming go→HI
open Char renaming toNat→Cn
namespace L2
open PySem PySem.Spec PyProof.Rows
theorem nl0 {α:Type _}{p:α->Prop}:∀x∈([]:List α),p x:=λ_ h=>nomatch h
theorem fMc{α:Type _}{p:α->Prop}{a:α}{l:List α}(h:p a/\∀x∈l,p x):∀x∈a::l,p x:=List.forall_mem_cons.2 h
abbrev Key:=Sum Int Str
def VT:Key->X0->Bool
 |.inl k,v=>Value.isInt k v
 |.inr x,v=>Value.isStrOf x v
def keyH(w:Xn):Key->Int
 |.inl k=>hashInt k
 |.inr x=>hashStr w x
theorem U5:∀{k:Key} {v:X0},VT k v=true->(∃i t,k=V8 i/\v=VN i t)\/(∃x t,k=Xm x/\v=XD x t)
 |.inl i,v,h=>by
  obtain⟨t,e⟩:=Value.isInt_shape (k:=i) (v:=v) h;exact .inl ⟨i,t,rfl,e⟩
 |.inr x,v,h=>by
  obtain⟨t,e⟩:=Value.isStrOf_shape (x:=x) (v:=v) h;exact .inr ⟨x,t,rfl,e⟩
theorem RU(i:Int)(t:Tok):VT (.inl i) (.int i t)=true:=by simp[VT,Value.isInt]
theorem RV(x:Str)(t:Tok):VT (.inr x) (.str x t)=true:=by simp[VT,Value.isStrOf]
theorem RW(a b:Int):decide ((V8 a:Key)=V8 b)=(a==b):=by
 by_cases e:a=b
 ·subst e;simp
 ·have h:¬(V8 a:Key)=V8 b:=λq=>e (Sum.inl.inj q);rw[decide_eq_false h];exact(beq_eq_false_iff_ne.mpr e).symm
theorem RX(a b:Str):decide ((Xm a:Key)=Xm b)=decide (a=b):=by
 by_cases e:a=b
 ·subst e;simp
 ·have h:¬(Xm a:Key)=Xm b:=λq=>e (Vb q);rw[decide_eq_false h,decide_eq_false e]
theorem RY(a:Int)(b:Str):decide ((V8 a:Key)=Xm b)=false:=decide_eq_false (λq=>nomatch q)
theorem RZ(a:Str)(b:Int):decide ((Xm a:Key)=V8 b)=false:=decide_eq_false (λq=>nomatch q)
def Yz(prog:Xv)(w:Xn):PySem.KeyKind prog w Key where
 is:=VT
 hash:=keyH w
 inj:=λv a b ha hb=>by
  rcases U5 ha with⟨i,t,rfl,rfl⟩|⟨x,t,rfl,rfl⟩
  ·rcases U5 hb with⟨j,u,rfl,e⟩|⟨y,u,rfl,e⟩
   ·injection e with e1 _;rw[e1]
   ·exact nomatch e
  ·rcases U5 hb with⟨j,u,rfl,e⟩|⟨y,u,rfl,e⟩
   ·exact nomatch e
   ·injection e with e1 _;rw[e1]
 byValue:=λk v h=>by
  rcases U5 h with⟨i,t,rfl,rfl⟩|⟨x,t,rfl,rfl⟩<;>rfl
 pyHash:=λhv h=>by
  rcases U5 hv with⟨i,t,rfl,rfl⟩|⟨x,t,rfl,rfl⟩
  ·exact wpAny_pyHash_int h
  ·exact wpAny_pyHash_str h
 eqBool:=λhu hv h=>by
  rcases U5 hu with⟨i,t,rfl,rfl⟩|⟨x,t,rfl,rfl⟩
  ·rcases U5 hv with⟨j,u,rfl,rfl⟩|⟨y,u,rfl,rfl⟩
   ·rw[RW]at h;exact wpAny_eqBool_int h
   ·rw[RY]at h;exact HF i t y u _ _ _ _ h
  ·rcases U5 hv with⟨j,u,rfl,rfl⟩|⟨y,u,rfl,rfl⟩
   ·rw[RZ]at h;exact HG x t j u _ _ _ _ h
   ·rw[RX]at h;exact wpAny_eqBool_str h
 «strs»:=λk x t v h=>by
  rcases U5 h with⟨i,u,rfl,e⟩|⟨y,u,rfl,e⟩
  ·exact nomatch e
  ·injection e with e1 _;subst e1;cases v<;>rfl
theorem S0(prog:Xv)(w:Xn)(i:Int)(t:Tok):(Yz prog w).is (.inl i) (.int i t)=true:=RU i t
theorem S1(prog:Xv)(w:Xn)(x:Str)(t:Tok):(Yz prog w).is (.inr x) (.str x t)=true:=RV x t
inductive V where
 |non|bl (b:Bool)|int (i:Int)|str (x:Str)|byt (b:Array UInt8)|flt (b:UInt64)|ref (a:Addr)|ty (n:String)
  deriving DecidableEq
def RelV:V->X0->Prop
 |.non,u=>u=Xt
 |.bl b,u=>u=Y9 b
 |.int i,u=>∃t,u=VN i t
 |.str x,u=>∃t,u=XD x t
 |.byt b,u=>∃t,u=Value.bytes b t
 |.flt b,u=>∃t,u=C4 b t
 |.ref a,u=>u=Xo a
 |.ty n,u=>u=XC n
abbrev Vals:List V->List X0->Prop:=Paired RelV
theorem Vals.length(r:Vals xs us):xs.length=us.length:=Paired.length r
theorem Vals.get:∀{xs:List V} {us:List X0} {i:Nat} {x:V},Vals xs us->xs[i]?=some x->∃u,us[i]?=some u/\RelV x u
 |_,_,_,_,.nil,e=>by simp at e
 |_,_,0,_,.cons r _,e=>by simp at e;subst e;exact⟨_,rfl,r⟩
 |_,_,i+1,x,.cons _ t,e=>by
  obtain⟨u,h1,h2⟩:=Vals.get (i:=i) (x:=x) t (by simpa using e)
  exact⟨u,by simpa using h1,h2⟩
theorem Vals.set(r:RelV x u):∀{xs:List V} {us:List X0} (i:Nat),Vals xs us->Vals (xs.set i x) (us.set i u)
 |_,_,_,.nil=>.nil
 |_,_,0,.cons _ t=>.cons r t
 |_,_,i+1,.cons q t=>.cons q (Vals.set r i t)
theorem Vals.append:∀{xs ys:List V} {us ws:List X0},Vals xs us->Vals ys ws->Vals (xs++ys) (us++ws)
 |_,_,_,_,.nil,s=>s
 |_,_,_,_,.cons r t,s=>.cons r (Vals.append t s)
theorem Vals.take:∀{xs:List V} {us:List X0} (n:Nat),Vals xs us->Vals (xs.take n) (us.take n)
 |_,_,0,_=>.nil
 |_,_,_+1,.nil=>.nil
 |_,_,n+1,.cons r t=>.cons r (Vals.take n t)
theorem Vals.drop:∀{xs:List V} {us:List X0} (n:Nat),Vals xs us->Vals (xs.drop n) (us.drop n)
 |_,_,0,r=>r
 |_,_,_+1,.nil=>.nil
 |_,_,n+1,.cons _ t=>Vals.drop n t
def RelO:Option V->Option X0->Prop
 |some v,some u=>RelV v u
 |none,none=>True
 |_,_=>False
def KV{κ:Type}:List (κ×V)->List (κ×X0)->Prop:=Paired fun(p:κ×V) (q:κ×X0)=>p.1=q.1/\RelV p.2 q.2
def kV:Key->V
 |.inl i=>.int i
 |.inr x=>.str x
inductive HO where
 |lst (xs:List V)
 |tup (xs:List V)
 |dK (kvs:List (Key×V))|dT (kvs:List (List Key×V))
 |set (S:Int->Bool) (n:Nat)
 |ins (C dx:Addr) (fs:List (Str×V))
 |own (x:Addr)
 |xd (fs:List (Str×V))
 |met (f x:Addr)
 |rng (lo hi:Int)
 |frz (o:Obj) (u:HO)
 |tbl (ps:Array X0)
 |ext (φ:Heap->Prop)
abbrev Hp:=Addr->Option HO
def upd(H:Hp)(a:Addr)(o:HO):Hp:=λb=>if b=a then some o else H b
theorem _G{H:Hp}{a:Addr}{o:HO}:upd H a o a=some o:=by unfold upd;rw[if_pos rfl]
theorem XM{H:Hp}{a b:Addr}{o:HO}(h:b≠a):upd H a o b=H b:=by unfold upd;rw[if_neg h]
theorem HJ{H:Hp}{a b:Addr}{o u:HO}(h:H a=some o)(h':H b=some u)(d:o≠u):a≠b:=by
 intro e;subst e;rw[h]at h';exact d (Y7 h')
theorem Vc{H:Hp}{a b:Addr}{o:HO}(h:H a=some o)(h':H b=none):a≠b:=by
 intro e;subst e;rw[h]at h';cases h'
section
variable(P:Xv)(w:Xn)
def ObjOk(H:Hp)(h:Heap)(a:Addr):HO->Prop
 |.lst xs=>xs.length≤sizeLine/\∃(its:List X0) (n:Nat),Vals xs its/\h.get? a=some {cls:=.type "list",data:=.seq its.toArray n}
 |.tup xs=>xs.length≤sizeLine/\∃its:List X0,Vals xs its/\IsTup h a its.toArray/\∃o,h.get? a=some o/\o.dict=none
 |.dK kvs=>kvs.length≤sizeLine/\(a==YL)=false/\∃vs,KV kvs vs/\h.DictOf (Yz P w) a vs
 |.dT kvs=>kvs.length≤sizeLine/\(a==YL)=false/\∃xs:List (List Key×Addr×X0),
   Paired (fun(p:List Key×V) (q:List Key×Addr×X0)=>p.1=q.1/\H q.2.1=some (.tup (p.1.map kV))/\RelV p.2 q.2.2) kvs xs/\
   ∃o es ep,h.get? a=some o/\o.ExactDict/\o.data=.dict es ep/\es.toList=xs.map (entryOfKey (tupleKind (Yz P w)))/\(xs.map (·.1)).Nodup
 |.set S n=>h.SetOf (intKind P w) a S n
 |.ins C dx fs=>H dx=some (.own a)/\fs.length≤1000/\dx≠a/\h.get? a=some (UH C dx)/\
   ∃mA,h.Ns1 dx mA/\(∀f,RelO (fs.lookup f) (mA f))/\DR mA (fs.map (·.1))
 |.own _=>∃o,h.get? a=some o
 |.xd fs=>∃mA,h.Ns1 a mA/\∀f,RelO (fs.lookup f) (mA f)
 |.rng lo hi=>∃t u v,h.get? a=some {cls:=.type "range",data:=.fields #[.int lo t,.int hi u,.int 1 v]}
 |.frz o u=>h.get? a=some o/\ObjOk H h a u
 |.tbl ps=>h.get? a=some {cls:=.none,data:=.fields ps}
 |.met f x=>h.get? a=some (DH (.ref f) (.ref x))
 |.ext φ=>φ h/\(∃o,h.get? a=some o)/\∀h1 h2:Heap,φ h1->(∀o,h1.get? a=some o->h2.get? a=some o)->φ h2
def HOk(H:Hp)(h:Heap):Prop:=∀a o,H a=some o->ObjOk P w H h a o
end
section
variable{P:Xv}{w:Xn}{H H':Hp}{h h':Heap}{a:Addr}{o:HO}
theorem ObjOk.lt(x:ObjOk P w H h a o):a<h.objs.size:=by
 cases o with
 |lst xs=>obtain⟨_,_,_,_,e⟩:=x;exact Xu e
 |tup xs=>obtain⟨_,_,_,p⟩:=x;exact p.1.lt
 |dK kvs=>obtain⟨_,_,_,_,o,_,_,e,_⟩:=x;exact Xu e
 |dT kvs=>obtain⟨_,_,_,_,o,_,_,e,_⟩:=x;exact Xu e
 |set S n=>obtain⟨o,_,_,_,e,_⟩:=x;exact Xu e
 |ins C dx fs=>obtain⟨_,_,_,e,_⟩:=x;exact Xu e
 |own y=>obtain⟨_,e⟩:=x;exact Xu e
 |xd fs=>obtain⟨_,⟨_,_,_,e,_⟩,_⟩:=x;exact Xu e
 |rng lo hi=>obtain⟨_,_,_,e⟩:=x;exact Xu e
 |frz ob u=>obtain⟨e,_⟩:=x;exact Xu e
 |tbl ps=>exact Xu (show h.get? a=some _ from x)
 |met f y=>exact Xu (show h.get? a=some _ from x)
 |ext φ=>obtain⟨_,⟨_,e⟩,_⟩:=x;exact Xu e
theorem Paired.mapP{α β:Type}{F G:α->β->Prop}:∀{l₁:List α} {l₂:List β},Paired F l₁ l₂->(∀a b,F a b->G a b)->Paired G l₁ l₂
 |_,_,.nil,_=>.nil
 |_,_,.cons r t,f=>.cons (f _ _ r) (Paired.mapP t f)
theorem ObjOk.stay(x:ObjOk P w H h a o)(k:∀b u,(b=a\/H b=some (.own a))->h.get? b=some u->h'.get? b=some u)
  (ho:∀b,H b=some (.own a)->H' b=some (.own a)) (ht:∀b xs,H b=some (.tup xs)->H' b=some (.tup xs)):ObjOk P w H' h' a o:=by
 induction o with
 |lst xs=>obtain⟨z,its,n,r,e⟩:=x;exact⟨z,its,n,r,k _ _ (.inl rfl) e⟩
 |tup xs=>obtain⟨z,its,r,⟨ob,e,c⟩,o2,e2,c2⟩:=x;exact⟨z,its,r,⟨ob,k _ _ (.inl rfl) e,c⟩,o2,k _ _ (.inl rfl) e2,c2⟩
 |dK kvs=>obtain⟨z,y,vs,r,ob,es,ep,e,c⟩:=x;exact⟨z,y,vs,r,ob,es,ep,k _ _ (.inl rfl) e,c⟩
 |dT kvs=>
  obtain⟨z,y,xs,r,ob,es,ep,e,c⟩:=x;exact⟨z,y,xs,Paired.mapP r λp q z=>⟨z.1,ht _ _ z.2.1,z.2.2⟩,ob,es,ep,k _ _ (.inl rfl) e,c⟩
 |set S n=>obtain⟨ob,es,ep,t,e,c⟩:=x;exact⟨ob,es,ep,t,k _ _ (.inl rfl) e,c⟩
 |ins C dx fs=>
  obtain⟨d,z,ne,e,mA,⟨od,es,ep,e2,c⟩,r⟩:=x;exact⟨ho _ d,z,ne,k _ _ (.inl rfl) e,mA,⟨od,es,ep,k _ _ (.inr d) e2,c⟩,r⟩
 |own y=>obtain⟨ob,e⟩:=x;exact⟨ob,k _ _ (.inl rfl) e⟩
 |xd fs=>obtain⟨mA,⟨od,es,ep,e,c⟩,r⟩:=x;exact⟨mA,⟨od,es,ep,k _ _ (.inl rfl) e,c⟩,r⟩
 |rng lo hi=>obtain⟨t,u,v,e⟩:=x;exact⟨t,u,v,k _ _ (.inl rfl) e⟩
 |frz ob u ih=>obtain⟨e,q⟩:=x;exact⟨k _ _ (.inl rfl) e,ih q⟩
 |tbl ps=>
  have e:h.get? a=some {cls:=.none,data:=.fields ps}:=x;show h'.get? a=some {cls:=.none,data:=.fields ps};exact k a _ (.inl rfl) e
 |met f y=>
  have e:h.get? a=some (DH (.ref f) (.ref y)):=x;show h'.get? a=some (DH (.ref f) (.ref y));exact k a _ (.inl rfl) e
 |ext φ=>obtain⟨p,⟨o,e⟩,st⟩:=x;exact⟨st _ _ p λo q=>k _ _ (.inl rfl) q,⟨o,k _ _ (.inl rfl) e⟩,st⟩
theorem HOk.lt(x:HOk P w H h)(e:H a=some o):a<h.objs.size:=(x a o e).lt
theorem HOk.fresh(x:HOk P w H h)(e:h.objs.size≤a):H a=none:=by
 cases q:H a with
 |none=>rfl
 |some u=>exact absurd (Yy (x.lt q) e) (ZY _)
theorem HOk.kept(x:HOk P w H h)(k:∀b u,h.get? b=some u->h'.get? b=some u):HOk P w H h':=λa o e=>
 (x a o e).stay (λb u _ q=>k b u q) (λ_ q=>q) λ_ _ q=>q
theorem HOk.laid(x:HOk P w H h)(k:∀b u,h.get? b=some u->h'.get? b=some u)(hp:h.objs.size≤a)(new:ObjOk P w (upd H a o) h' a o):HOk P w (upd H a o) h':=λb u e=>by
 have hn:=x.fresh hp;by_cases hb:b=a
 ·subst hb;rw[_G]at e;cases e;exact new
 ·rw[XM hb]at e;exact(x b u e).stay (λc v _ q=>k c v q) (λc q=>by rw[XM (Vc q hn)];exact q) λc xs q=>by rw[XM (Vc q hn)];exact q
end
def Rd(H:Hp)(a:Addr)(u:HO):Prop:=H a=some u\/∃o,H a=some (.frz o u)
theorem Rd.ok(r:Rd H a u)(x:HOk P w H h):ObjOk P w H h a u:=by
 rcases r with r|⟨o,r⟩
 ·exact x a u r
 ·obtain⟨_,q⟩:=x a _ r;exact q
def Mut:Option HO->Prop
 |some (.lst _)=>True
 |some (.dK _)=>True
 |some (.dT _)=>True
 |some (.set _ _)=>True
 |some (.ins _ _ _)=>True
 |some (.ext _)=>True
 |_=>False
section
variable{P:Xv}{w:Xn}{H:Hp}{h h':Heap}{x e:Addr}{o':HO}
theorem HOk.write(ok:HOk P w H h)(mu:Mut (H x))(he:e=x\/H e=some (.own x))(k:∀b u,b≠e->h.get? b=some u->h'.get? b=some u)(heo:∃u,h'.get? e=some u)
  (new:ObjOk P w (upd H x o') h' x o'):HOk P w (upd H x o') h':=λb u q=>by
 have nown:∀c y,H c=some (.own y)->c≠x:=λc y r z=>by subst z;rw[r]at mu;exact mu
 have ntup:∀c xs,H c=some (.tup xs)->c≠x:=λc xs r z=>by subst z;rw[r]at mu;exact mu
 by_cases hb:b=x
 ·subst hb;rw[_G]at q;cases q;exact new
 ·rw[XM hb]at q;by_cases hbe:b=e
  ·have q':H b=some (.own x):=by
    rcases he with z|z
    ·exact absurd (hbe.trans z) hb
    ·rw[hbe];exact z
   rw[q]at q';cases q';obtain⟨v,hv⟩:=heo;exact⟨v,by rw[hbe];exact hv⟩
  ·refine(ok b u q).stay (λc v hc r=>k c v ?_ r) (λc r=>by rw[XM (nown c b r)];exact r) λc xs r=>by rw[XM (ntup c xs r)];exact r
   rcases hc with rfl|hc
   ·exact hbe
   ·rintro rfl;rcases he with z|z
    ·exact nown c b hc z
    ·rw[hc]at z;cases z;exact hb rfl
end
structure Un (fs ex:List Addr) (H H':Hp) (h h':Heap):Prop where
 keep:∀b o,h.get? b=some o->H b=none->b∉fs->b∉ex->h'.get? b=some o
 slot:∀b o,h.get? b=some o->H b=none->b∈fs->b∉ex->∃sl,h'.get? b=some {o with slots:=sl}
 free:∀b o,h.get? b=some o->H b=none->b∉ex->H' b=none
 there:∀b o,h.get? b=some o->b∉ex->∃o',h'.get? b=some o'
 tups:∀b xs,H b=some (.tup xs)->H' b=some (.tup xs)
 frzs:∀b o u,H b=some (.frz o u)->H' b=some (.frz o u)
 tbls:∀b ps,H b=some (.tbl ps)->∃more,H' b=some (.tbl (ps++more))
section
variable{fs fs' ex ex':List Addr}{H H1 H2:Hp}{h h1 h2 h':Heap}{a x e:Addr}{o:HO}
theorem Un.any(u:Un fs ex H H1 h h1)(q:h.get? b=some ob)(n:H b=none)(hx:b∉ex):∃sl,h1.get? b=some {ob with slots:=sl}:=by
 by_cases hb:b∈fs
 ·exact u.slot b ob q n hb hx
 ·exact⟨ob.slots,u.keep b ob q n hb hx⟩
theorem Un.kept(k:∀b u,h.get? b=some u->h'.get? b=some u):Un fs ex H H h h':=
 ⟨λb ob q _ _ _=>k b ob q,λb ob q _ _ _=>⟨ob.slots,k b ob q⟩,λ_ _ _ n _=>n,λb ob q _=>⟨ob,k b ob q⟩,λ_ _ q=>q,λ_ _ _ q=>q,λ_ ps q=>⟨#[],by rw[q];simp⟩⟩
theorem Un.refl:Un fs ex H H h h:=Un.kept λ_ _ q=>q
theorem Un.laid(k:∀b u,h.get? b=some u->h'.get? b=some u)(hp:h.objs.size≤a)(hn:H a=none):Un fs ex H (upd H a o) h h' where
 keep:=λb u q _ _ _=>k b u q
 slot:=λb u q _ _ _=>⟨u.slots,k b u q⟩
 free:=λb u q n _=>by rw[XM (Xz (Yy (Xu q) hp))];exact n
 there:=λb u q _=>⟨u,k b u q⟩
 tups:=λb xs q=>by rw[XM (Vc q hn)];exact q
 frzs:=λb u xs q=>by rw[XM (Vc q hn)];exact q
 tbls:=λb ps q=>⟨#[],by rw[XM (Vc q hn),q];simp⟩
theorem Un.write(mu:Mut (H x))(he:e=x\/H e=some (.own x))(k:∀b u,b≠e->h.get? b=some u->h'.get? b=some u)(heo:∃u,h'.get? e=some u):Un fs ex H (upd H x o) h h':=by
 have hx:∀b,H b=none->b≠x:=λb n z=>by subst z;rw[n]at mu;exact mu
 have hb:∀b,H b=none->b≠e:=λb n z=>by
  subst z;rcases he with r|r
  ·exact hx b n r
  ·rw[n]at r;cases r
 have hm:∀b u,H b=some u->¬Mut (some u)->b≠x:=λb u q nm z=>by subst z;rw[q]at mu;exact nm mu
 refine⟨λb u q n _ _=>k b u (hb b n) q,λb u q n _ _=>⟨u.slots,k b u (hb b n) q⟩,λb u q n _=>by rw[XM (hx b n)];exact n,λb u q _=>?_,
  λb xs q=>by rw[XM (hm b _ q λz=>z)];exact q,λb u xs q=>by rw[XM (hm b _ q λz=>z)];exact q,λb ps q=>⟨#[],by rw[XM (hm b _ q λz=>z),q];simp⟩⟩
 by_cases hbe:b=e
 ·subst hbe;exact heo
 ·exact⟨u,k b u hbe q⟩
end
def trk(h:Heap)(H:Hp):List Addr:=(Xs h.objs.size).filter λa=>(H a).isSome
def hidT(h:Heap)(H:Hp):Heap:=PySem.W.hideAll h (trk h H)
theorem S2(h:Heap)(H:Hp):(hidT h H).objs.size=h.objs.size:=PySem.W.hideAll_size _ _
theorem S3(e:h.get? b=some o)(n:H b=none):(hidT h H).get? b=some o:=
 PySem.W.hideAll_get _ e λhm=>by
  have q:(H b).isSome=true:=(DC.mp hm).2;rw[n]at q;simp at q
theorem S4(e:(hidT h H).get? b=some o):h.get? b=some o/\H b=none:=by
 have e':h.get? b=some o:=PySem.W.of_hideAll (trk h H) e;refine⟨e',?_⟩;cases q:H b with
 |none=>rfl
 |some x=>
  have hm:b∈trk h H:=DC.mpr ⟨Za.mpr (Xu e'),by simp[q]⟩
  have z:(hidT h H).get? b=none:=PySem.W.hideAll_none (trk h H) hm;rw[z]at e;cases e
noncomputable def S5(g h:Heap)(L:Addr):List (Addr×Obj):=(Xs h.objs.size).filterMap λa=>if a=L\/(g.get? a).isSome=true then none else(h.get? a).map λo=>(a,o)
def rest(g h:Heap)(L d:Addr):List (Addr×Obj):=(S5 g h L).filter λp=>decide (p.1≠d)
structure Mod (K:X4) (mg:Str->Option X0) (base:Heap):Prop where
 kin:K.In base
 glob:base.Ns Xp mg
 blt:∃mb,base.Ns builtinsNs mb/\∀x:Str,x≠"__name__"->mb x=YF x
 nolimit:base.NoLimit
structure Cx where
 prog:Xv
 w:Xn
 K:X4
 mg:Str->Option X0
 base:Heap
 A:XA
 N:List Str
 s₀:X2
 H₀:Hp
 env:Env
 outer:List Env
 stack:List Env
 ex:List Addr
 fn:Str->Bool
 calm:Bool
 pn:List (Addr×Obj)
 xe:X0->X2->Prop
def frs(l:List Env):List Addr:=l.filterMap (·.frame)
abbrev Cx.fs(X:Cx):List Addr:=frs X.outer
def Vis(sc:Scope)(x:Str):Prop:=sc.names.lookup x=some .local\/sc.names.lookup x=some .cell\/sc.names.lookup x=some .free
def Loc(sc:Scope)(x:Str):Prop:=sc.names.lookup x=some .local\/sc.names.lookup x=some .cell
def Look(env:Env)(h:Heap)(m:Str->Option X0)(x:Str)(u:X0):Prop:=
 (env.kindOf x=some .local/\m x=some u)\/((env.kindOf x=some .cell\/env.kindOf x=some .free)/\∃c,env.cells.lookup x=some c/\h.IsCell c (some u))
structure Cx.Ok (X:Cx):Prop where
 mod:Mod X.K X.mg X.base
 kind:X.env.scope.kind=.function
 glob:X.env.globals=Xp
 blt:X.env.builtins=builtinsNs
 above:X.s₀.heap.objs.size≤X.env.locals
 inj:∀x y c,X.env.cells.lookup x=some c->X.env.cells.lookup y=some c->x=y
 has:∀x,(X.env.kindOf x=some .cell\/X.env.kindOf x=some .free)->∃c,X.env.cells.lookup x=some c
 cab:∀x c,X.fn x=true->X.env.cells.lookup x=some c->X.s₀.heap.objs.size≤c
 hd:X.calm=true->X.A.handled=none
 frames:X.A.frames=some X.stack
 stk:X.stack=X.outer\/(X.stack=X.env::X.outer/\X.env.frame=some X.env.locals)
 exf:∀b∈X.ex,b≠X.env.locals/\∀x c,X.env.cells.lookup x=some c->c≠b
 bs:∀b o,X.base.get? b=some o->X.s₀.heap.get? b=some o/\X.H₀ b=none
 bsz:X.base.objs.size≤X.s₀.heap.objs.size
 noex:∀b o,X.base.get? b=some o->b∉X.ex
 exfs:∀b∈X.ex,b∉X.fs
 funs:X.s₀.heap.FunFrames X.base X.outer
 frf:∀b∈X.fs,X.H₀ b=none
structure Inv (X:Cx) (pins:List (Addr×Obj)) (σ:List (Option V)) (H:Hp) (s:X2):Prop where
 ok:X.Ok
 os:s.os=X.s₀.os
 bare:AllBare s.gens
 base:Un X.fs X.ex X.H₀ H X.s₀.heap s.heap
 loc:∃m,s.heap.Ns X.env.locals m/\∀(i:Nat) (x:Str) (v:V),X.N[i]?=some x->σ[i]?=some (some v)->Vis X.env.scope x->∃u,RelV v u/\Look X.env s.heap m x u
 cell:∀x c,X.env.cells.lookup x=some c->∃v,s.heap.IsCell c v
 free:H X.env.locals=none
 freeC:∀x c,X.env.cells.lookup x=some c->H c=none
 pin:∀p∈X.pn++pins,s.heap.get? p.1=some p.2/\H p.1=none/\p.1≠X.env.locals/\p.1∉X.fs/\∀v,p.2.data≠.cell v
 hok:HOk X.prog X.w H s.heap
 len:σ.length=X.N.length
section
variable{X:Cx}{pins:List (Addr×Obj)}{σ:List (Option V)}{H H':Hp}{s:X2}{h':Heap}
theorem Cx.Ok.nofr(ok:X.Ok)(e:X.base.get? b=some o):b∉X.fs:=λhb=>by
 have:=(ok.funs.mem hb).1;rw[e]at this;cases this
theorem Inv.bs(I:Inv X pins σ H s):∀b o,X.base.get? b=some o->s.heap.get? b=some o/\H b=none:=λb o e=>
 ⟨I.base.keep b o (I.ok.bs b o e).1 (I.ok.bs b o e).2 (I.ok.nofr e) (I.ok.noex b o e),I.base.free b o (I.ok.bs b o e).1 (I.ok.bs b o e).2 (I.ok.noex b o e)⟩
theorem Inv.bk(I:Inv X pins σ H s):∀b o,X.base.get? b=some o->s.heap.get? b=some o:=λb o e=>(I.bs b o e).1
theorem Inv.mod(I:Inv X pins σ H s):Mod X.K X.mg X.base:=I.ok.mod
theorem Inv.kIn(I:Inv X pins σ H s):X.K.In s.heap:=I.ok.mod.kin.keeps I.bk
theorem Inv.lt(I:Inv X pins σ H s):X.env.locals<s.heap.objs.size:=let⟨_,hn,_⟩:=I.loc;hn.lt
theorem Inv.sz(I:Inv X pins σ H s):X.s₀.heap.objs.size≤s.heap.objs.size:=Y2 I.ok.above (BY I.lt)
theorem Inv.nofs(I:Inv X pins σ H s)(h:s.heap.objs.size≤a):a∉X.fs:=λhb=>by
 obtain⟨_,o,ho,_⟩:=I.ok.funs.mem hb;exact absurd (Yy (Xu ho) (Y2 I.sz h)) (ZY _)
theorem Inv.cne(I:Inv X pins σ H s):∀x c,X.env.cells.lookup x=some c->c≠X.env.locals:=λx c e z=>by
 obtain⟨v,o,ho,hd⟩:=I.cell x c e;obtain⟨m,⟨o',es,ep,ho',hd',_⟩,_⟩:=I.loc;rw[z,ho']at ho;cases ho;rw[hd']at hd;cases hd
theorem Inv.funs(I:Inv X pins σ H s):s.heap.FunFrames X.base X.outer:=by
 have all:∀(l:List Env),(∀b∈frs l,b∈X.fs)->X.s₀.heap.FunFrames X.base l->s.heap.FunFrames X.base l:=by
  intro l
  induction l with
  |nil=>intro _ _;trivial
  |cons env r ih=>
   intro hs hl;obtain⟨hk,⟨L,o,hf,hn,ho,hd⟩,hr⟩:=hl;have hL:L∈X.fs:=hs L (by unfold frs;rw[Dv,hf];exact Y8)
   obtain⟨sl,e⟩:=I.base.slot L o ho (I.ok.frf L hL) hL λz=>I.ok.exfs L z hL;exact⟨hk,⟨L,_,hf,hn,e,hd⟩,ih (λb hb=>hs b (by unfold frs;rw[Dv,hf];exact XS _ hb)) hr⟩
 exact all X.outer (λ_ hb=>hb) I.ok.funs
theorem Inv.stack(I:Inv X pins σ H s):s.heap.FunFrames X.base X.stack:=by
 rcases I.ok.stk with e|⟨e,hf⟩
 ·rw[e];exact I.funs
 ·rw[e];obtain⟨m,hn,_⟩:=I.loc;refine .cons (by rw[I.ok.kind];decide) hf hn ?_ I.funs
  exact Heap.get?_none_of_le (Y2 I.ok.bsz I.ok.above)
theorem Inv.stkSub(I:Inv X pins σ H s):∀b∈frs X.stack,b∈X.env.locals::X.fs:=λb hb=>by
 rcases I.ok.stk with e|⟨e,hf⟩
 ·rw[e]at hb;exact XS _ hb
 ·rw[e]at hb;unfold frs at hb;rw[Dv,hf]at hb;exact hb
theorem Inv.stkFree(I:Inv X pins σ H s):∀b∈frs X.stack,H b=none:=λb hb=>by
 rcases Xl.mp (I.stkSub b hb)with e|hb
 ·rw[e];exact I.free
 ·obtain⟨_,o,ho,_⟩:=I.ok.funs.mem hb;exact I.base.free b o ho (I.ok.frf b hb) λz=>I.ok.exfs b z hb
theorem Inv.step{g':Array GenState}{t':Nat}{d':Drawn}{ch:List Addr}(I:Inv X pins σ H s)
  (hch:∀b∈ch,(b∈X.ex\/X.s₀.heap.objs.size≤b)/\b≠X.env.locals/\(∀x c,X.env.cells.lookup x=some c->c≠b)/\∀p∈X.pn++pins,p.1≠b)
  (keep:∀b o,b≠X.env.locals->b∉X.fs->b∉ch->s.heap.get? b=some o->H b=none->h'.get? b=some o)
  (slot:∀b o,b≠X.env.locals->b∈X.fs->b∉ch->s.heap.get? b=some o->H b=none->∃sl,h'.get? b=some {o with slots:=sl}) (free:∀b o,b∉ch->s.heap.get? b=some o->H b=none->H' b=none)
  (there:∀b o,b∉ch->s.heap.get? b=some o->∃o',h'.get? b=some o')
  (tups:∀b xs,H b=some (.tup xs)->H' b=some (.tup xs)) (frzs:∀b o u,H b=some (.frz o u)->H' b=some (.frz o u)) (tbls:∀b ps,H b=some (.tbl ps)->∃more,H' b=some (.tbl (ps++more)))
  (ns:∀m,s.heap.Ns X.env.locals m->h'.Ns X.env.locals m) (hok:HOk X.prog X.w H' h') (hg:AllBare g'):
  Inv X pins σ H' {s with heap:=h',gens:=g',drawn:=d',toks:=t'}:=by
 have neL:∀b o,X.s₀.heap.get? b=some o->b≠X.env.locals:=λb o e=>Xz (Yy (Xu e) I.ok.above);have neC:∀b o,X.s₀.heap.get? b=some o->b∉X.ex->b∉ch:=λb o e hx hb=>by
  rcases(hch b hb).1 with z|z
  ·exact hx z
  ·exact absurd (Yy (Xu e) z) (ZY _)
 have cellK:∀x c,X.env.cells.lookup x=some c->∀v,s.heap.IsCell c v->h'.IsCell c v:=λx c e v ⟨o,ho,hd⟩=>by
  have nch:c∉ch:=λz=>(hch c z).2.2.1 x c e rfl;by_cases hc:c∈X.fs
  ·obtain⟨sl,q⟩:=slot c o (I.cne x c e) hc nch ho (I.freeC x c e);exact⟨_,q,hd⟩
  ·exact⟨o,keep c o (I.cne x c e) hc nch ho (I.freeC x c e),hd⟩
 refine⟨I.ok,I.os,hg,⟨λb o e n hb hx=>?_,λb o e n hb hx=>?_,λb o e n hx=>?_,λb o e hx=>?_,λb xs e=>tups b xs (I.base.tups b xs e),λb o xs e=>frzs b o xs (I.base.frzs b o xs e),λb ps e=>?_⟩,?_,λx c e=>?_,?_,λx c e=>?_,λp hp=>?_,hok,I.len⟩
 ·exact keep b o (neL b o e) hb (neC b o e hx) (I.base.keep b o e n hb hx) (I.base.free b o e n hx)
 ·obtain⟨sl,e1⟩:=I.base.slot b o e n hb hx;obtain⟨sl',e2⟩:=slot b _ (neL b o e) hb (neC b o e hx) e1 (I.base.free b o e n hx);exact⟨sl',e2⟩
 ·obtain⟨o',e1⟩:=I.base.there b o e hx;exact free b o' (neC b o e hx) e1 (I.base.free b o e n hx)
 ·obtain⟨o',e1⟩:=I.base.there b o e hx;exact there b o' (neC b o e hx) e1
 ·obtain⟨m1,e1⟩:=I.base.tbls b ps e;obtain⟨m2,e2⟩:=tbls b _ e1;exact⟨m1++m2,by rw[e2,Array.append_assoc]⟩
 ·obtain⟨m,hn,hl⟩:=I.loc;refine⟨m,ns m hn,λi x v e1 e2 e3=>?_⟩;obtain⟨u,r,l⟩:=hl i x v e1 e2 e3;refine⟨u,r,?_⟩;rcases l with l|⟨k,c,e,z⟩
  ·exact .inl l
  ·exact .inr ⟨k,c,e,cellK x c e _ z⟩
 ·obtain⟨v,z⟩:=I.cell x c e;exact⟨v,cellK x c e v z⟩
 ·obtain⟨m,⟨o,_,_,ho,_⟩,_⟩:=I.loc;exact free _ o (λz=>(hch _ z).2.1 rfl) ho I.free
 ·obtain⟨v,o,ho,hd⟩:=I.cell x c e;exact free c o (λz=>(hch c z).2.2.1 x c e rfl) ho (I.freeC x c e)
 ·obtain⟨e,n,ne,nf,d⟩:=I.pin p hp;have nch:p.1∉ch:=λz=>(hch p.1 z).2.2.2 p hp rfl;exact⟨keep p.1 p.2 ne nf nch e n,free p.1 p.2 nch e n,ne,nf,d⟩
theorem Inv.un{t':Nat}(I:Inv X pins σ H s)(u:Un X.fs [] H H' s.heap h')(hok:HOk X.prog X.w H' h'):Inv X pins σ H' {s with heap:=h',toks:=t'}:=by
 obtain⟨m,⟨o,es,ep,ho,r⟩,_⟩:=id I.loc;obtain⟨sl,hL⟩:=u.any ho I.free (by simp)
 exact I.step (g':=s.gens) (d':=s.drawn) (ch:=[]) (λ_ z=>nomatch z) (λb o _ hb _ e n=>u.keep b o e n hb (by simp)) (λb o _ hb _ e n=>u.slot b o e n hb (by simp)) (λb o _ e n=>u.free b o e n (by simp)) (λb o _ e=>u.there b o e (by simp)) u.tups u.frzs u.tbls (λm' hm=>by
  obtain⟨o',es',ep',ho',r'⟩:=hm;rw[ho]at ho';cases ho';exact⟨_,es',ep',hL,r'⟩) hok I.bare
theorem Inv.call{g':Array GenState}{t':Nat}{d':Drawn}{ch:List Addr}(I:Inv X pins σ H s)(u:Un (frs X.stack) ch H H' s.heap h')(hok:HOk X.prog X.w H' h')(hg:AllBare g')
  (hch:∀b∈ch,(b∈X.ex\/X.s₀.heap.objs.size≤b)/\b≠X.env.locals/\(∀x c,X.env.cells.lookup x=some c->c≠b)/\∀p∈X.pn++pins,p.1≠b):
  Inv X pins σ H' {s with heap:=h',gens:=g',drawn:=d',toks:=t'}:=by
 obtain⟨m,⟨o,es,ep,ho,r⟩,_⟩:=id I.loc;obtain⟨sl,hL⟩:=u.any ho I.free λz=>(hch _ z).2.1 rfl;exact I.step (ch:=ch) hch (λb o hL hb hc e n=>u.keep b o e n (λz=>(Xl.mp (I.stkSub b z)).elim hL hb) hc) (λb o _ _ hc e n=>u.any e n hc) (λb o hc e n=>u.free b o e n hc) (λb o hc e=>u.there b o e hc) u.tups u.frzs u.tbls (λm' hm=>by
  obtain⟨o',es',ep',ho',r'⟩:=hm;rw[ho]at ho';cases ho';exact⟨_,es',ep',hL,r'⟩) hok hg
theorem Inv.turned{t':Nat}{it:Addr}(I:Inv X pins σ H s)(k:∀b o,b≠it->s.heap.get? b=some o->h'.get? b=some o)(hn:H it=none)(hL:it≠X.env.locals)
  (h1:it∈X.ex\/X.s₀.heap.objs.size≤it) (h2:∀x c,X.env.cells.lookup x=some c->c≠it) (h3:∀p∈X.pn++pins,p.1≠it):Inv X pins σ H {s with heap:=h',toks:=t'}:=by
 have nit:∀b u,H b=some u->b≠it:=λb u e z=>by rw[z,hn]at e;cases e
 refine I.step (g':=s.gens) (d':=s.drawn) (ch:=[it]) (λb hb=>?_) (λb o _ _ hc e _=>k b o (λz=>hc (by simp[z])) e) (λb o _ _ hc e _=>⟨o.slots,k b o (λz=>hc (by simp[z])) e⟩) (λ_ _ _ _ n=>n)
  (λb o hc e=>⟨o,k b o (λz=>hc (by simp[z])) e⟩) (λ_ _ e=>e) (λ_ _ _ e=>e) (λb ps e=>⟨#[],by rw[e];simp⟩) (λm hm=>?_) (λb u e=>?_) I.bare
 ·have e:b=it:=by simpa using hb
  subst e;exact⟨h1,hL,h2,h3⟩
 ·obtain⟨o,es,ep,ho,r⟩:=hm;exact⟨o,es,ep,k _ o (XQ hL) ho,r⟩
 ·refine(I.hok b u e).stay (λc v hc q=>k c v ?_ q) (λ_ q=>q) λ_ _ q=>q;rcases hc with z|z
  ·rw[z];exact nit b u e
  ·exact nit c _ z
theorem Inv.tok(I:Inv X pins σ H s)(t:Nat):Inv X pins σ H {s with toks:=t}:=I.un (h':=s.heap) (t':=t) Un.refl I.hok
theorem Inv.kept(I:Inv X pins σ H s)(k:∀b u,s.heap.get? b=some u->h'.get? b=some u):Inv X pins σ H {s with heap:=h',toks:=t'}:=I.un (Un.kept k) (I.hok.kept k)
theorem Inv.laid(I:Inv X pins σ H s)(k:∀b u,s.heap.get? b=some u->h'.get? b=some u)(hp:s.heap.objs.size≤a)(new:ObjOk X.prog X.w (upd H a o) h' a o):
  Inv X pins σ (upd H a o) {s with heap:=h',toks:=t'}:=I.un (Un.laid k hp (I.hok.fresh hp)) (I.hok.laid k hp new)
theorem Inv.write(I:Inv X pins σ H s)(mu:Mut (H x))(he:e=x\/H e=some (.own x))(k:∀b u,b≠e->s.heap.get? b=some u->h'.get? b=some u)(heo:∃u,h'.get? e=some u)
  (new:ObjOk X.prog X.w (upd H x o) h' x o):Inv X pins σ (upd H x o) {s with heap:=h',toks:=t'}:=I.un (Un.write mu he k heo) (I.hok.write mu he k heo new)
theorem Inv.weak(I:Inv X pins σ H s)(hl:σ'.length=σ.length)(w:∀(i:Nat) v,σ'[i]?=some (some v)->σ[i]?=some (some v)):Inv X pins σ' H s:=
 ⟨I.ok,I.os,I.bare,I.base,let⟨m,hn,hl'⟩:=I.loc;⟨m,hn,λi x v e1 e2 e3=>hl' i x v e1 (w i v e2) e3⟩,I.cell,I.free,I.freeC,I.pin,I.hok,hl.trans I.len⟩
theorem Inv.pins_of(I:Inv X pins σ H s)(h:∀p∈pins',s.heap.get? p.1=some p.2/\H p.1=none/\p.1≠X.env.locals/\p.1∉X.fs/\∀v,p.2.data≠.cell v):Inv X pins' σ H s:=
 ⟨I.ok,I.os,I.bare,I.base,I.loc,I.cell,I.free,I.freeC,λp hp=>(Yw.mp hp).elim (λz=>I.pin p (List.mem_append_left _ z)) (h p),I.hok,I.len⟩
theorem HK{N:List Str}(hN:N.Nodup){i j:Nat}{x:Str}(a:N[i]?=some x) (b:N[j]?=some x):i=j:=by
 obtain⟨h1,e1⟩:=XG.mp a;obtain⟨h2,e2⟩:=XG.mp b;exact(BN hN).mp (e1.trans e2.symm)
theorem HL{M:Model}{A:XA}{E:X0->X2->Prop}{i:Nat}{x:Str}{v:V}{u:X0}{Q:Unit->X2->Prop}(I:Inv X pins σ H s)(hN:X.N.Nodup)(hi:X.N[i]?=some x) (hx:Loc X.env.scope x) (r:RelV v u)
  (h:∀s',Inv X pins (σ.set i (some v)) H s'->(∃a,ZX a s.heap s'.heap/\(a=X.env.locals\/X.env.cells.lookup x=some a))->Q () s') (hf:X.fn x=true\/X.env.scope.names.lookup x=some .local:=by first|exact .inl rfl|exact .inr rfl|assumption):X3 M A (storeName X.env x u) Q E s:=by
 obtain⟨m,hn,hl⟩:=id I.loc;have hcls:(X.env.scope.kind==.class||(X.env.scope.kind==.module&&X.env.locals != X.env.globals))=false:=by rw[I.ok.kind];rfl
 have hiσ:i<σ.length:=by rw[I.len];exact(XG.mp hi).1
 have cne:=I.cne;have tracked:∀{a:Addr} {h':Heap},(∃o,s.heap.get? a=some o/\H a=none)->ZX a s.heap h'->HOk X.prog X.w H h':=fun{a h'} ha hs b ob e=>by
  obtain⟨_,_,jj⟩:=ha;refine(I.hok b ob e).stay (λc w' hc q=>(hs.2 c ?_).trans q) (λ_ q=>q) λ_ _ q=>q;rintro rfl;rcases hc with rfl|hc
  ·rw[jj]at e;cases e
  ·rw[jj]at hc;cases hc
 rcases hx with hk|hk
 ·refine wpAny_storeName_local hk hn (λh' hn' hs=>?_) hcls;obtain⟨oL,_,_,hoL,_⟩:=id hn;refine h _ ⟨I.ok,I.os,I.bare,⟨λb o e n hb hx=>?_,λb o e n hb hx=>?_,I.base.free,λb o e hx=>?_,I.base.tups,I.base.frzs,I.base.tbls⟩,⟨_,hn',λj y v' e1 e2 e3=>?_⟩,λy c e=>?_,I.free,I.freeC,λp hp=>?_,tracked ⟨oL,hoL,I.free⟩ hs,by simpa using I.len⟩ ⟨_,hs,.inl rfl⟩
  ·exact(hs.2 b (Xz (Yy (Xu e) I.ok.above))).trans (I.base.keep b o e n hb hx)
  ·obtain⟨sl,e1⟩:=I.base.slot b o e n hb hx;exact⟨sl,(hs.2 b (Xz (Yy (Xu e) I.ok.above))).trans e1⟩
  ·obtain⟨o',e1⟩:=I.base.there b o e hx;exact⟨o',(hs.2 b (Xz (Yy (Xu e) I.ok.above))).trans e1⟩
  ·by_cases hj:j=i
   ·subst hj;rw[hi]at e1;cases e1;rw[Du hiσ]at e2;cases e2;exact⟨u,r,.inl ⟨hk,by simp⟩⟩
   ·rw[BJ (XQ hj)]at e2;obtain⟨u',r',q⟩:=hl j y v' e1 e2 e3;refine⟨u',r',?_⟩;rcases q with⟨k,e⟩|⟨k,c,e,z⟩
    ·refine .inl ⟨k,?_⟩;have:y≠x:=λe=>hj (HK hN e1 (e▸hi));simp[this,e]
    ·exact .inr ⟨k,c,e,z.sameBut hs (cne y c e)⟩
  ·obtain⟨w',z⟩:=I.cell y c e;exact⟨w',z.sameBut hs (cne y c e)⟩
  ·obtain⟨e,n,ne,nf,d⟩:=I.pin p hp;exact⟨(hs.2 p.1 ne).trans e,n,ne,nf,d⟩
 ·have hfn:X.fn x=true:=by
   rcases hf with z|z
   ·exact z
   ·rw[z]at hk;cases hk
  obtain⟨c,hc⟩:=I.ok.has x (.inl hk);obtain⟨w',z⟩:=I.cell x c hc;refine wpAny_storeName_cell I.ok.kind hk hc z (λh' hc' hs=>?_);obtain⟨oc,hoc,hocd⟩:=id z;refine h {s with heap:=h'} ⟨I.ok,I.os,I.bare,⟨λb o e n hb hx=>?_,λb o e n hb hx=>?_,I.base.free,λb o e hx=>?_,I.base.tups,I.base.frzs,I.base.tbls⟩,⟨m,hn.sameBut hs (XQ (cne x c hc)),λj y v' e1 e2 e3=>?_⟩,λy c' e=>?_,I.free,I.freeC,λp hp=>?_,tracked ⟨oc,hoc,I.freeC x c hc⟩ hs,by simpa using I.len⟩ ⟨c,hs,.inr hc⟩
  ·exact(hs.2 b (Xz (Yy (Xu e) (I.ok.cab x c hfn hc)))).trans (I.base.keep b o e n hb hx)
  ·obtain⟨sl,e1⟩:=I.base.slot b o e n hb hx;exact⟨sl,(hs.2 b (Xz (Yy (Xu e) (I.ok.cab x c hfn hc)))).trans e1⟩
  ·obtain⟨o',e1⟩:=I.base.there b o e hx;exact⟨o',(hs.2 b (Xz (Yy (Xu e) (I.ok.cab x c hfn hc)))).trans e1⟩
  ·by_cases hj:j=i
   ·subst hj;rw[hi]at e1;cases e1;rw[Du hiσ]at e2;cases e2;exact⟨u,r,.inr ⟨.inl hk,c,hc,hc'⟩⟩
   ·rw[BJ (XQ hj)]at e2;obtain⟨u',r',q⟩:=hl j y v' e1 e2 e3;refine⟨u',r',?_⟩;rcases q with q|⟨k,c',e,z'⟩
    ·exact .inl q
    ·refine .inr ⟨k,c',e,z'.sameBut hs ?_⟩;rintro rfl;exact hj (HK hN e1 (I.ok.inj _ _ _ e hc▸hi))
  ·by_cases hcc:c'=c
   ·subst hcc;exact⟨_,hc'⟩
   ·obtain⟨w2,z2⟩:=I.cell y c' e;exact⟨w2,z2.sameBut hs hcc⟩
  ·obtain⟨e,n,ne,nf,d⟩:=I.pin p hp;refine⟨(hs.2 p.1 ?_).trans e,n,ne,nf,d⟩;intro q;rw[q,hoc]at e;have q':oc=p.2:=Y7 e;exact d w' (by rw[<- q'];exact hocd)
theorem HM(I:Inv X pins σ H s)(hN:X.N.Nodup)(hi:X.N[i]?=some x) (hx:Loc X.env.scope x) (r:RelV v u)
  (h:∀s',Inv X pins (σ.set i (some v)) H s'->Q () s') (hf:X.fn x=true\/X.env.scope.names.lookup x=some .local:=by first|exact .inl rfl|exact .inr rfl|assumption):X3 M A (storeName X.env x u) Q E s:=
 HL I hN hi hx r (λs' I' _=>h s' I') hf
theorem Inv.call'(I:Inv X pins σ H s)(ho:s'.os=s.os)(u:Un (frs X.stack) ch H H' s.heap s'.heap)(hok:HOk X.prog X.w H' s'.heap)(hg:AllBare s'.gens)
  (hch:∀b∈ch,(b∈X.ex\/X.s₀.heap.objs.size≤b)/\b≠X.env.locals/\(∀x c,X.env.cells.lookup x=some c->c≠b)/\∀p∈X.pn++pins,p.1≠b):Inv X pins σ H' s':=by
 obtain⟨h',g',d',t',o'⟩:=s';have e:o'=s.os:=ho;subst e;exact I.call (g':=g') (t':=t') (d':=d') u hok hg hch
end
abbrev XK:=X0->Option Addr->Hp->Prop
abbrev St:=List (Option V)
abbrev VK:=V->Hp->Prop
abbrev TE:=St->Hp->VK->Prop
abbrev TT:=St->Hp->(Bool->Hp->Prop)->Prop
abbrev TA:=St->Hp->(List V->Hp->Prop)->Prop
structure Ends where
 nx:St->Hp->Prop
 rt:VK
 bk:St->Hp->Prop:=λ_ _=>False
 ct:St->Hp->Prop:=λ_ _=>False
abbrev TS:=Ends->St->Hp->Prop
def EP(X:Cx)(pins:List (Addr×Obj))(σ:St)(Q:VK)(u:X0)(s':X2):Prop:=∃v H',Inv X pins σ H' s'/\RelV v u/\Q v H'
def TP(X:Cx)(pins:List (Addr×Obj))(σ:St)(Q:Bool->Hp->Prop)(b:Bool)(s':X2):Prop:=∃H',Inv X pins σ H' s'/\Q b H'
def AP(X:Cx)(pins:List (Addr×Obj))(σ:St)(Q:List V->Hp->Prop)(us:List X0)(s':X2):Prop:=∃vs H',Inv X pins σ H' s'/\Vals vs us/\Q vs H'
def SP(X:Cx)(pins:List (Addr×Obj))(D:Ends)(f:Flow)(s':X2):Prop:=
 match f with
 |.next=>∃σ' H',Inv X pins σ' H' s'/\D.nx σ' H'
 |.brk=>∃σ' H',Inv X pins σ' H' s'/\D.bk σ' H'
 |.cont=>∃σ' H',Inv X pins σ' H' s'/\D.ct σ' H'
 |.ret u=>∃v σ' H',Inv X pins σ' H' s'/\RelV v u/\D.rt v H'
def PE(X:Cx)(e:Expr)(t:TE):Prop:=
 ∀(pins:List (Addr×Obj)) (s:X2) (σ:St) (H:Hp) (Q:VK),Inv X pins σ H s->t σ H Q->X3 (X6 X.prog X.w) X.A (eval e X.env) (EP X pins σ Q) X.xe s
def PT(X:Cx)(e:Expr)(t:TT):Prop:=
 ∀(pins:List (Addr×Obj)) (s:X2) (σ:St) (H:Hp) (Q:Bool->Hp->Prop),Inv X pins σ H s->t σ H Q->X3 (X6 X.prog X.w) X.A (isTrue e X.env (eval e X.env)) (TP X pins σ Q) X.xe s
def PW(X:Cx)(e:Expr)(t:TT):Prop:=
 ∀(whole:Sem X0) (pins:List (Addr×Obj)) (s:X2) (σ:St) (H:Hp) (Q:Bool->Hp->Prop),Inv X pins σ H s->t σ H Q->X3 (X6 X.prog X.w) X.A (isTrue e X.env whole) (TP X pins σ Q) X.xe s
theorem PW.pt{t:TT}(h:PW X e t):PT X e t:=h _
def PA(X:Cx)(es:List Expr)(t:TA):Prop:=
 ∀(pos:Pos) (pins:List (Addr×Obj)) (s:X2) (σ:St) (H:Hp) (Q:List V->Hp->Prop),Inv X pins σ H s->t σ H Q->X3 (X6 X.prog X.w) X.A (spliced (XY pos (XB es X.env))) (AP X pins σ Q) X.xe s
def PS(X:Cx)(st:Stmt)(t:TS):Prop:=
 ∀(pins:List (Addr×Obj)) (s:X2) (σ:St) (H:Hp) (D:Ends),Inv X pins σ H s->t D σ H->X3 (X6 X.prog X.w) X.A (exec st X.env) (SP X pins D) X.xe s
def PSs(X:Cx)(st:List Stmt)(t:TS):Prop:=
 ∀(pins:List (Addr×Obj)) (s:X2) (σ:St) (H:Hp) (D:Ends),Inv X pins σ H s->t D σ H->X3 (X6 X.prog X.w) X.A (execs st X.env) (SP X pins D) X.xe s
theorem thn{α:Type}{t:Sem α}{Q Q':α->X2->Prop}{M:Model}{A:XA}{E:X0->X2->Prop}{s:X2}(h:X3 M A t Q E s)(hQ:∀a s,Q a s->Q' a s):X3 M A t Q' E s:=Zu h hQ λ_ _ x=>x
section
variable{X:Cx}
theorem bin{a b:Expr}{ta tb:TE}(ha:PE X a ta)(hb:PE X b tb){pins:List (Addr×Obj)}{s:X2}{σ:St}{H:Hp}{R:V->V->Hp->Prop}(I:Inv X pins σ H s)(h:ta σ H λx H1=>tb σ H1 λy H2=>R x y H2)
  {α:Type} {Q:α->X2->Prop} {f:X0->X0->Sem α}
  (hf:∀v u s2 x y H2,Inv X pins σ H2 s2->RelV x v->RelV y u->R x y H2->X3 (X6 X.prog X.w) X.A (f v u) Q X.xe s2):
  X3 (X6 X.prog X.w) X.A (eval a X.env) (λv s₁=>X3 (X6 X.prog X.w) X.A (eval b X.env) (λu s₂=>X3 (X6 X.prog X.w) X.A (f v u) Q X.xe s₂) X.xe s₁) X.xe s:=by
 refine thn (ha pins s σ H _ I h) λv s1 ⟨x,H1,I1,r1,q1⟩=>?_;refine thn (hb pins s1 σ H1 _ I1 q1) λu s2 ⟨y,H2,I2,r2,q2⟩=>?_;exact hf v u s2 x y H2 I2 r1 r2 q2
def tVar(i:Nat):TE:=λσ H Q=>∃v,σ[i]?=some (some v)/\Q v H
def tC(v:V):TE:=λ_ H Q=>Q v H
theorem HN{i:Nat}{x:Str}{pos:Pos}(hN:X.N[i]?=some x) (hv:Vis X.env.scope x) (hd:(x==("__debug__":Str))=false:=by decide) (hcd:(x==("__classdict__":Str))=false:=by decide):PE X (.Name x pos) (tVar i):=by
 intro pins s σ H Q I h;obtain⟨v,e,h⟩:=h;obtain⟨m,hn,hl⟩:=I.loc;obtain⟨u,r,l⟩:=hl i x v hN e hv;have fin:EP X pins σ Q u s:=⟨v,H,I,r,h⟩;rcases l with⟨hk,hm⟩|⟨hk,c,hc,hcell⟩
 ·exact wpAny_Name (wpAny_loadName_local I.ok.kind hk hn hm fin) hd
 ·rcases hk with hk|hk
  ·exact wpAny_Name (wpAny_loadName_cell I.ok.kind hk hc hcell fin) hd
  ·exact wpAny_Name (wpAny_loadName_free I.ok.kind hk hc hcell fin hcd) hd
theorem pe_int{i j pos}:PE X (.Constant (.int i) j pos) (tC (.int i)):=λ_ _ _ H _ I h=>wpAny_Constant_int ⟨.int i,H,I.tok _,⟨_,rfl⟩,h⟩
theorem pe_bl{b j pos}:PE X (.Constant (.bool b) j pos) (tC (.bl b)):=λ_ _ _ H _ I h=>Constant_bool ⟨.bl b,H,I,rfl,h⟩
theorem pe_non{j pos}:PE X (.Constant .none j pos) (tC .non):=λ_ _ _ H _ I h=>Constant_none ⟨.non,H,I,rfl,h⟩
theorem pe_str{x j pos}:PE X (.Constant (.str x) j pos) (tC (.str x)):=λ_ _ _ H _ I h=>Calls.Constant_str ⟨.str x,H,I.tok _,⟨_,rfl⟩,h⟩
def Gl(X:Cx)(x:Str):Prop:=X.env.kindOf x=some .globalImplicit
theorem E3(I:Inv X pins σ H s)(hg:Gl X x)(hm:X.mg x=some u)(h:Q u s)
  (hd:(x==("__debug__":Str))=false:=by decide):X3 (X6 X.prog X.w) X.A (eval (.Name x pos) X.env) Q E s:=
 HB I.ok.kind hg (Calls.loadGlobal_global (by rw[I.ok.glob];exact I.mod.glob.keeps I.bk) hm h) hd
theorem UL(I:Inv X pins σ H s)(hg:Gl X x)(hm:X.mg x=none)(hv:YF x=some u)(h:Q u s)
  (hn:x≠"__name__":=by decide) (hd:(x==("__debug__":Str))=false:=by decide):X3 (X6 X.prog X.w) X.A (eval (.Name x pos) X.env) Q E s:=by
 obtain⟨mb,h1,h2⟩:=I.mod.blt;exact HB I.ok.kind hg (Calls.loadGlobal_builtin (by rw[I.ok.glob];exact I.mod.glob.keeps I.bk) hm (by rw[I.ok.blt];exact h1.keeps I.bk) ((h2 x hn).trans hv) h) hd
theorem S6{x:Str}{v:V}{u:X0}{pos:Pos}(hg:Gl X x)(hm:X.mg x=some u)(r:RelV v u)(hd:(x==("__debug__":Str))=false:=by decide):PE X (.Name x pos) (tC v):=
 λ_ _ _ H _ I h=>E3 I hg hm ⟨v,H,I,r,h⟩ hd
theorem S7{x:Str}{v:V}{u:X0}{pos:Pos}(hg:Gl X x)(hm:X.mg x=none)(hv:YF x=some u)(r:RelV v u)(hn:x≠"__name__":=by decide)(hd:(x==("__debug__":Str))=false:=by decide):PE X (.Name x pos) (tC v):=
 λ_ _ _ H _ I h=>UL I hg hm hv ⟨v,H,I,r,h⟩ hn hd
variable{a b:Expr}{ta tb:TE}{pos:Pos}
def tB(t:TE):TT:=λσ H Q=>t σ H λx H1=>∃c,x=.bl c/\Q c H1
theorem S8{e:Expr}{t:TE}(h:PE X e t)(he:∀whole,isTrue e X.env whole=(do let v<- whole;standAt e.pos;Z3 [v] (truthy v)):=by intro _;rfl):PT X e (tB t):=by
 intro pins s σ H Q I hw;refine isTrue_plain (thn (h pins s σ H _ I hw) λv s1 ⟨x,H1,I1,r1,q1⟩=>?_) (he _);obtain⟨d,rfl,q⟩:=q1;cases r1;exact Zv ⟨H1,I1,q⟩
variable{tA tB':TT}{rest:List Expr}
def tAnd(t u:TT):TT:=λσ H Q=>t σ H λc H1=>if c=true then u σ H1 Q else Q false H1
def tOr(t u:TT):TT:=λσ H Q=>t σ H λc H1=>if c=true then Q true H1 else u σ H1 Q
def tNot(t:TT):TT:=λσ H Q=>t σ H λc H1=>Q (!c) H1
theorem pw_and1(ha:PT X a tA):PW X (.BoolOp .And [a] pos) tA:=by
 intro wh pins s σ H Q I h;refine isTrue_and (thn (ha pins s σ H Q I h) λc s1 e=>?_);cases c with
 |true=>exact isTrue_and_nil e
 |false=>exact e
theorem pw_or1(ha:PT X a tA):PW X (.BoolOp .Or [a] pos) tA:=by
 intro wh pins s σ H Q I h;refine isTrue_or (thn (ha pins s σ H Q I h) λc s1 e=>?_);cases c with
 |false=>exact isTrue_or_nil e
 |true=>exact e
theorem pw_and(ha:PT X a tA)(hb:PW X (.BoolOp .And (b::rest) pos) tB'):PW X (.BoolOp .And (a::b::rest) pos) (tAnd tA tB'):=by
 intro wh pins s σ H Q I h;refine isTrue_and (thn (ha pins s σ H _ I h) λc s1 ⟨H1,I1,q1⟩=>?_);cases c with
 |true=>exact hb wh pins s1 σ H1 Q I1 q1
 |false=>exact⟨H1,I1,q1⟩
theorem pw_or(ha:PT X a tA)(hb:PW X (.BoolOp .Or (b::rest) pos) tB'):PW X (.BoolOp .Or (a::b::rest) pos) (tOr tA tB'):=by
 intro wh pins s σ H Q I h;refine isTrue_or (thn (ha pins s σ H _ I h) λc s1 ⟨H1,I1,q1⟩=>?_);cases c with
 |true=>exact⟨H1,I1,q1⟩
 |false=>exact hb wh pins s1 σ H1 Q I1 q1
theorem S9(ha:PT X a tA):PT X (.UnaryOp .Not a pos) (tNot tA):=by
 intro pins s σ H Q I h;exact isTrue_not (ha pins s σ H (λc H1=>Q (!c) H1) I h)
noncomputable def Sa(ta tb:TE):TE:=λσ H Q=>ta σ H λx H1=>∃c,x=.bl c/\if c=true then tb σ H1 Q else Q (.bl false) H1
noncomputable def tOrV(ta tb:TE):TE:=λσ H Q=>ta σ H λx H1=>∃c,x=.bl c/\if c=true then Q (.bl true) H1 else tb σ H1 Q
def Sb(ta:TE):TE:=λσ H Q=>ta σ H λx H1=>∃c,x=.bl c/\Q (.bl (!c)) H1
theorem HP{op}{t:TE}(h:PE X a t):PE X (.BoolOp op [a] pos) t:=λpins s σ H Q I hw=>BoolOp_one (h pins s σ H Q I hw)
theorem Sc(ha:PE X a ta)(hb:PE X (.BoolOp .And (b::rest) pos) tb):PE X (.BoolOp .And (a::b::rest) pos) (Sa ta tb):=by
 intro pins s σ H Q I h;refine BoolOp_and (thn (ha pins s σ H _ I h) λv s1 ⟨x,H1,I1,r1,q1⟩=>?_);obtain⟨c,rfl,q1⟩:=q1;cases r1;refine Zv ?_;cases c with
 |true=>exact hb pins s1 σ H1 Q I1 q1
 |false=>exact⟨.bl false,H1,I1,rfl,q1⟩
theorem Sd(ha:PE X a ta)(hb:PE X (.BoolOp .Or (b::rest) pos) tb):PE X (.BoolOp .Or (a::b::rest) pos) (tOrV ta tb):=by
 intro pins s σ H Q I h;refine BoolOp_or (thn (ha pins s σ H _ I h) λv s1 ⟨x,H1,I1,r1,q1⟩=>?_);obtain⟨c,rfl,q1⟩:=q1;cases r1;refine Zv ?_;cases c with
 |false=>exact hb pins s1 σ H1 Q I1 q1
 |true=>exact⟨.bl true,H1,I1,rfl,q1⟩
theorem Se(ha:PE X a ta):PE X (.UnaryOp .Not a pos) (Sb ta):=by
 intro pins s σ H Q I h;refine UnaryOp_ (thn (ha pins s σ H _ I h) λv s1 ⟨x,H1,I1,r1,q1⟩=>?_);obtain⟨c,rfl,q1⟩:=q1;cases r1;exact not_of (Zv ⟨.bl (!c),H1,I1,rfl,q1⟩)
def tIf(t:TT)(ta tb:TE):TE:=λσ H Q=>t σ H λc H1=>if c=true then ta σ H1 Q else tb σ H1 Q
theorem Sf{c:Expr}(hc:PT X c tA)(ha:PE X a ta)(hb:PE X b tb):PE X (.IfExp c a b pos) (tIf tA ta tb):=by
 intro pins s σ H Q I h;refine wpAny_IfExp (thn (hc pins s σ H _ I h) λd s1 ⟨H1,I1,q1⟩=>?_);cases d with
 |true=>exact ha pins s1 σ H1 Q I1 q1
 |false=>exact hb pins s1 σ H1 Q I1 q1
end
def SqL(K:X4)(H:Hp)(a:Addr)(xs:List V):Prop:=
 Rd H a (.lst xs)\/
  ∃(o:Obj) (its:Array X0) (n:Nat),K.lookup a=some o/\o.cls=.type "list"/\o.dict=none/\o.data=.seq its n/\its.size≤sizeLine/\Vals xs its.toList
def SqT(K:X4)(H:Hp)(a:Addr)(xs:List V):Prop:=
 Rd H a (.tup xs)\/
  ∃(o:Obj) (its:Array X0) (n:Nat),K.lookup a=some o/\o.cls=.type "tuple"/\o.data=.seq its n/\its.size≤sizeLine/\Vals xs its.toList
noncomputable def absV:X0->Option V
 |.none=>some .non
 |.bool b=>some (.bl b)
 |.int i _=>some (.int i)
 |.str x _=>some (.str x)
 |.bytes b _=>some (.byt b)
 |.float b _=>some (.flt b)
 |.ref a=>some (.ref a)
 |.type n=>some (.ty n)
 |_=>none
theorem RelV.abs(r:RelV x u):absV u=some x:=by
 cases x with
 |non=>cases r;rfl
 |bl _=>cases r;rfl
 |int _=>obtain⟨t,rfl⟩:=r;rfl
 |str _=>obtain⟨t,rfl⟩:=r;rfl
 |byt _=>obtain⟨t,rfl⟩:=r;rfl
 |flt _=>obtain⟨t,rfl⟩:=r;rfl
 |ref _=>cases r;rfl
 |ty _=>cases r;rfl
theorem RelV.inj(r:RelV x u)(q:RelV y u):x=y:=Y7 (r.abs.symm.trans q.abs)
theorem Vals.inj:∀{xs ys:List V} {us:List X0},Vals xs us->Vals ys us->xs=ys
 |_,_,_,.nil,.nil=>rfl
 |_,_,_,.cons r t,.cons r' t'=>by rw[r.inj r',Vals.inj t t']
section
variable{X:Cx}{pins:List (Addr×Obj)}{σ:St}{H:Hp}{s:X2}{a:Addr}{xs ys:List V}
theorem SqL.of{K:X4}(h:H a=some (.lst xs)):SqL K H a xs:=.inl (.inl h)
theorem SqT.of{K:X4}(h:H a=some (.tup xs)):SqT K H a xs:=.inl (.inl h)
theorem Inv.list(I:Inv X pins σ H s)(h:SqL X.K H a xs):∃its:List X0,Vals xs its/\PlainL s.heap a its.toArray/\xs.length≤sizeLine:=by
 rcases h with h|⟨o,its,n,hk,hc,hd,hs,hz,r⟩
 ·obtain⟨z,its,n,r,e⟩:=h.ok I.hok;exact⟨its,r,⟨_,n,e,rfl,rfl,rfl⟩,z⟩
 ·refine⟨its.toList,r,⟨o,n,I.kIn a o hk,hc,hd,by simpa using hs⟩,?_⟩
  have e:=r.length;simp only[Yq]at e;lia
theorem Inv.tuple(I:Inv X pins σ H s)(h:SqT X.K H a xs):∃its:List X0,Vals xs its/\IsTup s.heap a its.toArray/\xs.length≤sizeLine:=by
 rcases h with h|⟨o,its,n,hk,hc,hs,hz,r⟩
 ·obtain⟨z,its,r,p⟩:=h.ok I.hok;exact⟨its,r,p.1,z⟩
 ·refine⟨its.toList,r,⟨o,I.kIn a o hk,hc,n,by simpa using hs⟩,?_⟩
  have e:=r.length;simp only[Yq]at e;lia
theorem Inv.list_inj(I:Inv X pins σ H s)(h:SqL X.K H a xs)(h':SqL X.K H a ys):xs=ys:=by
 obtain⟨its,r,⟨o,n,e,_,_,d⟩,_⟩:=I.list h;obtain⟨its',r',⟨o',n',e',_,_,d'⟩,_⟩:=I.list h';rw[e]at e';cases e';rw[d]at d';injection d' with d1 _;have:its=its':=by simpa using congrArg Array.toList d1
 subst this;exact r.inj r'
theorem Inv.tuple_inj(I:Inv X pins σ H s)(h:SqT X.K H a xs)(h':SqT X.K H a ys):xs=ys:=by
 obtain⟨its,r,⟨o,e,_,n,d⟩,_⟩:=I.tuple h;obtain⟨its',r',⟨o',e',_,n',d'⟩,_⟩:=I.tuple h';rw[e]at e';cases e';rw[d]at d';injection d' with d1 _;have:its=its':=by simpa using congrArg Array.toList d1
 subst this;exact r.inj r'
end
abbrev Cx.wish(X:Cx)(E:X0->X2->Prop):Cx:={X with xe:=E}
abbrev Cx.nox(X:Cx):Cx:=X.wish λ_ _=>False
theorem Cx.Ok.wish{X:Cx}(ok:X.Ok)(E:X0->X2->Prop):(X.wish E).Ok:=
 ⟨ok.mod,ok.kind,ok.glob,ok.blt,ok.above,ok.inj,ok.has,ok.cab,ok.hd,ok.frames,ok.stk,ok.exf,ok.bs,ok.bsz,ok.noex,ok.exfs,ok.funs,ok.frf⟩
theorem Cx.Ok.unwish{X:Cx}{E:X0->X2->Prop}(ok:(X.wish E).Ok):X.Ok:=
 ⟨ok.mod,ok.kind,ok.glob,ok.blt,ok.above,ok.inj,ok.has,ok.cab,ok.hd,ok.frames,ok.stk,ok.exf,ok.bs,ok.bsz,ok.noex,ok.exfs,ok.funs,ok.frf⟩
section
variable{X:Cx}{pins:List (Addr×Obj)}{σ:St}{H:Hp}{s:X2}{E:X0->X2->Prop}
theorem Inv.wish(I:Inv X pins σ H s)(E:X0->X2->Prop):Inv (X.wish E) pins σ H s:=⟨I.ok.wish E,I.os,I.bare,I.base,I.loc,I.cell,I.free,I.freeC,I.pin,I.hok,I.len⟩
theorem Inv.unwish(I:Inv (X.wish E) pins σ H s):Inv X pins σ H s:=⟨I.ok.unwish,I.os,I.bare,I.base,I.loc,I.cell,I.free,I.freeC,I.pin,I.hok,I.len⟩
theorem SP.unwish(h:SP (X.wish E) pins D f s'):SP X pins D f s':=by
 cases f with
 |next=>obtain⟨σ',H',I,q⟩:=h;exact⟨σ',H',I.unwish,q⟩
 |brk=>obtain⟨σ',H',I,q⟩:=h;exact⟨σ',H',I.unwish,q⟩
 |cont=>obtain⟨σ',H',I,q⟩:=h;exact⟨σ',H',I.unwish,q⟩
 |ret u=>obtain⟨v,σ',H',I,r,q⟩:=h;exact⟨v,σ',H',I.unwish,r,q⟩
theorem PSs.nox{st:List Stmt}{t:TS}(h:PSs X.nox st t):PSs X st t:=λpins s σ H D I hw=>
 Zu (h pins s σ H D (I.wish _) hw) (λ_ _ q=>q.unwish) λ_ _ z=>Y3 z
end
section
variable{X:Cx}{st:Stmt}{rest:List Stmt}{t u:TS}{e:Expr}{te:TE}{pos:Pos}
def Sg:TS:=λD σ H=>D.nx σ H
def tSeq(t u:TS):TS:=λD σ H=>t {D with nx:=u D} σ H
theorem pss_nil:PSs X [] Sg:=λ_ _ σ H _ I h=>wpAny_execs_nil ⟨σ,H,I,h⟩
theorem Sh(h1:PS X st t)(h2:PSs X rest u):PSs X (st::rest) (tSeq t u):=by
 intro pins s σ H D I h;refine wpAny_execs_cons (thn (h1 pins s σ H {D with nx:=u D} I h) λf s1 q=>?_);cases f with
 |next=>
  obtain⟨σ',H',I',q⟩:=q;exact h2 pins s1 σ' H' D I' q
 |ret v=>exact q
 |brk=>exact q
 |cont=>exact q
theorem Inv.quiet(I:Inv X pins σ H s):interactive X.env=false:=by simp[interactive,I.ok.kind]
def Si(te:TE):TS:=λD σ H=>te σ H λ_ H1=>D.nx σ H1
theorem Sj(he:PE X e te)(hs:Zw e none pos.line X.env=pure false:=by rfl):PS X (.Expr e pos) (Si te):=by
 intro pins s σ H D I h;exact wpAny_Expr_any (thn (he pins s σ H _ I h) λv s1 ⟨x,H1,I1,r1,q1⟩=>⟨σ,H1,I1,q1⟩) I.quiet hs
def tRet(te:TE):TS:=λD σ H=>te σ H D.rt
theorem Sk(he:PE X e te):PS X (.Return (some e) pos) (tRet te):=by
 intro pins s σ H D I h;exact wpAny_Return_some (thn (he pins s σ H _ I h) λv s1 ⟨x,H1,I1,r1,q1⟩=>⟨x,σ,H1,I1,r1,q1⟩)
def tIfS(c:TT)(t u:TS):TS:=λD σ H=>c σ H λb H1=>if b=true then t D σ H1 else u D σ H1
theorem Sl{c:Expr}{a b:List Stmt}{tc:TT}(hc:PT X c tc)(ha:PSs X a t)(hb:PSs X b u):PS X (.If c a b pos) (tIfS tc t u):=by
 intro pins s σ H D I h;refine wpAny_If (thn (hc pins s σ H _ I h) λd s1 ⟨H1,I1,q1⟩=>?_);cases d with
 |true=>exact ha pins s1 σ H1 D I1 q1
 |false=>exact hb pins s1 σ H1 D I1 q1
def Sn:TS:=λ_ _ _=>False
theorem ps_never:PS X st Sn:=λ_ _ _ _ _ _ h=>h.elim
end
abbrev TG:=V->St->Hp->(St->Hp->Prop)->Prop
abbrev TGs:=List V->St->Hp->(St->Hp->Prop)->Prop
def PG(X:Cx)(target:Expr)(t:TG):Prop:=
 ∀(pins:List (Addr×Obj)) (s:X2) (σ:St) (H:Hp) (v:V) (u:X0) (Q:St->Hp->Prop),Inv X pins σ H s->RelV v u->t v σ H Q->
  X3 (X6 X.prog X.w) X.A (assign target X.env u) (λ_ s'=>∃σ' H',Inv X pins σ' H' s'/\Q σ' H') X.xe s
def PGs(X:Cx)(ts:List Expr)(t:TGs):Prop:=
 ∀(pins:List (Addr×Obj)) (s:X2) (σ:St) (H:Hp) (vs:List V) (us:List X0) (Q:St->Hp->Prop),Inv X pins σ H s->Vals vs us->t vs σ H Q->
  X3 (X6 X.prog X.w) X.A (assignInOrder ((Zx ts X.env).map (·.2)) us) (λ_ s'=>∃σ' H',Inv X pins σ' H' s'/\Q σ' H') X.xe s
abbrev TSet:=V->V->V->Hp->(Hp->Prop)->Prop
def PSet(X:Cx)(t:TSet):Prop:=
 ∀(pins:List (Addr×Obj)) (s:X2) (σ:St) (H:Hp) (o i v:V) (ov iv u:X0) (Q:Hp->Prop),Inv X pins σ H s->RelV o ov->RelV i iv->RelV v u->t o i v H Q->
  X3 (X6 X.prog X.w) X.A (setItem ov iv u) (λ_ s'=>∃H',Inv X pins σ H' s'/\Q H') X.xe s
section
variable{X:Cx}{pos:Pos}
def Co(i:Nat):TG:=λv σ H Q=>Q (σ.set i (some v)) H
theorem HQ(hN:X.N.Nodup)(hi:X.N[i]?=some x) (hx:Loc X.env.scope x) (hf:X.fn x=true\/X.env.scope.names.lookup x=some .local:=by first|exact .inl rfl|exact .inr rfl|assumption):PG X (.Name x pos) (Co i):=by
 intro pins s σ H v u Q I r h;exact wpAny_assign_Name (HM I hN hi hx r (λs' I'=>⟨_,H,I',h⟩) hf)
def gNil:TGs:=λvs σ H Q=>vs=[]/\Q σ H
def HR(t:TG)(u:TGs):TGs:=λvs σ H Q=>∃v r,vs=v::r/\t v σ H λσ' H'=>u r σ' H' Q
theorem So:PGs X [] gNil:=by
 intro pins s σ H vs us Q I r h;obtain⟨e,h⟩:=h;subst e;cases r;exact assignInOrder_nil ⟨σ,H,I,h⟩
theorem Sq{e:Expr}{es:List Expr}{t:TG}{u:TGs}(h1:PG X e t)(h2:PGs X es u)
  (hs:(Zx (e::es) X.env).map (·.2)=assign e X.env::(Zx es X.env).map (·.2):=by rfl):PGs X (e::es) (HR t u):=by
 intro pins s σ H vs us Q I r h;obtain⟨v,vr,e1,h⟩:=h;subst e1;cases r with
 |cons r rr=>
  rw[hs];refine assignInOrder_cons (thn (h1 pins s σ H _ _ _ I r h) λ_ s1 ⟨σ1,H1,I1,q1⟩=>?_);exact h2 pins s1 σ1 H1 _ _ Q I1 rr q1
def gTup(K:X4)(n:Nat)(t:TGs):TG:=λv σ H Q=>∃a xs,v=.ref a/\SqT K H a xs/\xs.length=n/\t xs σ H Q
theorem Sr{k:Nat}{t:TGs}(hc:X.calm=true)(h:PGs X es t)
  (hn:(Zx es X.env).length=n:=by rfl) (hst:(Zx es X.env).findIdx? (·.1)=none:=by rfl):PG X (.Tuple es k pos) (gTup X.K n t):=by
 intro pins s σ H v u Q I r hw;obtain⟨a,xs,e1,hq,hl,hw⟩:=hw;subst e1;cases r;obtain⟨its,rv,ht,hz⟩:=I.tuple hq;refine assign_Tuple_tuple (I.ok.hd hc) ht (by simp[hn,<- hl,rv.length]) hst λh' hx=>?_
 have I1:Inv X pins σ H {s with heap:=h'}:=I.kept (t':=s.toks) λb o e=>hx b o (Xz (Xu e)) e;exact h pins _ σ H xs _ Q I1 (by simpa using rv) hw
noncomputable def gSub(to ti:TE)(t:TSet):TG:=λv σ H Q=>to σ H λo H1=>ti σ H1 λi H2=>t o i v H2 λH3=>Q σ H3
theorem Su{o i:Expr}{to ti:TE}{t:TSet}(ho:PE X o to)(hi:PE X i ti)(hs:PSet X t)
  (ha:∀v,assign (.Subscript o i pos) X.env v=(do
   let ov<- Z3 [v] (eval o X.env)
   let iv<- Z3 [v,ov] (eval i X.env)
   standAt pos
   Z3 [v,ov,iv] (setItem ov iv v)
   release [v,ov,iv] []):=by intro _;rfl):PG X (.Subscript o i pos) (gSub to ti t):=by
 intro pins s σ H v u Q I r h;rw[ha];refine X1 (YM (thn (ho pins s σ H _ I h) λov s1 ⟨x,H1,I1,r1,q1⟩=>?_));refine X1 (YM (thn (hi pins s1 σ H1 _ I1 q1) λiv s2 ⟨y,H2,I2,r2,q2⟩=>?_));refine X1 (wpAny_standAt (X1 (YM (thn (hs pins s2 σ H2 x y v ov iv u _ I2 r1 r2 r q2) λ_ s3 ⟨H3,I3,q3⟩=>?_))));exact wpAny_release ⟨σ,H3,I3,q3⟩
def tAsg(te:TE)(g:TG):TS:=λD σ H=>te σ H λx H1=>g x σ H1 D.nx
theorem HS{tg e:Expr}{te:TE}{g:TG}(he:PE X e te)(hg:PG X tg g)(hs:swapsWithSole [tg] e pos.line X.env=pure false:=by rfl)(hw:swappedStores [tg] e X.env=pure none:=by rfl)
  (h1:(Zx [tg] X.env).map (·.2)=[assign tg X.env]:=by rfl):PS X (.Assign [tg] e pos) (tAsg te g):=by
 intro pins s σ H D I h;refine wpAny_Assign_stores (thn (he pins s σ H _ I h) λv s1 ⟨x,H1,I1,r1,q1⟩=>?_) hs hw;rw[h1];exact thn (hg pins s1 σ H1 x v _ I1 r1 q1) λ_ s2 q=>q
theorem HU{i:Nat}{x:Str}{e:Expr}{te:TE}{pos':Pos}(hN:X.N.Nodup)(hi:X.N[i]?=some x) (hx:Loc X.env.scope x) (he:PE X e te) (hs:Zw e (some (.Name x pos')) pos.line X.env=pure false:=by rfl) (hf:X.fn x=true\/X.env.scope.names.lookup x=some .local:=by first|exact .inl rfl|exact .inr rfl|assumption):
  PS X (.Assign [.Name x pos'] e pos) (tAsg te (Co i)):=by
 intro pins s σ H D I h;refine wpAny_Assign_Name (thn (he pins s σ H _ I h) λv s1 ⟨y,H1,I1,r1,q1⟩=>?_) hs;exact HM I1 hN hi hx r1 (λs2 I2=>⟨_,H1,I2,q1⟩) hf
end
section
variable{X:Cx}{pos:Pos}
def Sv(c:TT)(tb:TS):TS:=λD σ H=>∃W:Nat->St->Hp->Prop,(∃m,W m σ H)/\∀m σ H,W m σ H->
 c σ H λb H1=>if b=true then∃N:St->Hp->Prop,(∀σ' H',N σ' H'->∃m',m'<m/\W m' σ' H')/\tb {D with nx:=N,ct:=N,bk:=D.nx} σ H1 else D.nx σ H1
theorem Sw{c:Expr}{body:List Stmt}{tc:TT}{tb:TS}(hp:PassesOwn (X6 X.prog X.w) X.A X.env X.xe)(hc:PT X c tc)(hb:PSs X body tb):PS X (.While c body [] pos) (Sv tc tb):=by
 intro pins s σ H D I h;obtain⟨W,⟨m0,w0⟩,turn⟩:=h;refine wpAny_While (codeAny_whileLoop (λn s'=>∃σ' H',Inv X pins σ' H' s'/\W n σ' H') ?_ m0 ⟨σ,H,I,w0⟩);rintro n s1 ⟨σ1,H1,I1,w1⟩;refine UX hp (thn (hc pins s1 σ1 H1 _ I1 (turn n σ1 H1 w1)) λb s2 ⟨H2,I2,q2⟩=>?_);cases b with
 |true=>
  obtain⟨N,hN,q2⟩:=q2;rw[if_pos rfl];refine UX hp (thn (hb pins s2 σ1 H2 _ I2 q2) λf s3 q3=>?_);cases f with
  |next=>
   obtain⟨σ3,H3,I3,n3⟩:=q3;obtain⟨m',hm,w3⟩:=hN σ3 H3 n3;exact⟨m',hm,σ3,H3,I3,w3⟩
  |cont=>
   obtain⟨σ3,H3,I3,n3⟩:=q3;obtain⟨m',hm,w3⟩:=hN σ3 H3 n3;exact⟨m',hm,σ3,H3,I3,w3⟩
  |brk=>exact q3
  |ret v=>exact q3
 |false=>
  rw[if_neg XE];exact wpAny_execs_nil ⟨σ1,H2,I2,q2⟩
end
structure It where
 go:Nat->Hp->Prop
 yld:Nat->Hp->V->Hp->Prop
 stop:Nat->Hp->Prop
def FpOk(X:Cx)(pins:List (Addr×Obj))(H:Hp)(b:Addr):Prop:=
 H b=none/\b≠X.env.locals/\b∉X.fs/\(b∈X.ex\/X.s₀.heap.objs.size≤b)/\(∀x c,X.env.cells.lookup x=some c->c≠b)/\∀p∈X.pn++pins,p.1≠b
theorem Inv.fpOk(I:Inv X pins σ H s)(hb:s.heap.objs.size≤b)(hn:H' b=none):FpOk X pins H' b:=by
 refine⟨hn,V5 (Yy I.lt hb),I.nofs hb,.inr (Y2 I.sz hb),λx c e z=>?_,λp hp z=>?_⟩
 ·obtain⟨v,q⟩:=I.cell x c e;exact absurd (Yy q.lt (by rw[z];exact hb)) (ZY _)
 ·exact absurd (Yy (Xu (I.pin p hp).1) (by rw[z];exact hb)) (ZY _)
structure Turn (P:Xv) (w:Xn) (K:X4) (tg:Expr) (J:It) (fp:List Addr) (it:Addr) (tn:Nat->Heap->Prop):Prop where
 mem:it∈fp
 obj:∀i h,tn i h->∀b∈fp,∃o,h.get? b=some o/\∀v,o.data≠.cell v
 keep:∀i h h',tn i h->(∀b∈fp,∀o,h.get? b=some o->h'.get? b=some o)->tn i h'
 item:∀(X:Cx),X.prog=P->X.w=w->X.K=K->X.calm=true->∀(i:Nat) (pins:List (Addr×Obj)) (s:X2) (σ:St) (H:Hp) (E:X0->X2->Prop),Inv X pins σ H s->(∀b∈fp,FpOk X pins H b)->tn i s.heap->J.go i H->
  X3 (X6 P w) X.A (pyNext (.ref it)) (λr s1=>∃u,r=some u/\
   X3 (X6 P w) X.A (Bz tg (.ref it) u) (λ_ s2=>∃x H',Inv X pins σ H' s2/\RelV x u/\J.yld i H x H'/\tn (i+1) s2.heap/\∀b∈fp,H' b=none) E s1) E s
 done:∀(X:Cx),X.prog=P->X.w=w->X.K=K->X.calm=true->∀(i:Nat) (pins:List (Addr×Obj)) (s:X2) (σ:St) (H:Hp) (E:X0->X2->Prop),Inv X pins σ H s->(∀b∈fp,FpOk X pins H b)->tn i s.heap->J.stop i H->
  X3 (X6 P w) X.A (pyNext (.ref it)) (λr s1=>r=none/\Inv X pins σ H s1) E s
 self:∀(A:XA) (i:Nat) (s:X2) (Q:X0->X2->Prop) (E:X0->X2->Prop),tn i s.heap->Q (.ref it) s->X3 (X6 P w) A (pyIter (.ref it)) Q E s
abbrev TI:=St->Hp->(It->Hp->Prop)->Prop
def PIE(X:Cx)(pins:List (Addr×Obj))(σ:St)(tg:Expr)(R:It->Hp->Prop)(itv:X0)(s2:X2):Prop:=
 ∃(it:Addr) (fp:List Addr) (tn:Nat->Heap->Prop) (J:It) (H':Hp),itv=.ref it/\Inv X pins σ H' s2/\Turn X.prog X.w X.K tg J fp it tn/\tn 0 s2.heap/\(∀b∈fp,FpOk X pins H' b)/\R J H'
def PI(X:Cx)(tg iter:Expr)(wi:TI):Prop:=
 ∀(pins:List (Addr×Obj)) (s:X2) (σ:St) (H:Hp) (R:It->Hp->Prop),Inv X pins σ H s->wi σ H R->
  X3 (X6 X.prog X.w) X.A (eval iter X.env) (λv s1=>X3 (X6 X.prog X.w) X.A (pyIter v) (PIE X pins σ tg R) X.xe s1) X.xe s
theorem WP(ho:s.heap.get? it=some o)(hc:o.cls=.type n)(hd:o.data=.fields vs)
  (hn:["enumerate","zip","dict_itemiterator","dict_reverseitemiterator","odict_iterator","itertools.zip_longest","itertools.pairwise"].contains n=false) (hQ:Q () s):X3 M A (Bz tg (.ref it) u) Q E s:=by
 unfold Bz;cases tg<;>first
  |exact X8 hQ
  |(cases u<;>first
    |exact X8 hQ
    |(refine X1 (Vr ho ?_)
      rw[hc,hd];show X3 M A (if(["enumerate","zip","dict_itemiterator","dict_reverseitemiterator","odict_iterator","itertools.zip_longest","itertools.pairwise"].contains n&&vs[0]?==some (Y6 _))=true then _ else _) Q E s;rw[if_neg (by intro h;rw[hn,WH]at h;cases h)]
      exact X8 hQ))
def Itl(K:X4)(a:Addr):It:=
 ⟨λi H=>∃xs x,SqL K H a xs/\xs[i]?=some x,λi H x H'=>H'=H/\∀xs,SqL K H a xs->xs[i]?=some x,λi H=>∃xs,SqL K H a xs/\xs.length≤i⟩
def Itt(K:X4)(a:Addr):It:=
 ⟨λi H=>∃xs x,SqT K H a xs/\xs[i]?=some x,λi H x H'=>H'=H/\∀xs,SqT K H a xs->xs[i]?=some x,λi H=>∃xs,SqT K H a xs/\xs.length≤i⟩
def Itr(lo:Int)(n:Nat):It:=⟨λi _=>i<n,λi H x H'=>H'=H/\x=.int (lo+i),λi _=>n≤i⟩
theorem Sx{K:X4}(a it:Addr):Turn P w K tg (Itl K a) [it] it (λi h=>h.IsListIter it a i)where
 mem:=by simp
 obj:=λi h st b hb=>by
  have e:b=it:=by simpa using hb
  subst e;obtain⟨o,e,c,d⟩:=st;exact⟨o,e,λv z=>by rw[d]at z;cases z⟩
 keep:=λi h h' st k=>st.at λo e=>k it (by simp) o e
 item:=by
  intro X hP hw hK hc i pins s σ H E I hf st hg;subst hP hw hK;obtain⟨xs,x,hq,hx⟩:=hg;obtain⟨its,rv,p,hz⟩:=I.list hq;obtain⟨u,hu,ru⟩:=rv.get hx;obtain⟨f0,f1,f2,f3,f4,f5⟩:=hf it (by simp)
  refine wpAny_pyNext_list_item st p.isList (x:=u) (by simpa using hu) λh' st' sb=>?_
  have I1:Inv X pins σ H {s with heap:=h'}:=I.turned (t':=s.toks) (λb o hb e=>(sb.2 b hb).trans e) f0 f1 f3 f4 f5;obtain⟨o,e,c,d⟩:=id st';exact⟨u,rfl,WP (s:={s with heap:=h'}) e c d (by decide) ⟨x,H,I1,ru,⟨rfl,λys hy=>by rw[I.list_inj hy hq];exact hx⟩,st',λb hb=>(hf b hb).1⟩⟩
 done:=by
  intro X hP hw hK hc i pins s σ H E I hf st hg;subst hP hw hK;obtain⟨xs,hq,hx⟩:=hg;obtain⟨its,rv,p,hz⟩:=I.list hq;obtain⟨f0,f1,f2,f3,f4,f5⟩:=hf it (by simp)
  have hl:=rv.length;exact wpAny_pyNext_list_end (I.ok.hd hc) st p.isList (by simp;lia) λh' eb=>⟨rfl,I.turned (t':=s.toks) (λb o hb e=>eb b o hb e) f0 f1 f3 f4 f5⟩
 self:=λ_ _ _ _ _ st h=>wpAny_pyIter_listiter st h
theorem Sy{K:X4}(a it:Addr):Turn P w K tg (Itt K a) [it] it (λi h=>h.IsTupleIter it a i)where
 mem:=by simp
 obj:=λi h st b hb=>by
  have e:b=it:=by simpa using hb
  subst e;obtain⟨o,e,c,d⟩:=st;exact⟨o,e,λv z=>by rw[d]at z;cases z⟩
 keep:=λi h h' st k=>st.at λo e=>k it (by simp) o e
 item:=by
  intro X hP hw hK hc i pins s σ H E I hf st hg;subst hP hw hK;obtain⟨xs,x,hq,hx⟩:=hg;obtain⟨its,rv,p,hz⟩:=I.tuple hq;obtain⟨u,hu,ru⟩:=rv.get hx;obtain⟨f0,f1,f2,f3,f4,f5⟩:=hf it (by simp)
  refine wpAny_pyNext_tuple_item st (show s.heap.IsTuple a its.toArray from p) (x:=u) (by simpa using hu) λh' st' sb=>?_
  have I1:Inv X pins σ H {s with heap:=h'}:=I.turned (t':=s.toks) (λb o hb e=>(sb.2 b hb).trans e) f0 f1 f3 f4 f5;obtain⟨o,e,c,d⟩:=id st';exact⟨u,rfl,WP (s:={s with heap:=h'}) e c d (by decide) ⟨x,H,I1,ru,⟨rfl,λys hy=>by rw[I.tuple_inj hy hq];exact hx⟩,st',λb hb=>(hf b hb).1⟩⟩
 done:=by
  intro X hP hw hK hc i pins s σ H E I hf st hg;subst hP hw hK;obtain⟨xs,hq,hx⟩:=hg;obtain⟨its,rv,p,hz⟩:=I.tuple hq;obtain⟨f0,f1,f2,f3,f4,f5⟩:=hf it (by simp)
  have hl:=rv.length;exact wpAny_pyNext_tuple_end (I.ok.hd hc) st (show s.heap.IsTuple a its.toArray from p) (by simp;lia) λh' eb=>⟨rfl,I.turned (t':=s.toks) (λb o hb e=>eb b o hb e) f0 f1 f3 f4 f5⟩
 self:=λ_ _ _ _ _ st h=>wpAny_pyIter_tupleiter st h
theorem Sz{K:X4}(it:Addr)(lo:Int)(n:Nat):Turn P w K tg (Itr lo n) [it] it (λi h=>IsRangeIter h it (lo+(i:Nat)*1) ((n:Int) - (i:Nat)) 1)where
 mem:=by simp
 obj:=λi h st b hb=>by
  have e:b=it:=by simpa using hb
  subst e;exact⟨_,st,λv z=>by
   have z':U3 _=Data.cell v:=z;cases z'⟩
 keep:=λi h h' st k=>k it (by simp) _ st
 item:=by
  intro X hP hw hK hc i pins s σ H E I hf st hg;subst hP hw hK;obtain⟨f0,f1,f2,f3,f4,f5⟩:=hf it (by simp)
  have W:=Walks.range (prog:=X.prog) (w:=X.w) (I.ok.hd hc) it lo 1 n;refine W.item i s _ _ hg st λv h' tk hv st' kk=>?_;obtain⟨t,rfl⟩:=hv;have I1:Inv X pins σ H {s with heap:=h',toks:=tk}:=I.turned (λb o hb e=>kk b o (by simpa using hb) e) f0 f1 f3 f4 f5
  refine⟨_,rfl,WP (s:={s with heap:=h',toks:=tk}) (n:="range_iterator") st' rfl rfl (by decide) ⟨.int (lo+i),H,I1,⟨t,?_⟩,⟨rfl,rfl⟩,st',fun b hb=>(hf b hb).1⟩⟩
  rw[Int.mul_one]
 done:=by
  intro X hP hw hK hc i pins s σ H E I hf st hg;subst hP hw hK;obtain⟨f0,f1,f2,f3,f4,f5⟩:=hf it (by simp)
  exact wpAny_pyNext_range_end (I.ok.hd hc) st (by have:n≤i:=hg;lia) λh' eb=>⟨rfl,I.turned (t':=s.toks) (λb o hb e=>eb b o hb e) f0 f1 f3 f4 f5⟩
 self:=λ_ _ _ _ _ st h=>wpAny_pyIter_rangeiter st h
section
variable{X:Cx}{tg:Expr}
theorem SA{lo:Int}{t:Tok}(I:Inv X pins σ H s)(h1:-(2^62)≤lo)(h2:lo<2^62)(h3:-(2^62)≤hi)(h4:hi<2^62)
  (q:R (Itr lo (hi - lo).toNat) H):X3 (X6 X.prog X.w) X.A (pyIter (.ref s.heap.objs.size)) (PIE X pins σ tg R) E {s with heap:=s.heap.push {cls:=.type "range",data:=.fields #[.int lo t,.int hi u,.int 1 v]},toks:=tk}:=by
 refine wpAny_pyIter_range (IsRange.new ..) (small_one h1 h2 h3 h4) ?_;have I1:Inv X pins σ H {s with heap:=s.heap.push {cls:=.type "range",data:=.fields #[.int lo t,.int hi u,.int 1 v]},toks:=tk}:=I.kept fun b o e=>Xq _ e;refine⟨(s.heap.push {cls:=.type "range",data:=.fields #[.int lo t,.int hi u,.int 1 v]}).objs.size,[(s.heap.push {cls:=.type "range",data:=.fields #[.int lo t,.int hi u,.int 1 v]}).objs.size],_,_,H,rfl,
  I1.kept (t':=tk) λb o e=>Xq _ e,Sz _ lo (hi - lo).toNat,?_,λb hb=>?_,q⟩
 ·have e1:lo+((0:Nat):Int)*1=lo:=by simp
  have e2:(((hi - lo).toNat:Nat):Int) - ((0:Nat):Int)=Builtin.Range.rangeSize lo hi 1:=by rw[rangeSize_one];split<;>lia
  show IsRangeIter _ _ (lo+((0:Nat):Int)*1) ((((hi - lo).toNat:Nat):Int) - ((0:Nat):Int)) 1;rw[e1,e2];exact XO _ rfl
 ·have e:b=(s.heap.push {cls:=.type "range",data:=.fields #[.int lo t,.int hi u,.int 1 v]}).objs.size:=by simpa using hb
  subst e;exact I1.fpOk (Xe _) (I1.hok.fresh (Xe _))
def SC(ta:TA):TI:=λσ H R=>ta σ H λvs H1=>∃j:Int,vs=[.int j]/\ -(2^62)≤j/\j<2^62/\R (Itr 0 j.toNat) H1
theorem SD{a:Expr}{ta:TA}{p pos:Pos}(hg:Gl X "range")(hm:X.mg "range"=none)(ha:PA X [a] ta)(hs:XB [a] X.env=[(false,eval a X.env)]:=by rfl):PI X tg (.Call (.Name "range" p) [a] [] pos) (SC ta):=by
 intro pins s σ H R I h;refine Call_ (UL I hg hm boot_range (WK (thn (ha pos pins s σ H _ I h) λus s1 ⟨vs,H1,I1,r1,q1⟩=>?_) hs rfl));obtain⟨j,e,q1,q2,q⟩:=q1;subst e;cases r1 with
 |cons r rr=>
  cases rr;obtain⟨t,rfl⟩:=r;exact call_range_1 (SA I1 (by lia) (by lia) q1 q2 (by simpa using q))
def tFor(wi:TI)(g:TG)(tb:TS):TS:=λD σ H=>wi σ H λJ H1=>∃W:Nat->Nat->St->Hp->Prop,(∃m,W 0 m σ H1)/\∀i m σ H,W i m σ H->
 (J.stop i H/\D.nx σ H)\/(J.go i H/\∃N:St->Hp->Prop,(∀σ' H',N σ' H'->∃m',m'<m/\W (i+1) m' σ' H')/\∀x H',J.yld i H x H'->g x σ H' λσ2 H2=>tb {D with nx:=N,ct:=N,bk:=D.nx} σ2 H2)
def VU(fp:List Addr)(h:Heap):List (Addr×Obj):=fp.filterMap λb=>(h.get? b).map λo=>(b,o)
theorem Cp(hb:b∈fp)(e:h.get? b=some o):(b,o)∈VU fp h:=List.mem_filterMap.mpr ⟨b,hb,by rw[e];rfl⟩
theorem SE(hp:p∈VU fp h):p.1∈fp/\h.get? p.1=some p.2:=by
 obtain⟨b,hb,e⟩:=List.mem_filterMap.mp hp;cases q:h.get? b with
 |none=>rw[q]at e;cases e
 |some o=>
  rw[q]at e;have e':(b,o)=p:=Y7 e;subst e';exact⟨hb,q⟩
theorem Inv.pinned(I:Inv X pins σ H s)(hf:∀b∈fp,FpOk X pins H b)(ho:∀b∈fp,∃o,s.heap.get? b=some o/\∀v,o.data≠.cell v):Inv X (pins++VU fp s.heap) σ H s:=
 I.pins_of λp hp=>(Yw.mp hp).elim (λz=>I.pin p (ZA _ z)) λz=>by
  obtain⟨hb,e⟩:=SE z;obtain⟨f0,f1,f2,_⟩:=hf p.1 hb;obtain⟨o,e',d⟩:=ho p.1 hb;rw[e]at e';cases e';exact⟨e,f0,f1,f2,d⟩
theorem Inv.unpinned(I:Inv X (pins++pl) σ H s):Inv X pins σ H s:=I.pins_of λp hp=>I.pin p (ZA _ (List.mem_append_left _ hp))
theorem SF{iter:Expr}{body:List Stmt}{wi:TI}{g:TG}{tb:TS}{pos:Pos}(hp:PassesOwn (X6 X.prog X.w) X.A X.env X.xe)(hc:X.calm=true)(hi:PI X tg iter wi)(hg:PG X tg g)(hb:PSs X body tb)
  (hs:∀x,BA iter X.env x=pure x:=by intro _;rfl):PS X (.For tg iter body [] pos) (tFor wi g tb):=by
 intro pins s σ H D I h;refine wpAny_For (thn (hi pins s σ H _ I h) λv s1 h1=>thn h1 λitv s2 h2=>?_) hs;obtain⟨it,fp,tn,J,H2,e,I2,T,st2,f2,W,⟨m0,w0⟩,turn⟩:=h2;subst e;have stat:∀{H':Hp},(∀b∈fp,H' b=none)->∀b∈fp,FpOk X pins H' b:=λhn b hb=>⟨hn b hb,(f2 b hb).2⟩;refine codeAny_forLoop_any (λn s'=>∃i σ' H',Inv X pins σ' H' s'/\tn i s'.heap/\(∀b∈fp,H' b=none)/\W i n σ' H') ?_ m0 ⟨0,σ,H2,I2,st2,λb hb=>(f2 b hb).1,w0⟩;rintro n s3 ⟨i,σ3,H3,I3,st3,fr3,w3⟩;rcases turn i n σ3 H3 w3 with⟨stop,qn⟩|⟨go,N,hN,step⟩
 ·refine UX hp (thn (T.done X rfl rfl rfl hc i pins s3 σ3 H3 X.xe I3 (stat fr3) st3 stop) λr s4 ⟨hr,I4⟩=>?_);subst hr;exact wpAny_execs_nil ⟨σ3,H3,I4,qn⟩
 ·refine UX hp (thn (T.item X rfl rfl rfl hc i pins s3 σ3 H3 X.xe I3 (stat fr3) st3 go) λr s4 ⟨u,hr,h4⟩=>?_);subst hr;refine UX hp (thn h4 λ_ s5 ⟨x,H5,I5,r5,y5,st5,fr5⟩=>?_);have I5':=I5.pinned (stat fr5) (T.obj _ _ st5);refine UX hp (thn (hg _ s5 σ3 H5 x u _ I5' r5 (step x H5 y5)) λ_ s6 ⟨σ6,H6,I6,q6⟩=>?_);refine UX hp (thn (hb _ s6 σ6 H6 _ I6 q6) λf s7 q7=>?_);have again:∀{σ7:St} {H7:Hp},Inv X (pins++VU fp s5.heap) σ7 H7 s7->N σ7 H7->∃m,m<n/\∃i σ' H',Inv X pins σ' H' s7/\tn i s7.heap/\(∀b∈fp,H' b=none)/\W i m σ' H':=fun{σ7 H7} I7 n7=>by
   obtain⟨m',hm,w7⟩:=hN σ7 H7 n7;refine⟨m',hm,i+1,σ7,H7,I7.unpinned,T.keep _ _ _ st5 λb hb o e=>(I7.pin (b,o) (ZA _ (ZA _ (Cp hb e)))).1,λb hb=>?_,w7⟩;obtain⟨o,e,d⟩:=T.obj _ _ st5 b hb;exact(I7.pin (b,o) (ZA _ (ZA _ (Cp hb e)))).2.1
  cases f with
  |next=>obtain⟨σ7,H7,I7,n7⟩:=q7;exact again I7 n7
  |cont=>obtain⟨σ7,H7,I7,n7⟩:=q7;exact again I7 n7
  |brk=>obtain⟨σ7,H7,I7,q7⟩:=q7;exact⟨σ7,H7,I7.unpinned,q7⟩
  |ret v=>obtain⟨x7,σ7,H7,I7,r7,q7⟩:=q7;exact⟨x7,σ7,H7,I7.unpinned,r7,q7⟩
end
abbrev R2:=V->V->Hp->VK->Prop
def OpR(X:Cx)(f:X0->X0->Sem X0)(r:R2):Prop:=
 ∀(pins:List (Addr×Obj)) (s:X2) (σ:St) (H:Hp) (x y:V) (v u:X0) (Q:VK),Inv X pins σ H s->RelV x v->RelV y u->r x y H Q->
  X3 (X6 X.prog X.w) X.A (f v u) (EP X pins σ Q) X.xe s
def UnR(X:Cx)(f:X0->Sem X0)(r:V->Hp->VK->Prop):Prop:=
 ∀(pins:List (Addr×Obj)) (s:X2) (σ:St) (H:Hp) (x:V) (v:X0) (Q:VK),Inv X pins σ H s->RelV x v->r x H Q->
  X3 (X6 X.prog X.w) X.A (f v) (EP X pins σ Q) X.xe s
def YA(X:Cx)(f:X0)(r:List V->Hp->VK->Prop):Prop:=
 ∀(pins:List (Addr×Obj)) (s:X2) (σ:St) (H:Hp) (xs:List V) (us:List X0) (Q:VK),Inv X pins σ H s->Vals xs us->r xs H Q->
  X3 (X6 X.prog X.w) X.A (call f us) (EP X pins σ Q) X.xe s
def tOp(r:R2)(ta tb:TE):TE:=λσ H Q=>ta σ H λx H1=>tb σ H1 λy H2=>r x y H2 Q
def tUn(r:V->Hp->VK->Prop)(ta:TE):TE:=λσ H Q=>ta σ H λx H1=>r x H1 Q
noncomputable def rI(C:Int->Int->Prop)(g:Int->Int->V):R2:=λx y H Q=>∃i j,x=.int i/\y=.int j/\C i j/\Q (g i j) H
def rI0(g:Int->Int->V):R2:=λx y H Q=>∃i j,x=.int i/\y=.int j/\Q (g i j) H
def rU(g:Int->V):V->Hp->VK->Prop:=λx H Q=>∃i,x=.int i/\Q (g i) H
section
variable{X:Cx}{a b c:Expr}{ta tb tc:TE}{pos:Pos}
theorem binT(ha:PE X a ta)(hb:PE X b tb){pins:List (Addr×Obj)}{s:X2}{σ:St}{H:Hp}{R:V->V->Hp->Prop}(I:Inv X pins σ H s)
  (h:ta σ H λx H1=>tb σ H1 λy H2=>R x y H2) {Q:X0->X2->Prop} {f:X0->X0->Sem X0}
  (hf:∀v u s2 x y H2,Inv X pins σ H2 s2->RelV x v->RelV y u->R x y H2->X3 (X6 X.prog X.w) X.A (f v u) Q X.xe s2):
  X3 (X6 X.prog X.w) X.A (eval a X.env) (λv s₁=>X3 (X6 X.prog X.w) X.A (eval b X.env) (λu s₂=>X3 (X6 X.prog X.w) X.A (f v u) Q X.xe s₂) X.xe s₁) X.xe s:=by
 refine thn (ha pins s σ H _ I h) λv s1 ⟨x,H1,I1,r1,q1⟩=>?_;refine thn (hb pins s1 σ H1 _ I1 q1) λu s2 ⟨y,H2,I2,r2,q2⟩=>?_;exact hf v u s2 x y H2 I2 r1 r2 q2
theorem SG{op:Uz}{r:R2}(ho:OpR X (Yg op) r)(ha:PE X a ta)(hb:PE X b tb):PE X (.BinOp a op b pos) (tOp r ta tb):=by
 intro pins s σ H Q I h;exact wpAny_BinOp (binT ha hb I h λv u s2 x y H2 I2 rx ry q=>ho pins s2 σ H2 x y v u Q I2 rx ry q)
theorem SH{op:UnaryOp}{r:V->Hp->VK->Prop}(ho:UnR X (unaryOp op) r)(ha:PE X a ta):PE X (.UnaryOp op a pos) (tUn r ta):=by
 intro pins s σ H Q I h;exact UnaryOp_ (thn (ha pins s σ H _ I h) λv s1 ⟨x,H1,I1,r1,q1⟩=>ho pins s1 σ H1 x v Q I1 r1 q1)
theorem opI{f:X0->X0->Sem X0}{C:Int->Int->Prop}{g:Int->Int->Int}
  (rule:∀(i j:Int) (t u:Tok) (s:X2) (Q:X0->X2->Prop) (E:X0->X2->Prop),C i j->Q (.int (g i j) s.toks) {s with toks:=s.toks+1}->X3 (X6 X.prog X.w) X.A (f (.int i t) (.int j u)) Q E s):
  OpR X f (rI C λi j=>.int (g i j)):=by
 intro pins s σ H x y v u Q I rx ry h;obtain⟨i,j,rfl,rfl,hc,q⟩:=h;obtain⟨t,rfl⟩:=rx;obtain⟨t',rfl⟩:=ry;exact rule i j t t' s _ _ hc ⟨.int (g i j),H,I.tok _,⟨_,rfl⟩,q⟩
theorem opI0{f:X0->X0->Sem X0}{g:Int->Int->Int}
  (rule:∀(i j:Int) (t u:Tok) (s:X2) (Q:X0->X2->Prop) (E:X0->X2->Prop),Q (.int (g i j) s.toks) {s with toks:=s.toks+1}->X3 (X6 X.prog X.w) X.A (f (.int i t) (.int j u)) Q E s):
  OpR X f (rI0 λi j=>.int (g i j)):=by
 intro pins s σ H x y v u Q I rx ry h;obtain⟨i,j,rfl,rfl,q⟩:=h;obtain⟨t,rfl⟩:=rx;obtain⟨t',rfl⟩:=ry;exact rule i j t t' s _ _ ⟨.int (g i j),H,I.tok _,⟨_,rfl⟩,q⟩
theorem opB0{f:X0->X0->Sem X0}{g:Int->Int->Bool}
  (rule:∀(i j:Int) (t u:Tok) (s:X2) (Q:X0->X2->Prop) (E:X0->X2->Prop),Q (.bool (g i j)) s->X3 (X6 X.prog X.w) X.A (f (.int i t) (.int j u)) Q E s):
  OpR X f (rI0 λi j=>.bl (g i j)):=by
 intro pins s σ H x y v u Q I rx ry h;obtain⟨i,j,rfl,rfl,q⟩:=h;obtain⟨t,rfl⟩:=rx;obtain⟨t',rfl⟩:=ry;exact rule i j t t' s _ _ ⟨.bl (g i j),H,I,rfl,q⟩
def CPow(i j:Int):Prop:=0≤j/\j≤1000000/\i.natAbs<2^64
def CMul(i j:Int):Prop:=(-(2^64)<i/\i<2^64)\/(-(2^64)<j/\j<2^64)
theorem CMul.ok(h:CMul i j):IntMulOk i j:=by
 rcases h with⟨h1,h2⟩|⟨h1,h2⟩
 ·exact .of_left (intBits_le_64 h1 h2)
 ·exact .of_right (intBits_le_64 h1 h2)
theorem SI:OpR X (Yg .Add) (rI0 λi j=>.int (i+j)):=opI0 λ_ _ _ _ _ _ _ q=>add_int q
theorem SJ:OpR X (Yg .Sub) (rI0 λi j=>.int (i - j)):=opI0 λ_ _ _ _ _ _ _ q=>sub_int q
theorem SK:OpR X (Yg .Mult) (rI CMul λi j=>.int (i*j)):=opI λ_ _ _ _ _ _ _ hc q=>mul_int q hc.ok
theorem SL:OpR X (Yg .Mod) (rI (λ_ j=>0<j) λi j=>.int (i%j)):=opI λi j _ _ _ _ _ hc q=>by
 have h1:(0:Int)<j:=hc;exact mod_int' (by lia) (by rw[Int.fmod_eq_emod_of_nonneg i (by lia)];exact q)
theorem SM:OpR X (Yg .Pow) (rI CPow λi j=>.int (i^j.toNat)):=opI λ_ _ _ _ _ _ _ hc q=>pow_int_small hc.1 hc.2.1 hc.2.2 q
theorem SN:OpR X (Yg .LShift) (rI CPow λi j=>.int (i*2^j.toNat)):=opI λ_ _ _ _ _ _ _ hc q=>lshift_int_small hc.1 hc.2.1 hc.2.2 q
theorem SO:OpR X (Yg .BitAnd) (rI0 λi j=>.int (Cl i j)):=opI0 λ_ _ _ _ _ _ _ q=>and_int q
theorem SQ:OpR X (Yg .BitXor) (rI0 λi j=>.int (Cm i j)):=opI0 λ_ _ _ _ _ _ _ q=>xor_int q
theorem unI{f:X0->Sem X0}{g:Int->Int}
  (rule:∀(i:Int) (t:Tok) (s:X2) (Q:X0->X2->Prop) (E:X0->X2->Prop),Q (.int (g i) s.toks) {s with toks:=s.toks+1}->X3 (X6 X.prog X.w) X.A (f (.int i t)) Q E s):
  UnR X f (rU λi=>.int (g i)):=by
 intro pins s σ H x v Q I rx h;obtain⟨i,rfl,q⟩:=h;obtain⟨t,rfl⟩:=rx;exact rule i t s _ _ ⟨.int (g i),H,I.tok _,⟨_,rfl⟩,q⟩
theorem SR:UnR X (unaryOp .USub) (rU λi=>.int (-i)):=unI λ_ _ _ _ _ q=>neg_int q
end
noncomputable def scal:V->V->Bool
 |.non,.non=>true|.non,.int _=>true|.int _,.non=>true|.non,.bl _=>true|.bl _,.non=>true|.non,.str _=>true|.str _,.non=>true
 |.int _,.int _=>true|.bl _,.bl _=>true|.str _,.str _=>true|.byt _,.byt _=>true
 |.int _,.str _=>true|.str _,.int _=>true|.bl _,.str _=>true|.str _,.bl _=>true
 |_,_=>false
def rEq:R2:=λx y H Q=>scal x y=true/\Q (.bl (decide (x=y))) H
def rNe:R2:=λx y H Q=>scal x y=true/\Q (.bl (!decide (x=y))) H
theorem HV:decide (V.int i=V.int j)=(i==j):=by
 rw[C0];simp
theorem HW:decide (V.bl i=V.bl j)=(i==j):=by
 rw[C0];simp
theorem HX:decide (V.str i=V.str j)=(i==j):=by
 rw[C0];simp
theorem HY:decide (V.byt i=V.byt j)=(i.toList==j.toList):=by
 rw[C0];cases i;cases j;simp
section
variable{X:Cx}{a b c:Expr}{ta tb tc:TE}{pos:Pos}
theorem XH{k:Bool}(I:Inv X pins σ H s)(q:Q (.bl k) H)(e:k=k'):EP X pins σ Q (.bool k') s:=by
 subst e;exact⟨.bl k,H,I,rfl,q⟩
theorem SS:OpR X (Y0 .Eq) rEq:=by
 intro pins s σ H x y v u Q I rx ry h;obtain⟨hs,q⟩:=h;cases x with
 |non=>
  cases rx;cases y with
  |non=>cases ry;exact PySem.EqNone.eq_none_none (XH I q (by simp))
  |bl j=>cases ry;exact PySem.EqNone.eq_none_bool (XH I q (by simp))
  |int j=>obtain⟨t',rfl⟩:=ry;exact PySem.EqNone.eq_none_int (XH I q (by simp))
  |str j=>obtain⟨t',rfl⟩:=ry;exact PySem.EqNone.eq_none_str (XH I q (by simp))
  |_=>exact absurd (show false=true from hs) XE
 |bl i=>
  cases rx;cases y with
  |non=>cases ry;exact PySem.EqNone.eq_bool_none (XH I q (by simp))
  |bl j=>cases ry;exact eq_bool (XH I q HW)
  |str j=>obtain⟨t',rfl⟩:=ry;exact PySem.EqMixed.eq_bool_str (XH I q (by simp))
  |_=>exact absurd (show false=true from hs) XE
 |int i=>
  obtain⟨t,rfl⟩:=rx;cases y with
  |non=>cases ry;exact PySem.EqNone.eq_int_none (XH I q (by simp))
  |int j=>obtain⟨t',rfl⟩:=ry;exact eq_int (XH I q HV)
  |str j=>obtain⟨t',rfl⟩:=ry;exact PySem.EqMixed.eq_int_str (XH I q (by simp))
  |_=>exact absurd (show false=true from hs) XE
 |str i=>
  obtain⟨t,rfl⟩:=rx;cases y with
  |non=>cases ry;exact PySem.EqNone.eq_str_none (XH I q (by simp))
  |bl j=>cases ry;exact PySem.EqMixed.eq_str_bool (XH I q (by simp))
  |int j=>obtain⟨t',rfl⟩:=ry;exact PySem.EqMixed.eq_str_int (XH I q (by simp))
  |str j=>obtain⟨t',rfl⟩:=ry;exact eq_str (XH I q HX)
  |_=>exact absurd (show false=true from hs) XE
 |byt i=>
  obtain⟨t,rfl⟩:=rx;cases y with
  |byt j=>obtain⟨t',rfl⟩:=ry;exact PySem.W.eq_bytes (XH I q HY)
  |_=>exact absurd (show false=true from hs) XE
 |_=>cases y<;>exact absurd (show false=true from hs) XE
theorem ST:OpR X (Y0 .NotEq) rNe:=by
 intro pins s σ H x y v u Q I rx ry h;obtain⟨hs,q⟩:=h;cases x with
 |non=>
  cases rx;cases y with
  |non=>cases ry;exact PySem.EqNone.ne_none_none (XH I q (by simp))
  |bl j=>cases ry;exact PySem.EqNone.ne_none_bool (XH I q (by simp))
  |int j=>obtain⟨t',rfl⟩:=ry;exact PySem.EqNone.ne_none_int (XH I q (by simp))
  |str j=>obtain⟨t',rfl⟩:=ry;exact PySem.EqNone.ne_none_str (XH I q (by simp))
  |_=>exact absurd (show false=true from hs) XE
 |bl i=>
  cases rx;cases y with
  |non=>cases ry;exact PySem.EqNone.ne_bool_none (XH I q (by simp))
  |bl j=>cases ry;exact ne_bool (XH I q (congrArg not HW))
  |str j=>obtain⟨t',rfl⟩:=ry;exact PySem.EqMixed.ne_bool_str (XH I q (by simp))
  |_=>exact absurd (show false=true from hs) XE
 |int i=>
  obtain⟨t,rfl⟩:=rx;cases y with
  |non=>cases ry;exact PySem.EqNone.ne_int_none (XH I q (by simp))
  |int j=>obtain⟨t',rfl⟩:=ry;exact ne_int (XH I q (congrArg not HV))
  |str j=>obtain⟨t',rfl⟩:=ry;exact PySem.EqMixed.ne_int_str (XH I q (by simp))
  |_=>exact absurd (show false=true from hs) XE
 |str i=>
  obtain⟨t,rfl⟩:=rx;cases y with
  |non=>cases ry;exact PySem.EqNone.ne_str_none (XH I q (by simp))
  |bl j=>cases ry;exact PySem.EqMixed.ne_str_bool (XH I q (by simp))
  |int j=>obtain⟨t',rfl⟩:=ry;exact PySem.EqMixed.ne_str_int (XH I q (by simp))
  |str j=>obtain⟨t',rfl⟩:=ry;exact ne_str (XH I q (congrArg not HX))
  |_=>exact absurd (show false=true from hs) XE
 |byt i=>
  obtain⟨t,rfl⟩:=rx;cases y with
  |byt j=>obtain⟨t',rfl⟩:=ry;exact PySem.W.ne_bytes (XH I q (congrArg not HY))
  |_=>exact absurd (show false=true from hs) XE
 |_=>cases y<;>exact absurd (show false=true from hs) XE
theorem SU:OpR X (Y0 .Lt) (rI0 λi j=>.bl (decide (i<j))):=opB0 λ_ _ _ _ _ _ _ q=>lt_int q
theorem SV:OpR X (Y0 .LtE) (rI0 λi j=>.bl (decide (i≤j))):=opB0 λ_ _ _ _ _ _ _ q=>le_int q
theorem SW:OpR X (Y0 .Gt) (rI0 λi j=>.bl (decide (j<i))):=opB0 λ_ _ _ _ _ _ _ q=>gt_int q
theorem SX:OpR X (Y0 .GtE) (rI0 λi j=>.bl (decide (j≤i))):=opB0 λ_ _ _ _ _ _ _ q=>ge_int q
theorem SY:OpR X (Y0 .Is) (λx y H Q=>y=.non/\Q (.bl (decide (x=.non))) H):=by
 intro pins s σ H x y v u Q I rx ry h;obtain⟨rfl,q⟩:=h;cases ry;refine is_none_gen (XH I q ?_);cases x<;>first
  |(cases rx;rfl)
  |(obtain⟨t,rfl⟩:=rx;rfl)
theorem SZ:OpR X (Y0 .IsNot) (λx y H Q=>y=.non/\Q (.bl (!decide (x=.non))) H):=by
 intro pins s σ H x y v u Q I rx ry h;obtain⟨rfl,q⟩:=h;cases ry;refine isnot_none_gen (XH I q ?_);cases x<;>first
  |(cases rx;rfl)
  |(obtain⟨t,rfl⟩:=rx;rfl)
theorem T0{op:CmpOp}{r:R2}(ho:OpR X (Y0 op) r)(ha:PE X a ta)(hb:PE X b tb)(hm:behindInMarks op b=false):PE X (.Compare a [op] [b] pos) (tOp r ta tb):=by
 intro pins s σ H Q I h;exact wpAny_Compare1 (binT ha hb I h λv u s2 x y H2 I2 rx ry q=>ho pins s2 σ H2 x y v u Q I2 rx ry q) hm
def HZ(t:TE):TT:=λσ H Q=>t σ H λx H'=>∃k,x=.bl k/\Q k H'
theorem T1{op:CmpOp}{r:R2}(ho:OpR X (Y0 op) r)(ha:PE X a ta)(hb:PE X b tb)(hm:behindInMarks op b=false):PT X (.Compare a [op] [b] pos) (HZ (tOp r ta tb)):=by
 intro pins s σ H Q I h;refine wpAny_isTrue_Compare1 (thn (ha pins s σ H _ I h) λv s1 ⟨x,H1,I1,r1,q1⟩=>thn (hb pins s1 σ H1 _ I1 q1) λu s2 ⟨y,H2,I2,r2,q2⟩=>
  thn (ho pins s2 σ H2 x y v u _ I2 r1 r2 q2) λc s3 ⟨z,H3,I3,r3,k,e,q3⟩=>?_) hm
 subst e;cases r3;exact Zv ⟨H3,I3,q3⟩
noncomputable def E4(r r':R2)(ta tb tc:TE):TE:=λσ H Q=>ta σ H λx H1=>tb σ H1 λy H2=>r x y H2 λz H3=>∃k,z=.bl k/\
 (if k=true then tc σ H3 λw' H4=>r' y w' H4 Q else Q (.bl false) H3)
theorem T2{op op':CmpOp}{r r':R2}(ho:OpR X (Y0 op) r)(ho':OpR X (Y0 op') r')(ha:PE X a ta)(hb:PE X b tb)(hc:PE X c tc)
  (hm:lastMarks [op,op'] [b,c]=false:=by with_unfolding_all rfl):PE X (.Compare a [op,op'] [b,c] pos) (E4 r r' ta tb tc):=by
 intro pins s σ H Q I h;refine Compare_chain (thn (ha pins s σ H _ I h) λv s1 ⟨x,H1,I1,r1,q1⟩=>chain_link (thn (hb pins s1 σ H1 _ I1 q1) λu s2 ⟨y,H2,I2,r2,q2⟩=>
  thn (ho pins s2 σ H2 x y v u _ I2 r1 r2 q2) λd s3 ⟨z,H3,I3,r3,k,e,q3⟩=>?_)) hm
 subst e;cases r3;refine Zv ?_;cases k with
 |false=>exact ite_ff ⟨.bl false,H3,I3,rfl,q3⟩
 |true=>exact ite_tt (chain_last (thn (hc pins s3 σ H3 _ I3 q3) λw' s4 ⟨z',H4,I4,r4,q4⟩=>ho' pins s4 σ H4 y z' u w' Q I4 r2 r4 q4))
theorem T3{op op':CmpOp}{r r':R2}(ho:OpR X (Y0 op) r)(ho':OpR X (Y0 op') r')(ha:PE X a ta)(hb:PE X b tb)(hc:PE X c tc)
  (hm:lastMarks [op,op'] [b,c]=false:=by with_unfolding_all rfl):PT X (.Compare a [op,op'] [b,c] pos) (HZ (E4 r r' ta tb tc)):=by
 intro pins s σ H Q I h;refine isTrue_chain (thn (ha pins s σ H _ I h) λv s1 ⟨x,H1,I1,r1,q1⟩=>test_link (thn (hb pins s1 σ H1 _ I1 q1) λu s2 ⟨y,H2,I2,r2,q2⟩=>
  thn (ho pins s2 σ H2 x y v u _ I2 r1 r2 q2) λd s3 ⟨z,H3,I3,r3,k,e,q3⟩=>?_)) hm
 subst e;cases r3;refine Zv ?_;cases k with
 |false=>
  obtain⟨k',e',q'⟩:=q3;cases e';exact ite_ff ⟨H3,I3,q'⟩
 |true=>
  refine ite_tt (test_last (thn (hc pins s3 σ H3 _ I3 q3) λw' s4 ⟨z',H4,I4,r4,q4⟩=>thn (ho' pins s4 σ H4 y z' u w' _ I4 r2 r4 q4) λd' s5 ⟨z2,H5,I5,r5,k2,e2,q5⟩=>?_));subst e2;cases r5;exact Zv ⟨H5,I5,q5⟩
theorem VW:(sizeLine:Nat)<2^63:=by rw[sizeLine_eq];decide
theorem T4:OpR X (Yg .Add) (λx y H Q=>∃i j,x=.str i/\y=.str j/\i.length+j.length≤sizeLine/\Q (.str (i++j)) H):=by
 intro pins s σ H x y v u Q I rx ry h;obtain⟨i,j,rfl,rfl,hz,q⟩:=h;obtain⟨t,rfl⟩:=rx;obtain⟨t',rfl⟩:=ry;exact add_str (λt' tk=>⟨.str (i++j),H,I.tok _,⟨_,rfl⟩,q⟩) hz
theorem _p(r:Vals [x] us):∃u,us=[u]/\RelV x u:=by
 cases r with
 |cons r1 r2=>cases r2;exact⟨_,rfl,r1⟩
theorem VX(r:Vals [x,y] us):∃u w',us=[u,w']/\RelV x u/\RelV y w':=by
 cases r with
 |cons r1 r2=>
  cases r2 with
  |cons r3 r4=>cases r4;exact⟨_,_,rfl,r1,r3⟩
theorem T5(hc:X.calm=true):YA X (.builtin "max") (fun xs H Q=>∃i j,xs=[.int i,.int j]/\Q (.int (if j>i then j else i)) H):=by
 intro pins s σ H xs us Q I r h;obtain⟨i,j,rfl,q⟩:=h;obtain⟨u,w',rfl,⟨t,rfl⟩,⟨t',rfl⟩⟩:=VX r;refine max_two_ints (I.ok.hd hc) λh' tk k=>⟨_,H,I.kept k,?_,q⟩;by_cases hj:j>i
 ·rw[if_pos hj,if_pos hj];exact⟨_,rfl⟩
 ·rw[if_neg hj,if_neg hj];exact⟨_,rfl⟩
theorem T6(hc:X.calm=true):YA X (.builtin "min") (fun xs H Q=>∃i j,xs=[.int i,.int j]/\Q (.int (if j<i then j else i)) H):=by
 intro pins s σ H xs us Q I r h;obtain⟨i,j,rfl,q⟩:=h;obtain⟨u,w',rfl,⟨t,rfl⟩,⟨t',rfl⟩⟩:=VX r;refine min_two_ints (I.ok.hd hc) λh' tk k=>⟨_,H,I.kept k,?_,q⟩;by_cases hj:j<i
 ·rw[if_pos hj,if_pos hj];exact⟨_,rfl⟩
 ·rw[if_neg hj,if_neg hj];exact⟨_,rfl⟩
theorem T7:YA X (.type "int") (fun xs H Q=>(∃i,xs=[.int i]/\Q (.int i) H)\/∃k,xs=[.bl k]/\Q (.int (if k then 1 else 0)) H):=by
 intro pins s σ H xs us Q I r h;rcases h with⟨i,rfl,q⟩|⟨k,rfl,q⟩
 ·obtain⟨u,rfl,t,rfl⟩:=_p r;exact call_int_int ⟨.int i,H,I,⟨_,rfl⟩,q⟩
 ·obtain⟨u,rfl,r1⟩:=_p r;cases r1;exact call_int_bool ⟨.int (if k then 1 else 0),H,I.tok _,⟨_,rfl⟩,q⟩
end
structure ObjM (h:Heap) (x dx C:Addr) (mA:Str->Option X0):Prop where
 obj:h.get? x=some (UH C dx)
 ns:h.Ns1 dx mA
 ne:dx≠x
set_option tactic.hygienic true in
theorem T8{h:Heap}{dx:Addr}{mA:Str->Option X0}(n:h.Ns1 dx mA):∃od,h.get? dx=some od/\∀name,BU name od=some (mA name):=by
 obtain⟨o,es,ep,ho,hd,hk,_,hm⟩:=n;refine⟨o,ho,λname=>?_⟩;have e:=hm name;unfold nsFind findBy at e;rw[<- Array.find?_toList]at e;unfold BU;rw[hd];dsimp only;split
 ·rename_i y q
  rw[q]at e;exact congrArg some e
 ·rename_i q
  rw[q]at e;have a:es.toList.any (·.refKey)=false:=by
   rw[List.any_eq_false];intro y hy;obtain⟨z,t,hkey⟩:=hk y (Array.mem_toList_iff.mp hy);simp[DictEntry.refKey,hkey]
  have a':¬es.toList.any (·.refKey)=true:=by rw[a];exact XE
  rw[if_neg a'];exact congrArg some e
theorem ObjM.look(I:ObjM h x dx C mA):∃od,PySem.W.InstAt h x (UH C dx) C (some od)/\∀name,BU name od=some (mA name):=
 let⟨od,ho,hl⟩:=T8 I.ns
 ⟨od,⟨I.obj,rfl,rfl,ho⟩,hl⟩
section
variable{prog:Xv}{w:Xn}{A:XA}{E:X0->X2->Prop}{s:X2}{K:X4}{x dx C f:Addr}{mA:Str->Option X0}{name:Str}{v:X0}
theorem T9(X:K.In s.heap)(I:ObjM s.heap x dx C mA)(hg:V1 K C name=true)(hh:VH K C=true)
  (ha:XF K (.ref C) name=some none) (hv:mA name=some v) (hv':PySem.W.handedIn v=true) (h:Q v {s with toks:=s.toks+1}):
  X3 (X6 prog w) A (getAttr (.ref x) name expr) Q E s:=by
 obtain⟨od,J,hl⟩:=I.look;exact PySem.W.get_value X J (DF hg).1 (PySem.W.findObj_own hh ha rfl (by rw[hl,hv])) hv' h
theorem Ta(X:K.In s.heap)(I:ObjM s.heap x dx C mA)(hg:V1 K C name=true)
  (hf:XF K (.ref C) name=some (some (.ref f))) (ht:YQ K (.ref f)=true) (hv:mA name=none) (h:Q (.ref f,[.ref x]) s):
  X3 (X6 prog w) A (getMethod (.ref x) name pl) Q E s:=by
 obtain⟨od,J,hl⟩:=I.look;exact PySem.W.method_fn X J (DF hg).1 (DF hg).2 hf (beq_iff_eq.mp ht) (by show(BU name od).map (·.isSome)=some false;rw[hl,hv];rfl) h
theorem Tb(X:K.In s.heap)(I:ObjM s.heap x dx C mA)
  (hs:XF K (.ref C) "__setattr__"=some (some (.builtin "object.__setattr__"))) (hp:WD K C=true) (ht:DI K C name=some none) (hh:VH K C=true)
  (hw:DR mA ns) (hsz:ns.length≤sizeLine)
  (h:∀h',ObjM h' x dx C (λy=>if y=name then some v else mA y)->ZX dx s.heap h'->Q () {s with heap:=h',toks:=s.toks+2}):
  X3 (X6 prog w) A (setAttr (.ref x) name v) Q E s:=by
 obtain⟨od,J,hl⟩:=I.look;refine PySem.W.set_plain X J hs (PySem.W.osa_open (s:={s with toks:=s.toks+1}) (r:=none) X J hp ht λb=>?_);obtain⟨cd,hc,hd'⟩:=PySem.W.any_some hh;have hx:s.heap.get? x=some ⟨.ref C,some dx,.plain,#[]⟩:=I.obj;refine X1 (X8 (X1 (X1 (wpAny_loadPart hx (X1 (PySem.W.Looks.here (s:={s with toks:=s.toks+1}) (PySem.W.looks_clsIn X hc) ?_))))));rw[hd'];refine X8 (a:=some dx) (X1 (X8 (X1 ?_)));refine wpAny_nsSet1 (s:={s with toks:=s.toks+1}) I.ns λh' hn2 hs2=>?_;obtain⟨oD,esD,epD,hoD,hdD,hcD⟩:=hn2.count (PySem.Within.cons name v hw);refine X1 (wpAny_lookBehind hoD (by rw[hdD];exact pastItsLine_dict (Y2 hcD (by rw[Yh];lia))) ?_)
 exact X8 (h _ ⟨(hs2.2 _ (XQ I.ne)).trans I.obj,hn2,I.ne⟩ hs2)
theorem Tc(X:K.In s.heap)(hm:WE K C=true)
  (hi:XF K (.ref C) "__init__"=some (some (.ref f))) (hf:PySem.W.typeIn K (.ref f)=some (.type "function"))
  (h:YU (X6 prog w) (A.under (.builtin "type.__call__" ⟨.ref C::vs,kw⟩)) (.call (.ref f) ⟨.ref (s.heap.objs.size+1)::vs,kw⟩) (PySem.W.InitBack (s.heap.objs.size+1) R)
   {s with heap:=(s.heap.push ZW).push (UH C s.heap.objs.size)}):
  YU (X6 prog w) A (.call (.ref C) ⟨vs,kw⟩) R s:=by
 obtain⟨hh,g,d,t,os⟩:=s;exact PySem.W.make_core (PySem.W.makes_of X hm) (PySem.W.looks_findIn X hi) (λself=>PySem.W.bind_fn X self hf) (.inl rfl) h
end
noncomputable def putF(f:Str)(v:V):List (Str×V)->List (Str×V)
 |[]=>[(f,v)]
 |(g,x)::r=>if g=f then(g,v)::r else(g,x)::putF f v r
theorem I0(f g:Str)(v:V):∀fs:List (Str×V),(putF f v fs).lookup g=if g=f then some v else fs.lookup g
 |[]=>by
  show ZV g [(f,v)]=_;by_cases h:g=f
  ·have hb:(g==f)=true:=beq_iff_eq.mpr h;simp only[ZV,hb,if_pos h]
  ·have hb:(g==f)=false:=beq_eq_false_iff_ne.mpr h;simp only[ZV,hb,if_neg h]
 |(k,x)::r=>by
  have ih:=I0 f g v r;rw[show putF f v ((k,x)::r)=(if k=f then(k,v)::r else(k,x)::putF f v r)from rfl];by_cases hk:k=f
  ·rw[if_pos hk];by_cases h:g=k
   ·have hb:(g==k)=true:=beq_iff_eq.mpr h;simp only[ZV,hb,if_pos (h.trans hk)]
   ·have hb:(g==k)=false:=beq_eq_false_iff_ne.mpr h;simp only[ZV,hb,if_neg (λe:g=f=>h (e.trans hk.symm))]
  ·rw[if_neg hk];by_cases h:g=k
   ·have hb:(g==k)=true:=beq_iff_eq.mpr h;simp only[ZV,hb,if_neg (λe:g=f=>hk (h.symm.trans e))]
   ·have hb:(g==k)=false:=beq_eq_false_iff_ne.mpr h;simp only[ZV,hb];exact ih
theorem E5(f:Str)(v:V):∀fs:List (Str×V),f∈(putF f v fs).map (·.1)/\∀g,g∈fs.map (·.1)->g∈(putF f v fs).map (·.1)
 |[]=>⟨by simp[putF],λg h=>by simp at h⟩
 |(k,x)::r=>by
  obtain⟨i1,i2⟩:=E5 f v r;rw[show putF f v ((k,x)::r)=(if k=f then(k,v)::r else(k,x)::putF f v r)from rfl];by_cases hk:k=f
  ·rw[if_pos hk];subst hk;exact⟨by simp,λg h=>by simpa using h⟩
  ·rw[if_neg hk];refine⟨?_,λg h=>?_⟩
   ·rw[Xx];exact XS _ i1
   ·rw[Xx]at h ⊢;rcases Xl.mp h with e|e
    ·exact Xl.mpr (.inl e)
    ·exact XS _ (i2 g e)
theorem Ia(f:Str)(v:V):∀fs:List (Str×V),(putF f v fs).length≤fs.length+1
 |[]=>by simp[putF]
 |(k,x)::r=>by
  have ih:=Ia f v r;rw[show putF f v ((k,x)::r)=(if k=f then(k,v)::r else(k,x)::putF f v r)from rfl];by_cases hk:k=f
  ·rw[if_pos hk,Yh,Yh];lia
  ·rw[if_neg hk,Yh,Yh];lia
theorem RelO.some_of(r:RelO (some v) o):∃u,o=some u/\RelV v u:=by
 cases o with
 |none=>exact(show False from r).elim
 |some u=>exact⟨u,rfl,r⟩
theorem RelO.none_of(r:RelO none o):o=none:=by
 cases o with
 |none=>rfl
 |some u=>exact(show False from r).elim
theorem Td(r:RelV v u):PySem.W.handedIn u=true:=by
 cases v with
 |non=>cases(show u=Xt from r);rfl
 |bl b=>cases(show u=Y9 b from r);rfl
 |int i=>obtain⟨t,e⟩:=(show∃t,u=VN i t from r);cases e;rfl
 |str x=>obtain⟨t,e⟩:=(show∃t,u=XD x t from r);cases e;rfl
 |byt b=>obtain⟨t,e⟩:=(show∃t,u=Value.bytes b t from r);cases e;rfl
 |flt b=>obtain⟨t,e⟩:=(show∃t,u=C4 b t from r);cases e;rfl
 |ref a=>cases(show u=Xo a from r);rfl
 |ty n=>cases(show u=XC n from r);rfl
section
variable{P:Xv}{w:Xn}{H H':Hp}{h h':Heap}{a C dx:Addr}{fs fs':List (Str×V)}
theorem WQ(hok:HOk P w H h)(e:H a=some (.ins C dx fs)):∃mA,ObjM h a dx C mA/\(∀f,RelO (fs.lookup f) (mA f))/\DR mA (fs.map (·.1))/\fs.length≤1000/\H dx=some (.own a):=by
 obtain⟨d,z,ne,ob,mA,n,r,q⟩:=(show ObjOk P w H h a (.ins C dx fs)from hok a _ e);exact⟨mA,⟨ob,n,ne⟩,r,q,z,d⟩
end
structure Cls (K:X4) (C:Addr):Prop where
 pg:V1 K C U1=true
 hd:VH K C=true
 po:WD K C=true
 sa:XF K (.ref C) "__setattr__"=some (some (.builtin "object.__setattr__"))
theorem Cls.get{K:X4}(c:Cls K C)(f:Str):V1 K C f=true:=c.pg
def NoAttr(K:X4)(C:Addr)(f:Str):Prop:=XF K (.ref C) f=some none
theorem NoAttr.taker{K:X4}(n:NoAttr K C f):DI K C f=some none:=by
 unfold DI;rw[show XF K (.ref C) f=some none from n]
 rfl
structure Meth (K:X4) (C:Addr) (m:Str) (f:Addr):Prop where
 at_:XF K (.ref C) m=some (some (.ref f))
 fn:YQ K (.ref f)=true
 kp:XZ K (.ref f)=true
section
variable{X:Cx}{pins:List (Addr×Obj)}{σ:St}{H:Hp}{s:X2}{a C dx:Addr}{fs:List (Str×V)}{f:Str}{v:V}{A:XA}{E:X0->X2->Prop}
theorem Te(I:Inv X pins σ H s)(e:H a=some (.ins C dx fs))(c:Cls X.K C)(n:NoAttr X.K C f)(l:fs.lookup f=some v)
  (h:∀u s',Inv X pins σ H s'->RelV v u->Q u s'):X3 (X6 X.prog X.w) A (getAttr (.ref a) f b) Q E s:=by
 obtain⟨mA,O,r,_,_,_⟩:=WQ I.hok e;obtain⟨u,hu,ru⟩:=RelO.some_of (v:=v) (o:=mA f) (by rw[<- l];exact r f)
 exact T9 I.kIn O (c.get f) c.hd n hu (Td ru) (h u _ (I.tok _) ru)
theorem Ib(I:Inv X pins σ H s)(e:H a=some (.ins C dx fs))(c:Cls X.K C)(k:Meth X.K C m g)(l:fs.lookup m=none)
  (h:Q (.ref g,[.ref a]) s):X3 (X6 X.prog X.w) A (getMethod (.ref a) m pl) Q E s:=by
 obtain⟨mA,O,r,_,_,_⟩:=WQ I.hok e;have hn:mA m=none:=RelO.none_of (by rw[<- l];exact r m)
 exact Ta I.kIn O (c.get m) k.at_ k.fn hn h
theorem Tf(I:Inv X pins σ H s)(e:H a=some (.ins C dx fs))(c:Cls X.K C)(n:NoAttr X.K C f)(hl:fs.length<1000)(ry:RelV y u)
  (h:∀s',Inv X pins σ (upd H a (.ins C dx (putF f y fs))) s'->Q () s'):X3 (X6 X.prog X.w) A (setAttr (.ref a) f u) Q E s:=by
 obtain⟨mA,O,r,wi,_,ho⟩:=WQ I.hok e;have hz:(fs.map (·.1)).length≤sizeLine:=by rw[Xc,sizeLine_eq];lia
 refine Tb I.kIn O c.sa c.po n.taker c.hd wi hz λh' O' sb=>h _ ?_;have hd:∃o,h'.get? dx=some o:=let⟨o,_,_,e',_⟩:=O'.ns;⟨o,e'⟩
 refine I.write (x:=a) (e:=dx) (by rw[e];exact Yr) (.inr ho) (λb q hb z=>(sb.2 b hb).trans z) hd ?_
 refine⟨by rw[XM O.ne];exact ho,?_,O.ne,O'.obj,_,O'.ns,λg=>?_,λg hg=>?_⟩
 ·have:=Ia f y fs;lia
 ·show RelO ((putF f y fs).lookup g) (if g=f then some u else mA g);rw[I0];by_cases q:g=f
  ·rw[if_pos q,if_pos q];exact ry
  ·rw[if_neg q,if_neg q];exact r g
 ·by_cases q:g=f
  ·rw[q];exact(E5 f y fs).1
  ·refine(E5 f y fs).2 g (wi g λz=>hg ?_);show(if g=f then some u else mA g)=none;rw[if_neg q];exact z
theorem Inv.made(I:Inv X pins σ H s):Inv X pins σ (upd (upd H s.heap.objs.size (.own (s.heap.objs.size+1))) (s.heap.objs.size+1) (.ins C s.heap.objs.size []))
  {s with heap:=(s.heap.push ZW).push (UH C s.heap.objs.size)}:=by
 have e1:(s.heap.push ZW).get? s.heap.objs.size=some ZW:=XO s.heap rfl;have e2:((s.heap.push ZW).push (UH C s.heap.objs.size)).get? (s.heap.objs.size+1)=some (UH C s.heap.objs.size):=by
  have:=XO (s.heap.push ZW) (o:=UH C s.heap.objs.size) rfl
  rwa [Zm]at this
 have e3:(s.heap.push ZW).Ns s.heap.objs.size (λ_=>none):=⟨ZW,#[],_,e1,rfl,(λe he=>absurd he (by simp)),λ_=>rfl⟩
 have I1:=I.laid (a:=s.heap.objs.size) (o:=.own (s.heap.objs.size+1)) (h':=s.heap.push ZW) (t':=s.toks) (λb u q=>Xq _ q) (Xe _) ⟨_,e1⟩;refine I1.laid (a:=s.heap.objs.size+1) (o:=.ins C s.heap.objs.size []) (t':=s.toks) (λb u q=>Xq _ q) (WG (Zm _ _)) ?_;have ne:s.heap.objs.size≠s.heap.objs.size+1:=Xz (V4 _);refine⟨by rw[XM ne,_G],YH _,ne,e2,λ_=>none,(Heap.Ns1.of_empty e3).at λo q=>Xq _ q,λ_=>Yr,λy hy=>absurd rfl hy⟩
theorem Tg(hb:UA e f env (eval e env)=eval e env)
  (h:X3 (X6 prog w) A (eval e env) (λo s₁=>X3 (X6 prog w) A (getAttr o f true) Q E s₁) E s):X3 (X6 prog w) A (eval (.Attribute e f pos) env) Q E s:=
 Attribute_any_ h (by rw[arm_eval_Attribute,hb])
end
def tFld(K:X4)(ta:TE)(f:Str):TE:=λσ H Q=>ta σ H λx H1=>∃a C dx fs v,x=.ref a/\H1 a=some (.ins C dx fs)/\Cls K C/\NoAttr K C f/\fs.lookup f=some v/\Q v H1
def sFld(K:X4)(ta tv:TE)(f:Str):TS:=λD σ H=>tv σ H λy H1=>ta σ H1 λx H2=>∃a C dx fs,x=.ref a/\H2 a=some (.ins C dx fs)/\Cls K C/\NoAttr K C f/\fs.length<1000/\
 D.nx σ (upd H2 a (.ins C dx (putF f y fs)))
section
variable{X:Cx}{o e value:Expr}{f:Str}{pos pos' tpos:Pos}{ta tv:TE}
theorem Th(he:PE X e ta)(hb:UA e f X.env (eval e X.env)=eval e X.env):PE X (.Attribute e f pos) (tFld X.K ta f):=by
 intro pins s σ H Q I h;refine Tg hb (thn (he pins s σ H _ I h) λu s1 ⟨x,H1,I1,rx,a,C,dx,fs,v,ex,ea,c,n,l,q⟩=>?_);subst ex;obtain rfl:u=Xo a:=rx;exact Te I1 ea c n l λu' s2 I2 ru=>⟨v,H1,I2,ru,q⟩
theorem Ti(ha:PE X o ta)(hv:PE X value tv)(hs:Zw value (some (.Attribute o f pos')) pos.line X.env=pure false):PS X (.Assign [.Attribute o f pos'] value pos) (sFld X.K ta tv f):=by
 intro pins s σ H D I h;refine plainObj_wpAny_Assign_Attribute (thn (hv pins s σ H _ I h) λu s1 ⟨y,H1,I1,ry,q⟩=>thn (ha pins s1 σ H1 _ I1 q) λov s2 ⟨x,H2,I2,rx,a,C,dx,fs,ex,ea,c,n,l,q2⟩=>?_) hs;subst ex;obtain rfl:ov=Xo a:=rx;exact Tf I2 ea c n l ry λs3 I3=>⟨σ,_,I3,q2⟩
end
section
variable{X:Cx}{pins:List (Addr×Obj)}{σ:St}{H:Hp}{s:X2}{A:XA}{E:X0->X2->Prop}{Q:X0->X2->Prop}{c:X0}{b:Bool}
inductive TyOf (K:X4) (H:Hp):V->X0->Prop where
 |non:TyOf K H .non (.type "NoneType")
 |bl (x:Bool):TyOf K H (.bl x) (.type "bool")
 |int (i:Int):TyOf K H (.int i) (.type "int")
 |str (x:Str):TyOf K H (.str x) (.type "str")
 |flt (x:UInt64):TyOf K H (.flt x) (.type "float")
 |lst {a:Addr} {xs:List V} (e:H a=some (.lst xs)):TyOf K H (.ref a) (.type "list")
 |frz {a:Addr} {o:Obj} {xs:List V} (e:H a=some (.frz o (.lst xs))):TyOf K H (.ref a) (.type "list")
 |tup {a:Addr} {xs:List V} (e:H a=some (.tup xs)):TyOf K H (.ref a) (.type "tuple")
 |dK {a:Addr} {kvs:List (Key×V)} (e:H a=some (.dK kvs)):TyOf K H (.ref a) (.type "dict")
 |dT {a:Addr} {kvs:List (List Key×V)} (e:H a=some (.dT kvs)):TyOf K H (.ref a) (.type "dict")
 |ins {a C dx:Addr} {fs:List (Str×V)} (e:H a=some (.ins C dx fs)) (cl:Cls K C) (ha:XF K (.ref C) "__class__"=some (some (.builtin "object.__class__")))
   (hn:PySem.W.specialIn K (.builtin "object.__class__") "__get__"=some (some (.builtin "getset_descriptor.__get__"))) (htk:PySem.W.takesIn K (.builtin "object.__class__")=some true)
   (hm:PySem.W.mroIn K C (.type "object")=some true):TyOf K H (.ref a) (.ref C)
theorem Tj{t:X0}(I:Inv X pins σ H s)(rx:RelV x u)(ty:TyOf X.K H x t)(e:V2 X.K t c=some b)(h:∀tk,Q (.bool b) {s with toks:=tk}):
  X3 (X6 X.prog X.w) A (call (.builtin "isinstance") [u,c]) Q E s:=by
 cases ty with
 |non=>cases(show u=Xt from rx);exact Zk PySem.W.kitx_none I.kIn Yr e (λz=>nomatch z) h
 |bl y=>cases(show u=Y9 y from rx);exact Zk PySem.W.kitx_bool I.kIn Yr e (λz=>nomatch z) h
 |int i=>obtain⟨t,q⟩:=(show∃t,u=VN i t from rx);cases q;exact Zk PySem.W.kitx_int I.kIn Yr e (λz=>nomatch z) h
 |str y=>obtain⟨t,q⟩:=(show∃t,u=XD y t from rx);cases q;exact Zk PySem.W.kitx_str I.kIn Yr e (λz=>nomatch z) h
 |flt y=>obtain⟨t,q⟩:=(show∃t,u=C4 y t from rx);cases q;exact Zk PySem.W.kitx_float I.kIn Yr e (λz=>nomatch z) h
 | @lst a xs ea=>
  cases(show u=Xo a from rx);obtain⟨_,_,n,_,h1⟩:=(show ObjOk X.prog X.w H s.heap a (.lst xs)from I.hok a _ ea);exact Zk BS I.kIn ⟨_,h1,rfl⟩ e (λz=>nomatch z) h
 | @frz a ob xs ea=>
  cases(show u=Xo a from rx);obtain⟨_,_,_,n,_,h1⟩:=(show ObjOk X.prog X.w H s.heap a (.frz ob (.lst xs))from I.hok a _ ea);exact Zk BS I.kIn ⟨_,h1,rfl⟩ e (λz=>nomatch z) h
 | @tup a xs ea=>
  cases(show u=Xo a from rx);obtain⟨_,_,_,p⟩:=(show ObjOk X.prog X.w H s.heap a (.tup xs)from I.hok a _ ea);obtain⟨o,h1,h2,_⟩:=p.1;exact Zk PySem.W.kitx_tuple I.kIn ⟨o,h1,h2⟩ e (λz=>nomatch z) h
 | @dK a kvs ea=>
  cases(show u=Xo a from rx);obtain⟨_,_,vs,_,p⟩:=(show ObjOk X.prog X.w H s.heap a (.dK kvs)from I.hok a _ ea);obtain⟨o,es,ep,h1,h2,_⟩:=p;exact Zk BT I.kIn ⟨o,h1,h2.1⟩ e (λz=>nomatch z) h
 | @dT a kvs ea=>
  cases(show u=Xo a from rx);obtain⟨_,_,xs,_,o,es,ep,h1,h2,_⟩:=(show ObjOk X.prog X.w H s.heap a (.dT kvs)from I.hok a _ ea);exact Zk BT I.kIn ⟨o,h1,h2.1⟩ e (λz=>nomatch z) h
 | @ins a C dx fs ea cl ha hn htk hm=>
  cases(show u=Xo a from rx);obtain⟨mA,O,_⟩:=WQ I.hok ea;obtain⟨od,J,_⟩:=O.look;exact Zk (PySem.W.kitx_own (cl.get _) cl.hd ha hn htk hm) I.kIn J e (λz=>nomatch z) h
end
structure Room (k:Nat) (A:XA):Prop where
 hd:A.handled=none
 dp:A.depth+3*k+5<recursionLimit
 un:A.units+16*k+200<cLine
theorem Room.mono{k:Nat}(r:Room k A)(h:j≤k):Room j A:=⟨r.hd,by have:=r.dp;lia,by have:=r.un;lia⟩
theorem Room.deeper{k:Nat}(r:Room (k+1) A)(env:Env):Room k (A.deeper env):=
 ⟨r.hd,by have:=r.dp;show A.depth+1+3*k+5<_;lia,by have:=r.un;show A.units+3+16*k+200<_;lia⟩
theorem Tk{A:XA}{C:Addr}{us:List X0}{kw:List (Str×X0)}:(A.under (.builtin "type.__call__" ⟨.ref C::us,kw⟩)).depth=A.depth+1:=by
 first|rfl|simp[DQ,Code.weight,Code.isCreation,Code.isGuard,Code.isCaller,Code.frames,Code.isFrame,guardIds]
theorem Tl{A:XA}{C:Addr}{us:List X0}{kw:List (Str×X0)}:(A.under (.builtin "type.__call__" ⟨.ref C::us,kw⟩)).units=A.units+1:=by
 first|rfl|simp[DQ,Code.cUnits,Code.frames,Code.isFrame]
theorem Room.make{k:Nat}(r:Room (k+1) A)(C:Addr)(us:List X0)(kw:List (Str×X0)):Room k (A.under (.builtin "type.__call__" ⟨.ref C::us,kw⟩)):=
 ⟨r.hd,by have:=r.dp;rw[Tk];lia,by have:=r.un;rw[Tl];lia⟩
theorem Room.depth{k:Nat}(r:Room k A):A.depth<recursionLimit:=by have:=r.dp;lia
def tNil:TA:=λ_ H Q=>Q [] H
def VY(ta:TE)(tr:TA):TA:=λσ H Q=>ta σ H λx H1=>tr σ H1 λxs H2=>Q (x::xs) H2
section
variable{X:Cx}{e:Expr}{es:List Expr}{te:TE}{t:TA}{pos:Pos}
theorem pa_nil:PA X [] tNil:=λ_ _ _ _ H Q I h=>WM ⟨[],H,I,.nil,h⟩
theorem WR(ha:PE X e te)(hr:PA X es t)(hs:XB (e::es) X.env=(false,eval e X.env)::XB es X.env:=by rfl):PA X (e::es) (VY te t):=by
 intro pos pins s σ H Q I h;rw[hs];show X3 _ _ (spliced ((false,eval e X.env)::XY pos (XB es X.env))) _ _ s;refine WL (thn (ha pins s σ H _ I h) λu s1 ⟨x,H1,I1,r1,q1⟩=>?_);exact thn (hr pos pins s1 σ H1 _ I1 q1) λus s2 ⟨xs,H2,I2,r2,q2⟩=>⟨x::xs,H2,I2,.cons r1 r2,q2⟩
def tTup(t:TA):TE:=λσ H Q=>t σ H λxs H1=>xs.length≤sizeLine/\∀p,H1 p=none->Q (.ref p) (upd H1 p (.tup xs))
def tLst(t:TA):TE:=λσ H Q=>t σ H λxs H1=>xs.length≤sizeLine/\∀p,H1 p=none->Q (.ref p) (upd H1 p (.lst xs))
theorem Tn{x1}(h:PA X es t):PE X (.Tuple es x1 pos) (tTup t):=by
 intro pins s σ H Q I hq;refine wpAny_Tuple_spliced (thn (h pos pins s σ H _ I hq) λus s1 ⟨xs,H1,I1,r,z,q⟩=>⟨by rw[<- r.length];exact z,?_⟩)
 have hf:H1 s1.heap.objs.size=none:=I1.hok.fresh (Xe _);refine⟨.ref s1.heap.objs.size,upd H1 s1.heap.objs.size (.tup xs),I1.laid (t':=s1.toks) (λb u e=>Xq _ e) (Xe _) ?_,rfl,q _ hf⟩;exact⟨z,us,r,⟨_,XO _ rfl,rfl,_,rfl⟩,_,XO _ rfl,rfl⟩
theorem To(h:PA X es t):PE X (.List es pos) (tLst t):=by
 intro pins s σ H Q I hq;refine wpAny_List_spliced (thn (h pos pins s σ H _ I hq) λus s1 ⟨xs,H1,I1,r,z,q⟩=>⟨by rw[<- r.length];exact z,?_⟩)
 have hf:H1 s1.heap.objs.size=none:=I1.hok.fresh (Xe _);refine⟨.ref s1.heap.objs.size,upd H1 s1.heap.objs.size (.lst xs),I1.laid (t':=s1.toks) (λb u e=>Xq _ e) (Xe _) ?_,rfl,q _ hf⟩;exact⟨z,us,0,r,XO _ rfl⟩
end
abbrev Sp:=List V->Hp->VK->XK->Prop
abbrev CXT:=List Env->Hp->X2->XK->X0->X2->Prop
structure Env0 (P:Xv) (w:Xn) (K:X4) (mg:Str->Option X0) (base:Heap) (A:XA) (outer:List Env) (s:X2) (H:Hp):Prop where
 frames:A.frames=some outer
 mod:Mod K mg base
 bs:∀b o,base.get? b=some o->s.heap.get? b=some o/\H b=none
 bsz:base.objs.size≤s.heap.objs.size
 funs:s.heap.FunFrames base outer
 frf:∀b∈frs outer,H b=none
 hok:HOk P w H s.heap
 bare:AllBare s.gens
def CE(outer:List Env)(P:Xv)(w:Xn)(H:Hp)(s:X2)(Q:VK)(u:X0)(s':X2):Prop:=
 ∃v H',s'.os=s.os/\AllBare s'.gens/\Un (frs outer) [] H H' s.heap s'.heap/\HOk P w H' s'.heap/\RelV v u/\Q v H'
def CR(CX:CXT)(outer:List Env)(P:Xv)(w:Xn)(H:Hp)(s:X2)(Q:VK)(E:XK)(r:Result)(s':X2):Prop:=
 match r with
 |.ok (.ret u)=>CE outer P w H s Q u s'
 |.ok _=>False
 |.error e=>CX outer H s E e s'
structure FnOk (P:Xv) (w:Xn) (K:X4) (mg:Str->Option X0) (base:Heap) (CX:CXT) (k:Nat) (f:Addr) (fd:Xi) (ps:List Str) (sp:Sp):Prop where
 len:∀vs H Q E,sp vs H Q E->vs.length=ps.length
 run:∀(A:XA) (outer:List Env) (s:X2) (H:Hp) (args:Args) (us:List X0) (vs:List V) (Q:VK) (E:XK),Room k A->Env0 P w K mg base A outer s H->BindsTo s fd args (ps.zip us)->Vals vs us->sp vs H Q E->
  YU (X6 P w) A (.call (.ref f) args) (CR CX outer P w H s Q E) s
theorem FnOk.mono{K:X4}{k:Nat}(F:FnOk P w K mg base CX j f fd ps sp)(h:j≤k):
  FnOk P w K mg base CX k f fd ps sp:=⟨F.len,λA outer s H args us vs Q E hr=>F.run A outer s H args us vs Q E (hr.mono h)⟩
theorem FnOk.imp{K:X4}{k:Nat}(F:FnOk P w K mg base CX k f fd ps sp)
  (h:∀vs H Q E,sp' vs H Q E->sp vs H Q E):FnOk P w K mg base CX k f fd ps sp':=
 ⟨λvs H Q E q=>F.len vs H Q E (h _ _ _ _ q),λA outer s H args us vs Q E hr he hb hv hs=>F.run A outer s H args us vs Q E hr he hb hv (h _ _ _ _ hs)⟩
theorem Env0.make{K:X4}(e:Env0 P w K mg base A outer s H)(C:Addr)(us:List X0)(kw:List (Str×X0)):
  Env0 P w K mg base (A.under (.builtin "type.__call__" ⟨.ref C::us,kw⟩)) outer s H:=⟨by first|exact e.frames|(simpa [DQ,Code.envs,Code.isFrame,pushEnvs]using e.frames),e.mod,e.bs,e.bsz,e.funs,e.frf,e.hok,e.bare⟩
section
variable{X:Cx}{pins:List (Addr×Obj)}{σ:St}{H:Hp}{s s':X2}
theorem Inv.env0(I:Inv X pins σ H s):Env0 X.prog X.w X.K X.mg X.base X.A X.stack s H:=
 ⟨I.ok.frames,I.ok.mod,I.bs,Y2 I.ok.bsz I.sz,I.stack,I.stkFree,I.hok,I.bare⟩
theorem Inv.after(I:Inv X pins σ H s)(h:CE X.stack X.prog X.w H s Q u s'):EP X pins σ Q u s':=by
 obtain⟨v,H',os,bare,un,hok,r,q⟩:=h;obtain⟨hh,g,d,t,os'⟩:=s';obtain rfl:os'=s.os:=os;exact⟨v,H',I.call (h':=hh) (g':=g) (d':=d) (t':=t) (ch:=[]) un hok bare (λb z=>absurd z (by simp)),r,q⟩
end
def Tp(sp:Sp)(dvs:List V)(E:XK)(t:TA):TE:=λσ H Q=>t σ H λvs H1=>sp (vs++dvs) H1 Q E
noncomputable def Ic(C:Addr)(m:Str)(sp:Sp)(dvs:List V)(E:XK)(ta:TE)(t:TA):TE:=λσ H Q=>ta σ H λx H1=>∃a dx fs,x=.ref a/\H1 a=some (.ins C dx fs)/\fs.lookup m=none/\
 t σ H1 λvs H2=>sp (x::(vs++dvs)) H2 Q E
def Tq(C:Addr)(sp:Sp)(dvs:List V)(E:XK)(t:TA):TE:=λσ H Q=>t σ H λvs H1=>∀x dx,H1 x=none->H1 dx=none->dx≠x->
 sp (.ref x::(vs++dvs)) (upd (upd H1 dx (.own x)) x (.ins C dx [])) (λv H2=>v=.non/\Q (.ref x) H2) E
def Binds(K:X4)(fd:Xi)(ps:List Str)(ds:List X0):Prop:=
 ∀(s:X2) (us:List X0),K.In s.heap->(us++ds).length=ps.length->BindsTo s fd ⟨us,[]⟩ (ps.zip (us++ds))
theorem Binds.all{K:X4}(h:∀us:List X0,us.length=ps.length->bindArgs fd ⟨us,[]⟩=pure (ps.zip us)):Binds K fd ps []:=λs us _ hl=>by
 rw[VD]at hl ⊢;exact .of_eq (h us hl)
def Vd(CX:CXT)(X:Cx)(E:XK):Prop:=∀(pins:List (Addr×Obj)) (σ:St) (H:Hp) (s:X2) (e:X0) (s':X2),Inv X pins σ H s->CX X.stack H s E e s'->X.xe e s'
section
variable{X:Cx}{CX:CXT}{k:Nat}{f C:Addr}{fd:Xi}{ps:List Str}{sp:Sp}{dvs:List V}{ds:List X0}{E:XK}{x m:Str}{p pos apos:Pos}{e o:Expr}{es:List Expr}{ta:TE}{t:TA}
theorem E6(F:FnOk X.prog X.w X.K X.mg X.base CX k f fd ps sp)(hr:Room k X.A)(hb:Binds X.K fd ps ds)(hd:Vals dvs ds)(hx:Vd CX X E)
  (I:Inv X pins σ H s) (r:Vals vs us) (h:sp (vs++dvs) H Q E):X3 (X6 X.prog X.w) X.A (call (.ref f) us) (EP X pins σ Q) X.xe s:=by
 have r2:Vals (vs++dvs) (us++ds):=r.append hd;have hl:(us++ds).length=ps.length:=by rw[<- r2.length];exact F.len _ _ _ _ h
 refine wpAny_call (Vs (F.run X.A X.stack s H ⟨us,[]⟩ (us++ds) (vs++dvs) Q E hr I.env0 (hb s us I.kIn hl) r2 h) λr s' hq=>?_);cases r with
 |error e=>exact hx pins σ H s e s' I hq
 |ok fl=>
  cases fl with
  |ret u=>exact I.after hq
  |next=>exact Y3 hq
  |brk=>exact Y3 hq
  |cont=>exact Y3 hq
theorem Tr(F:FnOk X.prog X.w X.K X.mg X.base CX k f fd ps sp)(hr:Room k X.A)(hg:Gl X x)(hm:X.mg x=some (.ref f))(hk:XZ X.K (.ref f)=true)(hb:Binds X.K fd ps ds)(hd:Vals dvs ds)(hx:Vd CX X E)
  (ha:PA X (e::es) t) (hdb:(x==("__debug__":Str))=false:=by decide) (he:XB (e::es) X.env=(false,eval e X.env)::XB es X.env:=by rfl) (hpl:(XY pos (XB es X.env)).any (·.1)=false:=by rfl):
  PE X (.Call (.Name x p) (e::es) [] pos) (Tp sp dvs E t):=by
 intro pins s σ H Q I h;refine UB (E3 I hg hm ?_ hdb);refine DG (h₀:=X.base) I.ok.mod.kin hk (thn (ha pos pins s σ H _ I h) λus s1 ⟨vs,H1,I1,r,q⟩=>⟨I1.kIn,?_⟩) he hpl;exact E6 F hr hb hd hx I1 r q
theorem Ts{pl:Sem Bool}(he:PE X o ta)(c:Cls X.K C)(hm:Meth X.K C m f)(F:FnOk X.prog X.w X.K X.mg X.base CX k f fd ps sp)(hr:Room k X.A)(hb:Binds X.K fd ps ds)(hd:Vals dvs ds)(hx:Vd CX X E)(ha:PA X (e::es) t)
  (hst:XB (e::es) X.env=(false,eval e X.env)::XB es X.env:=by rfl) (hpl:(XY pos (XB es X.env)).any (·.1)=false:=by rfl)
  (ht:eval (.Call (.Attribute o m apos) (e::es) [] pos) X.env=(do
   let ov<- eval o X.env
   standAt apos.atName
   let(f,first)<- Z3 [ov] (getMethod ov m pl)
   callWith pos f first (XY pos (XB (e::es) X.env)) (ZS pos (ZT [] X.env))):=by rfl):
  PE X (.Call (.Attribute o m apos) (e::es) [] pos) (Ic C m sp dvs E ta t):=by
 intro pins s σ H Q I h;refine Hb (pl:=pl) (thn (he pins s σ H _ I h) λu s1 ⟨x,H1,I1,rx,a,dx,fs,ex,ea,l,q⟩=>?_) ht;subst ex;obtain rfl:u=Xo a:=rx;refine Ib I1 ea c hm l ?_;refine DG (first:=[.ref a]) (h₀:=X.base) I.ok.mod.kin hm.kp (thn (ha pos pins s1 σ H1 _ I1 q) λus s2 ⟨vs,H2,I2,r,q2⟩=>⟨I2.kIn,?_⟩) hst hpl
 exact E6 (us:=.ref a::us) (vs:=.ref a::vs) F hr hb hd hx I2 (.cons rfl r) q2
theorem Tt{pl:Sem Bool}(he:PE X o ta)(c:Cls X.K C)(hm:Meth X.K C m f)(F:FnOk X.prog X.w X.K X.mg X.base CX k f fd ps sp)(hr:Room k X.A)(hb:Binds X.K fd ps ds)(hd:Vals dvs ds)(hx:Vd CX X E)
  (ht:eval (.Call (.Attribute o m apos) [] [] pos) X.env=(do
   let ov<- eval o X.env
   standAt apos.atName
   let(f,first)<- Z3 [ov] (getMethod ov m pl)
   callWith pos f first (XY pos (XB [] X.env)) (ZS pos (ZT [] X.env))):=by rfl):
  PE X (.Call (.Attribute o m apos) [] [] pos) (Ic C m sp dvs E ta tNil):=by
 intro pins s σ H Q I h;refine Hb (pl:=pl) (thn (he pins s σ H _ I h) λu s1 ⟨x,H1,I1,rx,a,dx,fs,ex,ea,l,q⟩=>?_) ht;subst ex;obtain rfl:u=Xo a:=rx;refine Ib I1 ea c hm l ?_;exact PySem.W.callWith_K0 (first:=[.ref a]) I1.kIn hm.kp (E6 (us:=[.ref a]) (vs:=[.ref a]) F hr hb hd hx I1 (.cons rfl .nil) q)
structure Mk (K:X4) (C f:Addr):Prop where
 makes:WE K C=true
 init:XF K (.ref C) "__init__"=some (some (.ref f))
 fn:YQ K (.ref f)=true
 kp:XZ K (.ref C)=true
theorem Tu(M:Mk X.K C f)(F:FnOk X.prog X.w X.K X.mg X.base CX k f fd ps sp)(hr:Room (k+1) X.A)(hb:Binds X.K fd ps ds)(hd:Vals dvs ds)
  (hx:Vd CX X E) (I:Inv X pins σ H s) (r:Vals vs us)
  (h:∀x dx,H x=none->H dx=none->dx≠x->sp (.ref x::(vs++dvs)) (upd (upd H dx (.own x)) x (.ins C dx [])) (λv H2=>v=.non/\Q (.ref x) H2) E):
  X3 (X6 X.prog X.w) X.A (call (.ref C) us) (EP X pins σ Q) X.xe s:=by
 have hq:=h (s.heap.objs.size+1) s.heap.objs.size (I.hok.fresh (UI _)) (I.hok.fresh (Xe _)) (Xz (V4 _));have I2:=Inv.made (C:=C) I;have r2:Vals (V.ref (s.heap.objs.size+1)::(vs++dvs)) (Xo (s.heap.objs.size+1)::(us++ds)):=.cons rfl (r.append hd);have hl:(Xo (s.heap.objs.size+1)::us++ds).length=ps.length:=by
  have e:=r2.length;rw[F.len _ _ _ _ hq]at e;exact e.symm
 refine wpAny_call (Tc (f:=f) I.kIn M.makes M.init (beq_iff_eq.mp M.fn) (Vs (F.run _ X.stack _ _ ⟨Xo (s.heap.objs.size+1)::us,[]⟩ (Xo (s.heap.objs.size+1)::(us++ds)) _ _ E (hr.make C us [])
  (I2.env0.make C us []) (hb _ (Xo (s.heap.objs.size+1)::us) I2.kIn hl) r2 hq) λr s' hq'=>?_))
 cases r with
 |error e=>exact hx pins σ _ _ e s' I2 hq'
 |ok fl=>
  cases fl with
  |ret u=>
   obtain⟨v,H',I3,rv,ev,q3⟩:=I2.after hq';subst ev;exact⟨rv,⟨V.ref (s.heap.objs.size+1),H',I3,rfl,q3⟩⟩
  |next=>exact Y3 hq'
  |brk=>exact Y3 hq'
  |cont=>exact Y3 hq'
theorem Tv(M:Mk X.K C f)(F:FnOk X.prog X.w X.K X.mg X.base CX k f fd ps sp)(hr:Room (k+1) X.A)(hg:Gl X x)(hm:X.mg x=some (.ref C))(hb:Binds X.K fd ps ds)(hd:Vals dvs ds)(hx:Vd CX X E)
  (ha:PA X (e::es) t) (hdb:(x==("__debug__":Str))=false:=by decide) (he:XB (e::es) X.env=(false,eval e X.env)::XB es X.env:=by rfl) (hpl:(XY pos (XB es X.env)).any (·.1)=false:=by rfl):
  PE X (.Call (.Name x p) (e::es) [] pos) (Tq C sp dvs E t):=by
 intro pins s σ H Q I h;refine UB (E3 I hg hm ?_ hdb);refine DG (h₀:=X.base) I.ok.mod.kin M.kp (thn (ha pos pins s σ H _ I h) λus s1 ⟨vs,H1,I1,r,q⟩=>⟨I1.kIn,?_⟩) he hpl;exact Tu M F hr hb hd hx I1 r q
end
section
variable{X:Cx}{CX:CXT}{k:Nat}{f C:Addr}{fd:Xi}{ps ks:List Str}{sp:Sp}{E:XK}{x m:Str}{p pos apos kpos:Pos}{e o:Expr}{es:List Expr}{kws:List Z4}{te ta:TE}{t tk:TA}{nm:Option Str}
variable{g:List X0->List X0->List X0}{gV:List V->List V->List V}
end
structure FnScope (N P:List Str) (sc:Scope):Prop where
 kind:sc.kind=.function
 co:sc.isCoroutine=false
 gen:sc.isGenerator=false
 nd:N.Nodup
 pre:N.take P.length=P
 par:∀x∈P,sc.names.lookup x=some .local\/sc.names.lookup x=some .cell
 nofree:∀y∈sc.names,y.2≠.free
theorem mkSc {N P:List Str}{sc:Scope}(a:sc.kind=.function:=by rfl)(b:sc.isCoroutine=false:=by rfl)(c:sc.isGenerator=false:=by rfl)(d:N.Nodup:=by decide+kernel)(e:N.take P.length=P:=by rfl)(f:∀x∈P,sc.names.lookup x=some .local\/sc.names.lookup x=some .cell:=by decide+kernel)(g:∀y∈sc.names,y.2≠.free:=by decide+kernel):FnScope N P sc:=⟨a,b,c,d,e,f,g⟩
theorem Id{kindOf:Str->Option Z5}:∀{binds:List (Str×X0)} {m:Str->Option X0},(∀v,(x,v)∉binds)->bindL kindOf binds m x=m x
 |[],_,_=>rfl
 |(n,v)::r,m,h=>by
  unfold bindL;rw[Id λw hw=>h w (XS _ hw)];split
  ·have:x≠n:=by rintro rfl;exact h v Y8
   simp[this]
  ·rfl
theorem Ie{kindOf:Str->Option Z5}:∀{binds:List (Str×X0)} {m:Str->Option X0},(∀v,(x,v)∉binds)->bindC kindOf binds m x=m x
 |[],_,_=>rfl
 |(n,v)::r,m,h=>by
  unfold bindC;rw[Ie λw hw=>h w (XS _ hw)];split
  ·rfl
  ·have:x≠n:=by rintro rfl;exact h v Y8
   simp[this]
theorem Ig{kindOf:Str->Option Z5}:∀{P:List Str} {vs:List X0} {i:Nat} {m:Str->Option X0},P.Nodup->P[i]?=some x->vs[i]?=some v->kindOf x=some .local->
  bindL kindOf (P.zip vs) m x=some v
 |[],_,_,_,_,h,_,_=>by simp at h
 |_::_,[],_,_,_,_,h,_=>by simp at h
 |p::P,w::vs,0,m,nd,h1,h2,hk=>by
  simp at h1 h2;subst h1;subst h2;show bindL kindOf ((p,w)::P.zip vs) m p=_;unfold bindL;rw[Id λv hv=>(YG.mp nd).1 (DD hv).1,if_pos hk];simp
 |p::P,w::vs,i+1,m,nd,h1,h2,hk=>by
  show bindL kindOf ((p,w)::P.zip vs) m x=_;unfold bindL;exact Ig (i:=i) (YG.mp nd).2 (by simpa using h1) (by simpa using h2) hk
theorem Ih{kindOf:Str->Option Z5}:∀{P:List Str} {vs:List X0} {i:Nat} {m:Str->Option X0},P.Nodup->P[i]?=some x->vs[i]?=some v->kindOf x≠some .local->
  bindC kindOf (P.zip vs) m x=some v
 |[],_,_,_,_,h,_,_=>by simp at h
 |_::_,[],_,_,_,_,h,_=>by simp at h
 |p::P,w::vs,0,m,nd,h1,h2,hk=>by
  simp at h1 h2;subst h1;subst h2;show bindC kindOf ((p,w)::P.zip vs) m p=_;unfold bindC;rw[Ie λv hv=>(YG.mp nd).1 (DD hv).1,if_neg hk];simp
 |p::P,w::vs,i+1,m,nd,h1,h2,hk=>by
  show bindC kindOf ((p,w)::P.zip vs) m x=_;unfold bindC;exact Ih (i:=i) (YG.mp nd).2 (by simpa using h1) (by simpa using h2) hk
def ZH(N:List Str)(vs:List V):St:=vs.map some++Xj (N.length - vs.length) none
noncomputable def cxOf(CX:CXT)(P:Xv)(w:Xn)(K:X4)(mg:Str->Option X0)(base:Heap)(N:List Str)(qual:Str)(scope:Scope)(f:Addr)(cd:X0)(A:XA)(outer:List Env)(s:X2)(H:Hp)(E:XK):Cx where
 prog:=P
 w:=w
 K:=K
 mg:=mg
 base:=base
 A:=A.deeper (envOfC qual scope s.heap.objs.size f cd)
 N:=N
 s₀:=s
 H₀:=H
 env:=envOfC qual scope s.heap.objs.size f cd
 outer:=outer
 stack:=envOfC qual scope s.heap.objs.size f cd::outer
 ex:=[]
 calm:=true
 fn:=λ_=>true
 pn:=[]
 xe:=λe s'=>X3 (X6 P w) (A.deeper (envOfC qual scope s.heap.objs.size f cd)) (leaving (envOfC qual scope s.heap.objs.size f cd) e) (λ_ s''=>CX outer H s E e s'') (λe' s''=>CX outer H s E e' s'') s'
theorem Ii{sc:Scope}{n:Nat}{x:Str}(h:sc.names.lookup x=some .cell):∃c,(cellsFrom n sc.names []).lookup x=some c:=by
 have q:=Ha sc.names n [] (.inl h);exact Option.isSome_iff_exists.mp q
theorem Tw{CX:CXT}{P:Xv}{w:Xn}{K:X4}{mg:Str->Option X0}{base:Heap}{N ps:List Str}{qual:Str}{scope:Scope}{f:Addr}{cd:X0}{A:XA}{outer:List Env}{s s1:X2}{H:Hp}{E:XK}{us:List X0}{vs:List V}
  (S:FnScope N ps scope) (hd:A.handled=none) (e0:Env0 P w K mg base A outer s H) (hl:vs.length=ps.length) (r:Vals vs us)
  (x:InCallC s s.heap.objs.size (bindL (envOfC qual scope s.heap.objs.size f cd).kindOf (ps.zip us) λ_=>none) (cellsFrom (s.heap.objs.size+1) scope.names []) (bindC (envOfC qual scope s.heap.objs.size f cd).kindOf (ps.zip us) λ_=>none) s1):
  Inv (cxOf CX P w K mg base N qual scope f cd A outer s H E) [] (ZH N vs) H s1:=by
 have hpl:ps.length≤N.length:=by have:=congrArg WB S.pre;rw[YN]at this;lia
 obtain⟨h1,tk,rfl,hk⟩:=x.done;have noA:∀b:Addr,b∉(cxOf CX P w K mg base N qual scope f cd A outer s H E).ex:=λb z=>absurd (show b∈([]:List Addr)from z) (by simp)
 refine⟨⟨e0.mod,S.kind,rfl,rfl,Xe _,λy z c h1 h2=>?_,λy hy=>?_,λy c _ h=>?_,λ_=>hd,Around.frames_deeper e0.frames,.inr ⟨rfl,rfl⟩,λb z=>absurd z (noA b),e0.bs,e0.bsz,λb _ _=>noA b,λb z=>absurd z (noA b),e0.funs,e0.frf⟩,
  rfl,e0.bare,Un.kept hk,⟨_,x.toInCall.ns,λi y v h1 h2 h3=>?_⟩,λy c h=>⟨_,x.cell y c h⟩,e0.hok.fresh (Xe _),λy c h=>?_,λp hp=>absurd (show p∈([]:List (Addr×Obj))from hp) (by simp),e0.hok.kept hk,?_⟩
 ·exact name_of_addr x.apart (VR h1) (VR h2)
 ·have hy:scope.names.lookup y=some .cell\/scope.names.lookup y=some .free:=hy;rcases hy with hy|hy
  ·exact Ii hy
  ·exact absurd rfl (S.nofree _ (VR hy))
 ·exact BY (x.above y c (VR h))
 ·have hi:i<vs.length:=by
   unfold ZH at h2;by_cases hi:i<vs.length
   ·exact hi
   ·rw[Zh (by simpa using hi)]at h2
    rw[GY]at h2;split at h2<;>cases h2
  have ha:vs[i]?=some v:=by
   unfold ZH at h2;rw[Zz (by simpa using hi),Xr]at h2
   cases e:vs[i]? with
   |none=>rw[e]at h2;cases h2
   |some a=>rw[e]at h2;cases h2;rfl
  obtain⟨u,hu,rv⟩:=r.get ha;have hp:ps[i]?=some y:=by
   rw[<- S.pre,List.getElem?_take_of_lt (by lia)];exact h1
  have ndP:ps.Nodup:=by rw[<- S.pre];exact S.nd.sublist (List.take_sublist _ _)
  refine⟨u,rv,?_⟩;rcases S.par y (Xw hp)with k|k
  ·exact .inl ⟨k,Ig ndP hp hu k⟩
  ·obtain⟨c,e⟩:=Ii (n:=s.heap.objs.size+1) k;refine .inr ⟨.inl k,c,e,?_⟩;have q:=x.cell y c e;rw[Ih ndP hp hu (by show scope.names.lookup y≠_;rw[k];decide)]at q
   exact q
 ·exact e0.hok.fresh (BY (x.above y c (VR h)))
 ·unfold ZH;show _=N.length;rw[Yn,Xc,Z7];lia
theorem Tx{K:X4}{k:Nat}{name:Str}{kV:X0}
    (lk:K.lookup f=some ⟨oc,od,.func (Yd name qual params body scope dV kV doc pm an cdv ct),osl⟩) (hcd:YO K cdv qual=true) (S:FnScope N ps scope)
  (len:∀vs H Q E,sp vs H Q E->vs.length=ps.length)
  (hbody:∀(A:XA) (outer:List Env) (s:X2) (H:Hp) (vs:List V) (Q:VK) (E:XK),Room k (A.deeper (envOfC qual scope s.heap.objs.size f cdv))->sp vs H Q E->
   ∃t,PSs (cxOf CX P w K mg base N qual scope f cdv A outer s H E) body t/\t {nx:=λ_ H'=>Q .non H',rt:=Q} (ZH N vs) H):
  FnOk P w K mg base CX (k+1) f (Yd name qual params body scope dV kV doc pm an cdv ct) ps sp:=by
 refine⟨len,λA outer s H args us vs Q E hr e0 hb r hsp=>?_⟩;have hl:=len _ _ _ _ hsp;have KX:K.In s.heap:=e0.mod.kin.keeps λb o e=>(e0.bs b o e).1;have lim:s.heap.NoLimit:=e0.mod.nolimit.keeps λb o e=>(e0.bs b o e).1;have hkind:∀y∈ps.zip us,scope.names.lookup y.1=some .local\/(scope.names.lookup y.1=some .cell/\((cellsFrom (s.heap.objs.size+1) scope.names []).lookup y.1).isSome=true):=fun⟨n,v⟩ hy=>by
  rcases S.par n (DD hy).1 with q|q
  ·exact .inl q
  ·exact .inr ⟨q,Ha _ _ _ (.inl q)⟩
 refine codeAny_call_function hr.depth (KX _ _ lk) rfl S.co S.gen rfl (PySem.W.codeRec_of KX hcd) (hb _ _ _ _ ?_);refine wpAny_newFunctionEnv_cells S.kind hkind λenv he s1 x=>?_;subst he;refine⟨lim.keeps x.toInCall.keep,codeAny_func ?_⟩;obtain⟨t,ht,hq⟩:=hbody A outer s H vs Q E (hr.deeper _) hsp;have I:Inv (cxOf CX P w K mg base N qual scope f cdv A outer s H E) [] (ZH N vs) H s1:=Tw S hr.hd e0 hl r x;refine Zu (ht [] s1 (ZH N vs) H _ I hq) (λfl s' hs=>?_) λe s' hs=>hs;have fin:∀{σ':St} {H':Hp} {v:V} {u:X0},Inv (cxOf CX P w K mg base N qual scope f cdv A outer s H E) [] σ' H' s'->RelV v u->Q v H'->CE outer P w H s Q u s':=
  fun{σ' H' v u} J rv q=>⟨v,H',J.os,J.bare,J.base,J.hok,rv,q⟩
 cases fl with
 |ret u=>
  obtain⟨v,σ',H',J,rv,q⟩:=hs;exact fin J rv q
 |next=>
  obtain⟨σ',H',J,q⟩:=hs;exact fin (v:=V.non) (u:=Xt) J rfl q
 |brk=>
  obtain⟨_,_,_,q⟩:=hs;exact Y3 q
 |cont=>
  obtain⟨_,_,_,q⟩:=hs;exact Y3 q
section
variable{X:Cx}{x:Str}{p pos:Pos}{e:Expr}{es:List Expr}{t:TA}{id T:String}{r:List V->Hp->VK->Prop}
def tCB(r:List V->Hp->VK->Prop)(t:TA):TE:=λσ H Q=>t σ H λvs H1=>r vs H1 Q
theorem Ty(hc:YA X (.builtin id) r)(hg:Gl X x)(hm:X.mg x=none)(hv:YF x=some (.builtin id))(ha:PA X (e::es) t)(hn:x≠"__name__":=by decide)(hdb:(x==("__debug__":Str))=false:=by decide)
  (he:XB (e::es) X.env=(false,eval e X.env)::XB es X.env:=by rfl) (hpl:(XY pos (XB es X.env)).any (·.1)=false:=by rfl):PE X (.Call (.Name x p) (e::es) [] pos) (tCB r t):=by
 intro pins s σ H Q I h;refine UB (UL I hg hm hv ?_ hn hdb);exact Hd (thn (ha pos pins s σ H _ I h) λus s1 ⟨vs,H1,I1,r1,q1⟩=>hc pins s1 σ H1 vs us Q I1 r1 q1) he hpl
theorem Tz(hc:YA X (.type T) r)(hg:Gl X x)(hm:X.mg x=none)(hv:YF x=some (.type T))(ha:PA X (e::es) t)(hn:x≠"__name__":=by decide)(hdb:(x==("__debug__":Str))=false:=by decide)
  (he:XB (e::es) X.env=(false,eval e X.env)::XB es X.env:=by rfl) (hpl:(XY pos (XB es X.env)).any (·.1)=false:=by rfl):PE X (.Call (.Name x p) (e::es) [] pos) (tCB r t):=by
 intro pins s σ H Q I h;refine UB (UL I hg hm hv ?_ hn hdb);exact WK (thn (ha pos pins s σ H _ I h) λus s1 ⟨vs,H1,I1,r1,q1⟩=>hc pins s1 σ H1 vs us Q I1 r1 q1) he hpl
end
end L2
namespace HT
open PySem PyProof.Rows
section
open PySem.SeqAt
open PySem.AutoSeq1 (wpAny_loadPart')
open PySem.MeetsSeq PySem.MeetsSeq2 PySem.MeetsSeq3
end
section
variable{prog:Xv}{w:Xn}{A:XA}{E:X0->X2->Prop}{s:X2}
theorem cat_tup{t:Addr}(ht:IsTup s.heap t vs.toArray)(hb:IsTup s.heap b ws.toArray)(hv:vs≠ [])
  (h1:ws=[]->Q (.ref t) s) (h2:ws≠ []->Q (.ref s.heap.objs.size) {s with heap:=s.heap.push {cls:=.type "tuple",data:=.seq (vs++ws).toArray} })
  (hsz:vs.length+ws.length≤sizeLine):X3 (X6 prog w) A (Yg .Add (.ref t) (.ref b)) Q E s:=by
 obtain⟨⟨cls,dd,data,sl⟩,ho,hc,n,hd⟩:=id ht;obtain⟨⟨cls2,dd2,data2,sl2⟩,ho2,hc2,n2,hd2⟩:=id hb;simp only at hc hd hc2 hd2;subst hc hd hc2 hd2;have e:vs.toArray++ws.toArray=(vs++ws).toArray:=by simp
 by_cases hw:ws=[]
 ·exact concat_meets ⟨_,ho,rfl⟩ ⟨_,ho2,rfl⟩ noFill_tuple_add seq_tuple_add Hu Hr (Ho _ _)
   (tuple_addW1 t b vs.toArray ws.toArray n n2 dd dd2 sl sl2 (by simpa using hv) (by simp[hw])) ⟨ho,ho2,h1 hw⟩
 ·refine concat_meets ⟨_,ho,rfl⟩ ⟨_,ho2,rfl⟩ noFill_tuple_add seq_tuple_add Hu Hr (Ho _ _)
   (tuple_addW2 t b vs.toArray ws.toArray n n2 dd dd2 sl sl2 (by simpa using hv) (by simpa using hw) (by rw[XR,XR];exact hsz)) ⟨ho,ho2,?_⟩
  rw[e];exact h2 hw
noncomputable def sIx(n d:Nat):Option Int->Nat
 |none=>d
 |some v=>if v<0 then(v+(n:Int)).toNat else min v.toNat n
theorem sIx_none(n d:Nat):sIx n d none=d:=rfl
theorem sIx_nat(n d k:Nat):sIx n d (some (k:Int))=min k n:=by
 show(if(k:Int)<0 then((k:Int)+(n:Int)).toNat else min (k:Int).toNat n)=min k n;rw[if_neg (by lia),YI]
theorem TB(n d:Nat)(hd:d≤n)(o:Option Int):sIx n d o≤n:=by
 cases o with
 |none=>exact hd
 |some v=>
  show(if v<0 then(v+(n:Int)).toNat else min v.toNat n)≤n;by_cases hv:v<0
  ·rw[if_pos hv];lia
  ·rw[if_neg hv];exact Nat.min_le_right _ _
theorem Ij(v:Int)(n d:Nat):(if v<0 then max (v+(n:Int)) 0 else min v (n:Int))=((sIx n d (some v):Nat):Int):=by
 show(if v<0 then max (v+(n:Int)) 0 else min v (n:Int))=(((if v<0 then(v+(n:Int)).toNat else min v.toNat n):Nat):Int);by_cases hv:v<0
 ·simp only[if_pos hv];lia
 ·simp only[if_neg hv];lia
theorem TC(lo hi:Option Int)(n:Nat):DS lo hi 1 (n:Int)=(((sIx n 0 lo:Nat):Int),((sIx n n hi:Nat):Int)):=by
 have h1:¬((1:Int)<0):=by lia
 unfold DS;simp only[h1,if_false];refine Prod.ext ?_ ?_
 ·cases lo with
  |none=>rfl
  |some v=>exact Ij v n 0
 ·cases hi with
  |none=>rfl
  |some v=>exact Ij v n n
theorem TD(i j:Nat):Ca (i:Int) (j:Int) 1=j - i:=by
 unfold Ca;have h1:(1:Int)>0:=by lia
 simp only[h1,if_true,Int.ediv_one];split<;>lia
theorem Ik(p:IsPart v o)(h:Q o s):X3 (X6 prog w) A (Builtin.Slice.slicePartIndex v) Q E s:=by
 cases p with
 |none=>exact slicePart_none h
 |int i t=>exact slicePart_int h
theorem Il{sl:Addr}{vl vu:X0}{lo hi:Option Int}{n:Nat}{Q:Int×Int×Nat->X2->Prop}(hs:s.heap.IsSliceOf sl vl vu .none)(pl:IsPart vl lo)(pu:IsPart vu hi)
  (h:Q (((sIx n 0 lo:Nat):Int),1,sIx n n hi - sIx n 0 lo) s):X3 (X6 prog w) A (Hl (.ref sl) (pure (n:Int))) Q E s:=by
 obtain⟨os,hos,hcs,hds⟩:=id hs;unfold Hl Builtin.Slice.sliceFields;refine X1 (X1 (wpAny_field hos hds (x:=vl) rfl (X1 (wpAny_field hos hds (x:=vu) rfl (X1 (wpAny_field hos hds (x:=.none) rfl (X8 ?_)))))));refine X1 (slicePart_none ?_);show X3 _ _ (if((1:Int)==0)=true then _ else _) _ _ s;rw[if_neg (by decide)]
 refine X1 (Ik pl (X1 (Ik pu (X1 (X8 ?_)))));show X3 _ _ (match DS lo hi 1 (n:Int)with|(lo,hi)=>pure (lo,(1:Int),Ca lo hi 1)) _ _ s
 rw[TC lo hi n];show X3 _ _ (pure (((sIx n 0 lo:Nat):Int),(1:Int),Ca ((sIx n 0 lo:Nat):Int) ((sIx n n hi:Nat):Int) 1)) _ _ s;rw[TD];exact X8 h
theorem TF(xs:Array X0)(i k:Nat):((Xs k).filterMap fun(m:Nat)=>xs[((i:Int)+(m:Int)*1).toNat]?).toArray=((xs.toList.drop i).take k).toArray:=by
 have e:(fun(m:Nat)=>xs[((i:Int)+(m:Int)*1).toNat]?)=λm=>xs[i+m]?:=by
  funext m
  have:((i:Int)+(m:Int)*1).toNat=i+m:=by lia
  rw[this]
 rw[e];have:=pick_run xs i k;rw[List.filterMap_map]at this;have e2:((λx=>xs[x]?)∘ λx=>i+x)=λm=>xs[i+m]?:=rfl;rw[e2]at this;rw[this]
theorem getItem_tuple_cut{t:Addr}{items:Array X0}{lo:Option Int}(ht:IsTup s.heap t items)(hs:s.heap.IsSliceOf sl vl vu .none)(pl:IsPart vl lo)(pu:IsPart vu hi)
  (hw:¬(sIx items.size 0 lo=0/\sIx items.size items.size hi=items.size))
  (h:Q (.ref s.heap.objs.size) {s with heap:=s.heap.push {cls:=.type "tuple",data:=.seq ((items.toList.drop (sIx items.size 0 lo)).take (sIx items.size items.size hi - sIx items.size 0 lo)).toArray} })
  (hsz:items.size≤sizeLine):X3 (X6 prog w) A (getItem (.ref t) (.ref sl)) Q E s:=by
 have htake:sizeOk (.seq ((items.toList.drop (sIx items.size 0 lo)).take (sIx items.size items.size hi - sIx items.size 0 lo)).toArray):=by
  show((items.toList.drop (sIx items.size 0 lo)).take (sIx items.size items.size hi - sIx items.size 0 lo)).toArray.size≤sizeLine;rw[XR,YN,BO,Yq];lia
 have hj:sIx items.size items.size hi≤items.size:=TB _ _ (Xe _) hi;obtain⟨os,hos,hcs,hds⟩:=id hs;have hTs:s.TypeIs (.ref sl) "slice":=⟨os,hos,hcs⟩;unfold getItem
 try with_reducible refine YM ?_
 first|refine X1 (X8 ?_)|skip
 refine X1 (wpAny_sequenceKey ht.typeIs (by decide) ?_)
 refine X1 (BB (name:=Ye "__getitem__") ht.typeIs VQ
  (Zf VQ ht.typeIs entry_tuple_getitem ?_ (args_tuple_getitem _ _)))
 show X3 _ _ (Hf (.ref t)>>= _) _ _ s;refine X1 (tupleItemsOf_ ht ?_);refine X1 (Zy hTs ?_);rw[if_pos (by decide)]
 refine X1 (Il hs pl pu ?_);have hno:¬((((sIx items.size 0 lo:Nat):Int)==0&&(1:Int)==1&&(sIx items.size items.size hi - sIx items.size 0 lo)==items.size)=true):=by
  intro q;rw[XW,XW]at q;have q1:((sIx items.size 0 lo:Nat):Int)=0:=eq_of_beq q.1.1;have q2:sIx items.size items.size hi - sIx items.size 0 lo=items.size:=eq_of_beq q.2;exact hw ⟨by lia,by lia⟩
 show X3 _ _ (if(((sIx items.size 0 lo:Nat):Int)==0&&(1:Int)==1&&(sIx items.size items.size hi - sIx items.size 0 lo)==items.size)=true then _ else _) _ _ s;rw[if_neg hno,TF]
 first
  |exact X1 (m:=C8 _) (ZU (X8 ⟨_,rfl,X8 h⟩) htake)
  |exact X1 (m:=C8 _) (ZU (X1 (X8 (X8 ⟨_,rfl,X8 h⟩))) htake)
  |exact X1 (X1 (m:=C8 _) (ZU (X8 (X8 ⟨_,rfl,X8 h⟩)) htake))
  |exact X1 (X1 (m:=C8 _) (ZU (X8 ⟨_,rfl,X8 h⟩) htake))
end
end HT
namespace L2
open PySem PySem.Spec PyProof.Rows
abbrev TO:=St->Hp->(Option Int->Hp->Prop)->Prop
def PO(X:Cx)(e:Option Expr)(t:TO):Prop:=
 ∀(pins:List (Addr×Obj)) (s:X2) (σ:St) (H:Hp) (Q:Option Int->Hp->Prop),Inv X pins σ H s->t σ H Q->
  X3 (X6 X.prog X.w) X.A (evalPart e X.env) (λu s'=>∃o H',Inv X pins σ H' s'/\IsPart u o/\Q o H') X.xe s
def TH:TO:=λ_ H Q=>Q none H
def TJ(t:TE):TO:=λσ H Q=>t σ H λx H1=>∃i,x=.int i/\Q (some i) H1
section
variable{X:Cx}{e:Expr}{te:TE}{lo hi:Option Expr}{tl th:TO}{pos p2:Pos}
theorem TK:PO X none TH:=by
 intro pins s σ H Q I h;rw[evalPart_none];exact X8 ⟨none,H,I,.none,h⟩
theorem TL(h:PE X e te):PO X (some e) (TJ te):=by
 intro pins s σ H Q I hw;rw[evalPart_some];refine thn (h pins s σ H _ I hw) λu s1 ⟨x,H1,I1,r1,q1⟩=>?_;obtain⟨i,rfl,q⟩:=q1;obtain⟨t,rfl⟩:=r1;exact⟨some i,H1,I1,.int i t,q⟩
def SlR(X:Cx)(r:V->Option Int->Option Int->Hp->VK->Prop):Prop:=
 ∀(pins:List (Addr×Obj)) (s:X2) (σ:St) (H:Hp) (x:V) (v vl vu:X0) (lo hi:Option Int) (sl:Addr) (Q:VK),Inv X pins σ H s->RelV x v->s.heap.IsSliceOf sl vl vu .none->IsPart vl lo->IsPart vu hi->r x lo hi H Q->
  ∃T id,Vt (.type T) "__getitem__"=pure (some (.builtin id))/\s.TypeIs v T/\X3 (X6 X.prog X.w) X.A (getItem v (.ref sl)) (EP X pins σ Q) X.xe s
noncomputable def tSl(r:V->Option Int->Option Int->Hp->VK->Prop)(te:TE)(tl th:TO):TE:=λσ H Q=>te σ H λx H1=>tl σ H1 λl H2=>th σ H2 λu H3=>r x l u H3 Q
theorem TM{r:V->Option Int->Option Int->Hp->VK->Prop}(hr:SlR X r)(he:PE X e te)(hl:PO X lo tl)(hu:PO X hi th):PE X (.Subscript e (.Slice lo hi none p2) pos) (tSl r te tl th):=by
 intro pins s σ H Q I h;refine Subscript_ (thn (he pins s σ H _ I h) λv s1 ⟨x,H1,I1,r1,q1⟩=>?_);refine wpAny_Slice (thn (hl pins s1 σ H1 _ I1 q1) λvl s2 ⟨l,H2,I2,pl,q2⟩=>thn (hu pins s2 σ H2 _ I2 q2) λvu s3 ⟨u,H3,I3,pu,q3⟩=>?_);rw[evalPart_none];refine X8 ?_;have I4:Inv X pins σ H3 {s3 with heap:=s3.heap.push {cls:=.type "slice",data:=.fields #[vl,vu,.none]} }:=I3.kept (t':=s3.toks) fun b ob q=>Xq _ q;obtain⟨T,id,hT,ht,hg⟩:=hr pins {s3 with heap:=s3.heap.push {cls:=.type "slice",data:=.fields #[vl,vu,.none]} } σ H3 x v vl vu l u s3.heap.objs.size Q I4 r1 (Heap.IsSliceOf.new ..) pl pu q3;show X3 (X6 X.prog X.w) X.A (subscriptTail e (.Slice lo hi none p2) v (.ref s3.heap.objs.size)) (EP X pins σ Q) X.xe {s3 with heap:=s3.heap.push {cls:=.type "slice",data:=.fields #[vl,vu,.none]} };exact tail_any (ops:=[.ref s3.heap.objs.size,v]) ht hT hg (by with_unfolding_all rfl)
noncomputable def cutV(xs:List V)(lo hi:Option Int):List V:=(xs.drop (HT.sIx xs.length 0 lo)).take (HT.sIx xs.length xs.length hi - HT.sIx xs.length 0 lo)
theorem Im(xs:List V)(lo hi:Option Int):(cutV xs lo hi).length≤xs.length:=by
 unfold cutV;rw[YN,BO];lia
def rSlT(K:X4):V->Option Int->Option Int->Hp->VK->Prop:=λx lo hi H Q=>∃a xs,x=.ref a/\SqT K H a xs/\
 ¬(HT.sIx xs.length 0 lo=0/\HT.sIx xs.length xs.length hi=xs.length)/\∀p,H p=none->Q (.ref p) (upd H p (.tup (cutV xs lo hi)))
theorem TN:SlR X (rSlT X.K):=by
 intro pins s σ H x v vl vu lo hi sl Q I rx hs pl pu h;obtain⟨a,xs,rfl,hx,hw,q⟩:=h;cases rx;obtain⟨its,r,ht,hz⟩:=I.tuple hx;have hlen:its.toArray.size=xs.length:=by rw[XR];exact r.length.symm
 refine⟨"tuple",_,VQ.lookup,ht.typeIs,?_⟩;refine HT.getItem_tuple_cut ht hs pl pu (by rw[hlen];exact hw) ?_ (by rw[hlen];exact hz)
 rw[hlen];refine⟨.ref s.heap.objs.size,_,I.laid (t':=s.toks) (o:=.tup (cutV xs lo hi)) (λb ob q=>Xq _ q) (Xe _) ?_,rfl,q _ (I.hok.fresh (Xe _))⟩;exact⟨Y2 (Im xs lo hi) hz,_,(r.drop (HT.sIx xs.length 0 lo)).take (HT.sIx xs.length xs.length hi - HT.sIx xs.length 0 lo),IsTup.new _ _,_,XO _ rfl,rfl⟩
def TQ(K:X4):R2:=λx y H Q=>∃a b xs ys,x=.ref a/\y=.ref b/\SqT K H a xs/\SqT K H b ys/\xs≠ []/\xs.length+ys.length≤sizeLine/\
 (ys=[]->Q (.ref a) H)/\(ys≠ []->∀p,H p=none->Q (.ref p) (upd H p (.tup (xs++ys))))
theorem Vals.nil_iff(r:Vals xs us):us=[]↔xs=[]:=by
 cases r with
 |nil=>simp
 |cons _ _=>simp
theorem TR:OpR X (Yg .Add) (TQ X.K):=by
 intro pins s σ H x y v u Q I rx ry h;obtain⟨a,b,xs,ys,rfl,rfl,ha,hb,hx,hz,q1,q2⟩:=h;cases rx;cases ry;obtain⟨its,r1,p1,_⟩:=I.tuple ha;obtain⟨its2,r2,p2,_⟩:=I.tuple hb;refine HT.cat_tup p1 p2 (λz=>hx (r1.nil_iff.mp z)) (λz=>⟨.ref a,H,I,rfl,q1 (r2.nil_iff.mp z)⟩) (λz=>?_) (by rw[<- r1.length,<- r2.length];exact hz)
 refine⟨.ref s.heap.objs.size,_,I.laid (t':=s.toks) (o:=.tup (xs++ys)) (λb ob q=>Xq _ q) (Xe _) ?_,rfl,q2 (λw=>z (r2.nil_iff.mpr w)) _ (I.hok.fresh (Xe _))⟩;exact⟨by rw[Yn];exact hz,_,r1.append r2,IsTup.new _ _,_,XO _ rfl,rfl⟩
end
noncomputable def ixN(n:Nat)(i:Int):Option Nat:=if 0≤i then(if i<n then some i.toNat else none)else if -(n:Int)≤i then some (i+n).toNat else none
def atI{α:Type}(xs:List α)(i:Int):Option α:=(ixN xs.length i).bind λj=>xs[j]?
theorem Io(h:ixN n i=some j):seqIndex? i n=some j/\j<n/\ -(n:Int)≤i/\i<n:=by
 unfold ixN at h;by_cases h0:0≤i
 ·rw[if_pos h0]at h;by_cases h1:i<n
  ·rw[if_pos h1]at h;have e:i.toNat=j:=Y7 h;exact⟨by rw[seqIndex_of h0 h1,e],by lia,by lia,h1⟩
  ·rw[if_neg h1]at h;cases h
 ·rw[if_neg h0]at h;by_cases h1:-(n:Int)≤i
  ·rw[if_pos h1]at h;have e:(i+n).toNat=j:=Y7 h;exact⟨by rw[seqIndex_neg (by lia) h1,e],by lia,h1,by lia⟩
  ·rw[if_neg h1]at h;cases h
theorem E7{α:Type}{xs:List α}{i:Int}{v:α}(h:atI xs i=some v):∃j,seqIndex? i xs.length=some j/\xs[j]?=some v/\j<xs.length/\ -(xs.length:Int)≤i/\i<xs.length:=by
 unfold atI at h;cases e:ixN xs.length i with
 |none=>rw[e]at h;cases h
 |some j=>
  rw[e]at h;obtain⟨h1,h2,h3,h4⟩:=Io e;exact⟨j,h1,h,h2,h3,h4⟩
theorem YB{α:Type}{xs:List α}{j:Nat}{v:α}(h:xs[j]?=some v):atI xs (j:Int)=some v:=by
 have hj:j<xs.length:=(XG.mp h).1;have e:ixN xs.length (j:Int)=some j:=by
  unfold ixN;rw[if_pos (by lia),if_pos (by lia)];simp
 unfold atI;rw[e];exact h
def Ip(b:Expr):Prop:=∀o i,subscripted b false o i=operate [o,i] (getItem o i)
def IxR(X:Cx)(r:R2):Prop:=
 ∀(value slice:Expr) (pins:List (Addr×Obj)) (s:X2) (σ:St) (H:Hp) (x y:V) (v u:X0) (Q:VK),Inv X pins σ H s->RelV x v->RelV y u->r x y H Q->
  subscripted slice false v u=operate [v,u] (getItem v u)->X3 (X6 X.prog X.w) X.A (subscriptTail value slice v u) (EP X pins σ Q) X.xe s
def MtR(X:Cx)(id:String)(r:V->List V->Hp->VK->Prop):Prop:=
 ∀(pins:List (Addr×Obj)) (s:X2) (σ:St) (H:Hp) (x:V) (xs:List V) (v:X0) (us:List X0) (Q:VK),Inv X pins σ H s->RelV x v->Vals xs us->r x xs H Q->
  X3 (X6 X.prog X.w) X.A (call (.builtin id) (v::us)) (EP X pins σ Q) X.xe s
section
variable{X:Cx}{a b:Expr}{ta tb:TE}{pos:Pos}
theorem TU{r:R2}(hr:IxR X r)(ha:PE X a ta)(hb:PE X b tb)(hs:Ip b):PE X (.Subscript a b pos) (tOp r ta tb):=by
 intro pins s σ H Q I h;exact Subscript_ (binT ha hb I h λv u s2 x y H2 I2 rx ry q=>hr a b pins s2 σ H2 x y v u Q I2 rx ry q (hs _ _))
def rIxL(K:X4):R2:=λx y H Q=>∃p xs i v,x=.ref p/\y=.int i/\SqL K H p xs/\atI xs i=some v/\Q v H
def rIxT(K:X4):R2:=λx y H Q=>∃p xs i v,x=.ref p/\y=.int i/\SqT K H p xs/\atI xs i=some v/\Q v H
def rIxS:R2:=λx y H Q=>∃z i c,x=.str z/\y=.int i/\z.length≤sizeLine/\atI z.cps.toList i=some c/\Q (.str ⟨#[c]⟩) H
theorem Iq:IxR X (rIxL X.K):=by
 intro value slice pins s σ H x y v u Q I rx ry h hs;obtain⟨p,xs,i,z,rfl,rfl,hq,he,q⟩:=h;cases rx;obtain⟨t,rfl⟩:=ry;obtain⟨its,r,pl,hz⟩:=I.list hq;obtain⟨j,h1,h2,h3,h4,h5⟩:=E7 he;obtain⟨w,ew,rw'⟩:=r.get h2;have hl:=r.length;have hn:=VW;have fin:EP X pins σ Q w s:=⟨z,H,I,rw',q⟩;by_cases h0:0≤i
 ·have hj:i.toNat=j:=by
   rw[seqIndex_of h0 h5]at h1;exact Y7 h1
  exact item_listR pl.isList h0 (by lia) (by rw[hj];simpa using ew) fin hs
 ·have hj:(i+(its.toArray.size:Int)).toNat=j:=by
   rw[seqIndex_neg (by lia) h4]at h1
   rw[XR,<- hl];exact Y7 h1
  exact subscriptTail_builtinR (x:=w) pl.isList.typeIs slot_list_getitem.lookup
   (wpAny_getItem_list_neg (Q:=λr s'=>r=w/\EP X pins σ Q r s') pl.isList (by lia) (by rw[XR]<;>lia) (by lia) (by rw[hj];simpa using ew) ⟨rfl,fin⟩) hs
theorem TV:IxR X (rIxT X.K):=by
 intro value slice pins s σ H x y v u Q I rx ry h hs;obtain⟨p,xs,i,z,rfl,rfl,hq,he,q⟩:=h;cases rx;obtain⟨t,rfl⟩:=ry;obtain⟨its,r,pl,hz⟩:=I.tuple hq;obtain⟨j,h1,h2,h3,h4,h5⟩:=E7 he;obtain⟨w,ew,rw'⟩:=r.get h2;have hl:=r.length;have hn:=VW;have fin:EP X pins σ Q w s:=⟨z,H,I,rw',q⟩;exact subscriptTail_builtinR (x:=w) pl.typeIs slot_tuple_getitem.lookup
  (getItem_tuple (j:=j) (Q:=λr s'=>r=w/\EP X pins σ Q r s') pl (by lia) (by lia) (by rw[XR,<- hl];exact h1) (by simpa using ew) ⟨rfl,fin⟩) hs
theorem TW:IxR X rIxS:=by
 intro value slice pins s σ H x y v u Q I rx ry h hs;obtain⟨z,i,c,rfl,rfl,hz,he,q⟩:=h;obtain⟨t,rfl⟩:=rx;obtain⟨t',rfl⟩:=ry;obtain⟨j,h1,h2,h3,h4,h5⟩:=E7 he;have hl:z.cps.toList.length=z.length:=by simp[Str.length]
 rw[hl]at h1 h4 h5;have hn:=VW;exact tail_any (typeIs_str s z t) slot_str_getitem.lookup (getItem_str (c:=c) (by
  have e1:decide (i< -(2^63:Int))=false:=decide_eq_false (by lia)
  have e2:decide (i ≥ 2^63)=false:=decide_eq_false (by lia)
  rw[e1,e2,Bool.or_false]) (by rw[h1];simpa using h2) ⟨.str ⟨#[c]⟩,H,I.tok _,⟨_,rfl⟩,q⟩) hs
theorem TX(its:List X0)(n j:Nat)(u:X0):U4 (·.setIfInBounds j u) {cls:=.type "list",data:=.seq its.toArray n}={cls:=.type "list",data:=.seq (its.set j u).toArray n}:=by
 simp[U4]
theorem Inv.lst(I:Inv X pins σ H s)(h:H p=some (.lst xs)):
  ∃(its:List X0) (n:Nat),Vals xs its/\s.heap.get? p=some {cls:=.type "list",data:=.seq its.toArray n}/\xs.length≤sizeLine:=by
 obtain⟨z,its,n,r,e⟩:=I.hok p _ h;exact⟨its,n,r,e,z⟩
theorem Inv.lstUpd{pins:List (Addr×Obj)}{σ:St}{H:Hp}{s:X2}{p:Addr}{xs ys:List V}{its its':List X0}{n n':Nat}{f:Obj->Obj}(I:Inv X pins σ H s)(h:H p=some (.lst xs))
  (ho:s.heap.get? p=some {cls:=.type "list",data:=.seq its.toArray n}) (hf:f {cls:=.type "list",data:=.seq its.toArray n}={cls:=.type "list",data:=.seq its'.toArray n'}) (r:Vals ys its') (hz:ys.length≤sizeLine) (t:Nat):
  Inv X pins σ (upd H p (.lst ys)) {s with heap:=s.heap.update p f,toks:=t}:=by
 have e:(s.heap.update p f).get? p=some {cls:=.type "list",data:=.seq its'.toArray n'}:=by
  rw[V3 f ho (by rw[hf]<;>rfl),hf]
 refine I.write (x:=p) (e:=p) (by rw[h];trivial) (.inl rfl) (λb u hb q=>(VI _ _ (XQ hb)).trans q) ⟨_,e⟩ ?_
 exact⟨hz,its',n',r,e⟩
def TY:V->V->V->Hp->(Hp->Prop)->Prop:=λo i v H Q=>∃p xs k j,o=.ref p/\i=.int k/\H p=some (.lst xs)/\ixN xs.length k=some j/\Q (upd H p (.lst (xs.set j v)))
theorem TZ:PSet X TY:=by
 intro pins s σ H o i v ov iv u Q I ro ri rv h;obtain⟨p,xs,k,j,rfl,rfl,hp,hj,q⟩:=h;cases ro;obtain⟨t,rfl⟩:=ri;obtain⟨its,n,r,ho,hz⟩:=I.lst hp;obtain⟨h1,h2,h3,h4⟩:=Io hj;have hl:=r.length;have hn:=VW;have I':Inv X pins σ (upd H p (.lst (xs.set j v))) {s with heap:=s.heap.update p (U4 (·.setIfInBounds j u))}:=
  I.lstUpd hp ho (TX its n j u) (r.set rv j) (by rw[UF];exact hz) s.toks
 by_cases h0:0≤k
 ·have hk:k.toNat=j:=by
   rw[seqIndex_of h0 h4]at h1;exact Y7 h1
  exact PySem.W.ki_setAt ho h0 (by lia) (by rw[XR,<- hl];exact h4) (by rw[hk];exact⟨_,I',q⟩)
 ·have hk:(k+(its.toArray.size:Int)).toNat=j:=by
   rw[seqIndex_neg (by lia) h3]at h1
   rw[XR,<- hl];exact Y7 h1
  exact PySem.W.ki_setBack ho (by lia) (by rw[XR,<- hl];exact h3) (by lia) (by rw[hk];exact⟨_,I',q⟩)
theorem _dV(lo hi:Option Int)(n:Nat):(UY lo hi none n).1=((HT.sIx n 0 lo:Nat):Int)/\(UY lo hi none n).2.1=((HT.sIx n n hi:Nat):Int)/\(UY lo hi none n).2.2=1:=by
 refine⟨?_,?_,rfl⟩
 ·cases lo with
  |none=>simp[UY,HT.sIx]
  |some i=>
   simp only[UY,HT.sIx,Option.getD_none,show(1:Int)>0 by decide,if_true]
   by_cases h:i<0
   ·simp only[h,if_true]<;>lia
   ·simp only[h,if_false]<;>lia
 ·cases hi with
  |none=>simp[UY,HT.sIx]
  |some i=>
   simp only[UY,HT.sIx,Option.getD_none,show(1:Int)>0 by decide,if_true]
   by_cases h:i<0
   ·simp only[h,if_true]<;>lia
   ·simp only[h,if_false]<;>lia
theorem _d3(its:List X0)(lo hi:Option Int):slicePick its.toArray lo hi none=((its.drop (HT.sIx its.length 0 lo)).take (HT.sIx its.length its.length hi - HT.sIx its.length 0 lo)).toArray:=by
 obtain⟨h1,h2,h3⟩:=_dV lo hi its.toArray.size;unfold slicePick;rw[h1,h2,h3];simp only[sliceRange_one,pick_run,XR]<;>rfl
def rSlL(K:X4):V->Option Int->Option Int->Hp->VK->Prop:=λx lo hi H Q=>∃a xs,x=.ref a/\SqL K H a xs/\∀p,H p=none->Q (.ref p) (upd H p (.lst (cutV xs lo hi)))
theorem _mg:SlR X (rSlL X.K):=by
 intro pins s σ H x v vl vu lo hi sl Q I rx hs pl pu h;obtain⟨a,xs,rfl,hx,q⟩:=h;cases rx;obtain⟨its,r,ht,hz⟩:=I.list hx;have hlen:=r.length;refine⟨"list",_,slot_list_getitem.lookup,ht.isList.typeIs,?_⟩;refine wpAny_getItem_list_slice ht.isList hs pl pu .none (by simp) ?_ (by rw[XR]<;>lia)
 rw[_d3,<- hlen];refine⟨.ref s.heap.objs.size,_,I.laid (t':=s.toks) (o:=.lst (cutV xs lo hi)) (λb ob q=>Xq _ q) (Xe _) ?_,rfl,q _ (I.hok.fresh (Xe _))⟩;exact⟨Y2 (Im xs lo hi) hz,_,0,(r.drop (HT.sIx xs.length 0 lo)).take (HT.sIx xs.length xs.length hi - HT.sIx xs.length 0 lo),XO _ rfl⟩
def ZI:V->Bool
 |.non=>true
 |.bl _=>true
 |.int _=>true
 |.str _=>true
 |_=>false
noncomputable def eqV:V->V->Bool
 |.non,.non=>true
 |.bl a,.bl b=>a==b
 |.bl a,.int b=>(if a then 1 else 0)==b
 |.int a,.bl b=>a==(if b then 1 else 0)
 |.int a,.int b=>a==b
 |.str a,.str b=>a==b
 |_,_=>false
theorem Ir(ry:RelV y u)(rx:RelV x v)(fy:ZI y=true)(fx:ZI x=true):SeqAt.EqAt A s u v (eqV y x):=by
 cases y with
 |non=>
  cases ry;cases x with
  |non=>cases rx;exact SeqAt.EqAt.same _
  |bl b=>cases rx;exact SeqAt.EqAt.none_bool b
  |int b=>obtain⟨t,rfl⟩:=rx;exact SeqAt.EqAt.none_int b t
  |str b=>obtain⟨t,rfl⟩:=rx;exact SeqAt.EqAt.none_str b t
  |_=>exact absurd (show false=true from fx) XE
 |bl a=>
  cases ry;cases x with
  |non=>cases rx;exact SeqAt.EqAt.bool_none a
  |bl b=>cases rx;exact SeqAt.EqAt.bool_bool a b
  |int b=>obtain⟨t,rfl⟩:=rx;exact SeqAt.EqAt.bool_int a b t
  |str b=>obtain⟨t,rfl⟩:=rx;exact SeqAt.EqAt.bool_str a b t
  |_=>exact absurd (show false=true from fx) XE
 |int a=>
  obtain⟨t',rfl⟩:=ry;cases x with
  |non=>cases rx;exact SeqAt.EqAt.int_none a t'
  |bl b=>cases rx;exact SeqAt.EqAt.int_bool a t' b
  |int b=>obtain⟨t,rfl⟩:=rx;exact SeqAt.EqAt.int_int a t' b t
  |str b=>obtain⟨t,rfl⟩:=rx;exact HF a t' b t
  |_=>exact absurd (show false=true from fx) XE
 |str a=>
  obtain⟨t',rfl⟩:=ry;cases x with
  |non=>cases rx;exact SeqAt.EqAt.str_none a t'
  |bl b=>cases rx;exact SeqAt.EqAt.str_bool a t' b
  |int b=>obtain⟨t,rfl⟩:=rx;exact HG a t' b t
  |str b=>obtain⟨t,rfl⟩:=rx;exact SeqAt.EqAt.str_str a t' b t
  |_=>exact absurd (show false=true from fx) XE
 |_=>exact absurd (show false=true from fy) XE
def eqU(x:V)(u:X0):Bool:=match u with
 |.none=>eqV .non x
 |.bool b=>eqV (.bl b) x
 |.int i _=>eqV (.int i) x
 |.str z _=>eqV (.str z) x
 |_=>false
theorem Iu(r:RelV y u)(f:ZI y=true):eqU x u=eqV y x:=by
 cases y with
 |non=>cases r;rfl
 |bl b=>cases r;rfl
 |int i=>obtain⟨t,rfl⟩:=r;rfl
 |str z=>obtain⟨t,rfl⟩:=r;rfl
 |_=>exact absurd (show false=true from f) XE
theorem WT:∀{xs:List V} {us:List X0},Vals xs us->xs.all ZI=true->us.any (eqU x)=xs.any λy=>eqV y x
 |_,_,.nil,_=>rfl
 |y::xs,u::us,.cons r t,f=>by
  rw[UG,XW]at f;rw[ZD,ZD,Iu r f.1,WT t f.2]
theorem WU(rx:RelV x v)(fx:ZI x=true):∀{xs:List V} {us:List X0},Vals xs us->xs.all ZI=true->∀u∈us,SeqAt.EqAt A s u v (eqU x u)
 |_,_,.nil,_=>λu hu=>by cases hu
 |y::xs,u::us,.cons r t,f=>λu' hu=>by
  rw[UG,XW]at f;rcases Xl.mp hu with rfl|hu
  ·rw[Iu r f.1];exact Ir r rx f.1 fx
  ·exact WU rx fx t f.2 u' hu
def inV(x:V)(xs:List V):Bool:=xs.any λy=>eqV y x
def rIn(K:X4)(neg:Bool):R2:=λx y H Q=>∃p xs,y=.ref p/\(SqL K H p xs\/SqT K H p xs)/\ZI x=true/\xs.all ZI=true/\Q (.bl (if neg then !inV x xs else inV x xs)) H
theorem E8:OpR X (Y0 .In) (rIn X.K false):=by
 intro pins s σ H x y v u Q I rx ry h;obtain⟨p,xs,rfl,hq,fx,fs,q⟩:=h;cases ry;rcases hq with hq|hq
 ·obtain⟨its,r,pl,hz⟩:=I.list hq;refine SeqAt.in_listAt (eqU x) pl.isList (λw hw=>WU rx fx r fs w (by simpa using hw)) ⟨.bl _,H,I,rfl,?_⟩
  rw[show its.toArray.any (eqU x)=its.any (eqU x) by simp,WT r fs]
  exact q
 ·obtain⟨its,r,pl,hz⟩:=I.tuple hq;refine SeqAt.in_tupleAt (eqU x) pl (λw hw=>WU rx fx r fs w (by simpa using hw)) ⟨.bl _,H,I,rfl,?_⟩
  rw[show its.toArray.any (eqU x)=its.any (eqU x) by simp,WT r fs]
  exact q
theorem E9:OpR X (Y0 .NotIn) (rIn X.K true):=by
 intro pins s σ H x y v u Q I rx ry h;obtain⟨p,xs,rfl,hq,fx,fs,q⟩:=h;cases ry;rcases hq with hq|hq
 ·obtain⟨its,r,pl,hz⟩:=I.list hq;refine SeqAt.notIn_listAt (eqU x) pl.isList (λw hw=>WU rx fx r fs w (by simpa using hw)) ⟨.bl _,H,I,rfl,?_⟩
  rw[show its.toArray.any (eqU x)=its.any (eqU x) by simp,WT r fs]
  exact q
 ·obtain⟨its,r,pl,hz⟩:=I.tuple hq;refine SeqAt.notIn_tupleAt (eqU x) pl (λw hw=>WU rx fx r fs w (by simpa using hw)) ⟨.bl _,H,I,rfl,?_⟩
  rw[show its.toArray.any (eqU x)=its.any (eqU x) by simp,WT r fs]
  exact q
theorem Ea:YA X (.builtin "len") (fun xs H Q=>∃p ys,xs=[.ref p]/\(SqL X.K H p ys\/SqT X.K H p ys)/\Q (.int ys.length) H):=by
 intro pins s σ H xs us Q I r h;obtain⟨p,ys,rfl,hq,q⟩:=h;obtain⟨u,rfl,rx⟩:=_p r;cases rx;have hn:=VW;rcases hq with hq|hq
 ·obtain⟨its,r',pl,hz⟩:=I.list hq;have hlen:=r'.length;exact Calls.call_len_list pl.isList (by simp only[XR]<;>lia) ⟨.int ys.length,H,I.tok _,⟨s.toks+1,by rw[XR,hlen]⟩,q⟩
 ·obtain⟨its,r',pl,hz⟩:=I.tuple hq;have hlen:=r'.length;exact len_tuple pl (by simp only[XR]<;>lia) ⟨.int ys.length,H,I.tok _,⟨s.toks+1,by rw[XR,hlen]⟩,q⟩
theorem _eV:YA X (.builtin "len") (fun xs H Q=>∃z,xs=[.str z]/\z.length≤sizeLine/\Q (.int z.length) H):=by
 intro pins s σ H xs us Q I r h;obtain⟨z,rfl,hz,q⟩:=h;obtain⟨u,rfl,t,rfl⟩:=_p r;have hn:=VW;exact len_str (by lia) ⟨.int z.length,H,I.tok _,⟨_,rfl⟩,q⟩
theorem Iv:YA X (.type "list") (fun xs H Q=>∃p ys,xs=[.ref p]/\(SqL X.K H p ys\/SqT X.K H p ys)/\∀l,H l=none->Q (.ref l) (upd H l (.lst ys))):=by
 intro pins s σ H xs us Q I r h;obtain⟨p,ys,rfl,hq,q⟩:=h;obtain⟨u,rfl,rx⟩:=_p r;cases rx;have fin:∀(its:List X0),Vals ys its->ys.length≤sizeLine->∀(h':Heap) (c':Nat),(∀b o',s.heap.get? b=some o'->h'.get? b=some o')->
   h'.get? s.heap.objs.size=some {cls:=.type "list",dict:=none,data:=.seq its.toArray c',slots:=#[]}->EP X pins σ Q (.ref s.heap.objs.size) {s with heap:=h'}:=fun its r' hz h' c' kp e=>
  ⟨.ref s.heap.objs.size,_,I.laid (t':=s.toks) kp (Xe _) (show ObjOk X.prog X.w _ h' _ (.lst ys)from⟨hz,its,c',r',e⟩),rfl,q _ (I.hok.fresh (Xe _))⟩
 rcases hq with hq|hq
 ·obtain⟨its,r',pl,hz⟩:=I.list hq;have hlen:=r'.length;obtain⟨o,ho,hc,n,hd⟩:=pl.isList;exact call_list_seq p (.inl rfl) ho hc hd (λh' c' kp e=>fin its r' hz h' c' kp e) (by simp only[XR]<;>lia)
 ·obtain⟨its,r',pl,hz⟩:=I.tuple hq;have hlen:=r'.length;obtain⟨o,ho,hc,n,hd⟩:=pl;exact call_list_seq p (.inr rfl) ho hc hd (λh' c' kp e=>fin its r' hz h' c' kp e) (by simp only[XR]<;>lia)
theorem _dI:YA X (.type "tuple") (fun xs H Q=>∃p ys,xs=[.ref p]/\((SqL X.K H p ys/\∀l,H l=none->Q (.ref l) (upd H l (.tup ys)))\/(SqT X.K H p ys/\Q (.ref p) H))):=by
 intro pins s σ H xs us Q I r h;obtain⟨p,ys,rfl,h⟩:=h;obtain⟨u,rfl,rx⟩:=_p r;cases rx;rcases h with⟨hq,q⟩|⟨hq,q⟩
 ·obtain⟨its,r',pl,hz⟩:=I.list hq;have hlen:=r'.length;refine call_tuple_list pl.isList (λh' kp=>?_) (by simp only[XR]<;>lia)
  have I1:Inv X pins σ H {s with heap:=h'}:=I.kept (t':=s.toks) kp;have I2:Inv X pins σ (upd H h'.objs.size (.tup ys)) {s with heap:=h'.push {cls:=.type "tuple",data:=.seq its.toArray} }:=
   I1.laid (t':=s.toks) (λb o e=>Xq _ e) (Xe _) (show ObjOk X.prog X.w _ _ _ (.tup ys)from⟨hz,its,r',IsTup.new _ _,_,XO _ rfl,rfl⟩)
  exact⟨.ref h'.objs.size,_,I2,rfl,q _ (I1.hok.fresh (Xe _))⟩
 ·obtain⟨its,r',pl,hz⟩:=I.tuple hq;exact call_tuple_same pl ⟨.ref p,H,I,rfl,q⟩
def tyV(K:X4)(T:String)(x:V)(H:Hp):Prop:=match x with
 |.str _=>T="str"
 |.int _=>T="int"
 |.ref p=>(T="list"/\∃xs,SqL K H p xs)\/(T="tuple"/\∃o,K.lookup p=some o/\o.cls=.type "tuple"/\o.dict=none)\/
   (T="dict"/\((∃kvs,H p=some (.dK kvs))\/∃kvs,H p=some (.dT kvs)))\/(T="set"/\∃S n,H p=some (.set S n))
 |_=>False
theorem Iw(I:Inv X pins σ H s)(r:RelV x v)(ty:tyV X.K T x H):
  s.TypeIs v T/\∀a,v=.ref a->∃ob,s.heap.get? a=some ob/\ob.dict=none:=by
 cases x with
 |str z=>
  obtain⟨t,rfl⟩:=r;cases(show T="str" from ty);exact⟨typeIs_str s z t,λ_ e=>nomatch e⟩
 |int i=>
  obtain⟨t,rfl⟩:=r;cases(show T="int" from ty);exact⟨typeIs_int s i t,λ_ e=>nomatch e⟩
 |ref p=>
  cases r;rcases ty with⟨rfl,xs,hq⟩|⟨rfl,o,hk,hc,hd⟩|⟨rfl,hk⟩|⟨rfl,S,n,hk⟩
  ·obtain⟨its,_,pl,_⟩:=I.list hq;refine⟨pl.isList.typeIs,λa e=>?_⟩;cases e;obtain⟨o,n,e,c,hd,_⟩:=pl;exact⟨o,e,hd⟩
  ·refine⟨⟨o,I.kIn p o hk,hc⟩,λa e=>?_⟩;cases e;exact⟨o,I.kIn _ o hk,hd⟩
  ·have z:∃o,s.heap.get? p=some o/\o.ExactDict:=by
    rcases hk with⟨kvs,hk⟩|⟨kvs,hk⟩
    ·obtain⟨_,_,_,_,o,_,_,e,ex,_⟩:=I.hok p _ hk;exact⟨o,e,ex⟩
    ·obtain⟨_,_,_,_,o,_,_,e,ex,_⟩:=I.hok p _ hk;exact⟨o,e,ex⟩
   obtain⟨o,e,ex⟩:=z;refine⟨⟨o,e,ex.1⟩,λa e2=>?_⟩;cases e2;exact⟨o,e,ex.2.1⟩
  ·obtain⟨o,_,_,_,e,ex,_⟩:=I.hok p _ hk;refine⟨⟨o,e,ex.1⟩,λa e2=>?_⟩;cases e2;exact⟨o,e,ex.2.1⟩
 |_=>exact Y3 ty
def tBM0(K:X4)(T:String)(r:V->List V->Hp->VK->Prop)(to:TE):TE:=λσ H Q=>to σ H λx H1=>tyV K T x H1/\r x [] H1 Q
def tBM(K:X4)(T:String)(r:V->List V->Hp->VK->Prop)(to:TE)(t:TA):TE:=λσ H Q=>to σ H λx H1=>tyV K T x H1/\t σ H1 λxs H2=>r x xs H2 Q
variable{o e:Expr}{es:List Expr}{to:TE}{t:TA}{name:Str}{apos cpos:Pos}{T id:String}{r:V->List V->Hp->VK->Prop}
theorem _pi(pa:PlainAttrs T)(slot:Slot T name id)(hty:typeOf (.builtin id)=pure (.type "method_descriptor"))(hm:MtR X id r)(ho:PE X o to)
  (hbase:UA o name X.env (eval o X.env)=eval o X.env:=by rfl) (hline:(apos.endLine==cpos.line)=true:=by rfl):PE X (.Call (.Attribute o name apos) [] [] cpos) (tBM0 X.K T r to):=by
 intro pins s σ H Q I h;refine wpAny_Call_method0_late hbase hline (thn (ho pins s σ H _ I h) λv s1 ⟨x,H1,I1,r1,ty,q1⟩=>?_);obtain⟨h1,h2⟩:=Iw I1 r1 ty;exact⟨T,id,pa,slot,hty,h1,h2,HC rfl (PySem.evalArgs_none (hm pins s1 σ H1 x [] v [] Q I1 r1 .nil q1))⟩
theorem _ro(pa:PlainAttrs T)(slot:Slot T name id)(hty:typeOf (.builtin id)=pure (.type "method_descriptor"))(hm:MtR X id r)(ho:PE X o to)(ha:PA X (e::es) t)
  (hbase:UA o name X.env (eval o X.env)=eval o X.env:=by rfl)
  (hfew:((XY cpos (XB (e::es) X.env)).all (λx=>!x.1)&&(ZS cpos (ZT [] X.env)).all (λx=>x.1.isSome)
   &&decide ((e::es).length+([]:List Z4).length+(if([]:List Z4).isEmpty then 0 else 1)<30))=true:=by rfl)
  (hline:(apos.endLine==cpos.line)=true:=by rfl) (hs:XB (e::es) X.env=(false,eval e X.env)::XB es X.env:=by rfl) (hplain:(XY cpos (XB es X.env)).any (·.1)=false:=by rfl):
  PE X (.Call (.Attribute o name apos) (e::es) [] cpos) (tBM X.K T r to t):=by
 intro pins s σ H Q I h;refine wpAny_Call_method_late hbase hfew hline rfl (thn (ho pins s σ H _ I h) λv s1 ⟨x,H1,I1,r1,ty,q1⟩=>?_);obtain⟨h1,h2⟩:=Iw I1 r1 ty;refine⟨T,id,pa,slot,hty,h1,h2,?_⟩;have hA:=ha cpos pins s1 σ H1 _ I1 q1;rw[hs]at hA ⊢;refine HC (by show(false||(XY cpos (XB es X.env)).any (·.1))=false;rw[hplain]<;>rfl) (Calls.evalArgs_plain ?_)
 exact thn hA λus s2 ⟨vs,H2,I2,r2,q2⟩=>hm pins s2 σ H2 x vs v us Q I2 r1 r2 q2
/- xs.append(e),list.index on a module's tuple .. are MtR facts of 06m -/
end
def MtM(X:Cx)(id:String)(r:V->List V->Hp->VK->Prop):Prop:=
 ∀(pins:List (Addr×Obj)) (s:X2) (σ:St) (H:Hp) (x:V) (xs:List V) (v:X0) (us:List X0) (Q:VK),Inv X pins σ H s->RelV x v->Vals xs us->r x xs H Q->
  X3 (X6 X.prog X.w) X.A (call (.builtin id) (v::us)) (EP X pins σ Q) X.xe s
theorem Vals.one:∀{x:V} {us:List X0},Vals [x] us->∃u,us=[u]/\RelV x u
 |_,_,.cons r .nil=>⟨_,rfl,r⟩
theorem Vals.rep(h:Vals xs us):∀k:Nat,Vals (Xj k xs).flatten (Xj k us).flatten
 |0=>.nil
 |k+1=>by
  rw[Z8,Z8,ZB,ZB];exact Vals.append h (Vals.rep h k)
theorem Eb(its:List X0):∀(k:Nat) (acc:List X0),
  VG (λx1 x2=>x1++x2) acc.toArray (Xj k its.toArray)=(acc++(Xj k its).flatten).toArray
 |0,acc=>by simp
 |k+1,acc=>by
  have e:acc.toArray++its.toArray=(acc++its).toArray:=by simp
  have e2:(acc++its)++(Xj k its).flatten=acc++(Xj (k+1) its).flatten:=by
   rw[Z8,ZB,Vz]
  rw[<- e2,<- Eb its k (acc++its),<- e,Z8,VE]
section
variable{X:Cx}{pins:List (Addr×Obj)}{σ:St}{H:Hp}{s:X2}{l b:Addr}{xs ys zs:List V}
theorem Inv.lset{its its':List X0}{n:Nat}{f:Array X0->Array X0}{t':Nat}(I:Inv X pins σ H s)(hH:H l=some (.lst xs))
  (e:s.heap.get? l=some {cls:=.type "list",data:=.seq its.toArray n}) (hf:f its.toArray=its'.toArray) (hv:Vals ys its') (hz:ys.length≤sizeLine):
  Inv X pins σ (upd H l (.lst ys)) {s with heap:=s.heap.update l (U4 f),toks:=t'}:=by
 have q:=PySem.IsL.update e f;rw[hf]at q;refine I.write (x:=l) (e:=l) (by rw[hH];exact trivial) (.inl rfl) (λb' u hb hu=>(VI s.heap (U4 f) (XQ hb)).trans hu) ⟨_,q⟩ ?_
 exact⟨hz,its',_,hv,q⟩
theorem Inv.lnew(I:Inv X pins σ H s)(hv:Vals ys its)(hz:ys.length≤sizeLine):
  Inv X pins σ (upd H s.heap.objs.size (.lst ys)) {s with heap:=s.heap.push {cls:=.type "list",data:=.seq its.toArray},toks:=t'}:=
 I.laid (λ_ _ q=>Xq _ q) (Xe _) ⟨hz,its,0,hv,XO _ rfl⟩
theorem Inv.fresh(I:Inv X pins σ H s):H s.heap.objs.size=none:=I.hok.fresh (Xe _)
theorem Inv.lstM(I:Inv X pins σ H s)(hH:H l=some (.lst xs)):xs.length≤sizeLine/\∃(its:List X0) (n:Nat),Vals xs its/\xs.length=its.length/\s.heap.get? l=some {cls:=.type "list",data:=.seq its.toArray n}:=by
 obtain⟨z,its,n,r,e⟩:=I.hok l _ hH;exact⟨z,its,n,r,r.length,e⟩
theorem Ix(h:n≤sizeLine):Cg n=false:=by
 unfold Cg;exact decide_eq_false (by lia)
end
section
variable{X:Cx}
def Zms:V->List V->Hp->VK->Prop:=λx vs H Q=>∃l xs y,x=.ref l/\vs=[y]/\H l=some (.lst xs)/\xs.length<sizeLine/\Q .non (upd H l (.lst (xs++[y])))
theorem Iy:MtM X "list.append" Zms:=by
 intro pins s σ H x vs v us Q I rx rv h;obtain⟨l,xs,y,rfl,rfl,hH,hz,q⟩:=h;cases rx;obtain⟨u,rfl,ru⟩:=rv.one;obtain⟨z,its,n,r,hl,e⟩:=I.lstM hH;refine UZ F.slot_list_append ⟨_,e,rfl⟩ F.entry_list_append (F.args_list_append_2 _ _) (PySem.list_append l its.toArray n u (by rw[XR];lia)) ⟨e,?_⟩
 refine⟨.non,_,I.lset (its':=its++[u]) hH e (by simp) (r.append (.cons ru .nil)) ?_,rfl,q⟩
 rw[Yn,List.length_singleton];lia
def Zmr:V->List V->Hp->VK->Prop:=λx vs H Q=>∃l b xs zs,x=.ref l/\vs=[.ref b]/\H l=some (.lst xs)/\H b=some (.lst zs)/\xs.length+zs.length≤sizeLine/\Q .non (upd H l (.lst (xs++zs)))
theorem _in:MtM X "list.extend" Zmr:=by
 intro pins s σ H x vs v us Q I rx rv h;obtain⟨l,b,xs,zs,rfl,rfl,hH,hB,hz,q⟩:=h;cases rx;obtain⟨u,rfl,ru⟩:=rv.one;cases ru;obtain⟨z,its,n,r,hl,e⟩:=I.lstM hH;obtain⟨z2,its2,n2,r2,hl2,e2⟩:=I.lstM hB;have hsz:its.toArray.size+its2.toArray.size≤sizeLine:=by rw[XR,XR];lia
 have hlong:¬(!its.toArray.isEmpty&&Cg (its.toArray.size+its2.toArray.size))=true:=by
  rw[Ix hsz,C1];exact XE
 refine UZ F.slot_list_extend ⟨_,e,rfl⟩ F.entry_list_extend (F.args_list_extend_2 _ _)
  (AutoSeq1.list_extend_list_list_0 l its.toArray n b its2.toArray n2 hlong (by rw[XR];lia) (by lia)) ⟨e,e2,?_⟩
 refine⟨.non,_,I.lset (its':=its++its2) hH e (by simp) (r.append r2) ?_,rfl,q⟩
 rw[Yn];lia
def rRep:R2:=λx y H Q=>∃l k xs,x=.ref l/\y=.int k/\H l=some (.lst xs)/\ -(2^63)≤k/\k<2^63/\xs.length*k.toNat≤sizeLine/\
 ∀p,H p=none->Q (.ref p) (upd H p (.lst (Xj k.toNat xs).flatten))
theorem Iz{α:Type}(xs:List α)(k:Nat):(Xj k xs).flatten.length=k*xs.length:=by
 induction k with
 |zero=>simp
 |succ k ih=>rw[Z8,ZB,Yn,ih,Nat.succ_mul,Nat.add_comm]
theorem _pn:OpR X (Yg .Mult) rRep:=by
 intro pins s σ H x y v u Q I rx ry h;obtain⟨l,k,xs,rfl,rfl,hH,h1,h2,hz,q⟩:=h;cases rx;obtain⟨t,rfl⟩:=ry;obtain⟨z,its,n,r,hl,e⟩:=I.lstM hH;have hlen:its.toArray.size*k.toNat≤sizeLine:=by rw[XR,<- hl];exact hz
 have hcap:¬its.toArray.size*k.toNat>(2^63 - 1)/8:=by
  have:(sizeLine:Nat)≤(2^63 - 1)/8:=by decide
  lia
 have hfit:¬(!Builtin.List.listFitsIndex k)=true:=by
  rw[fitsIndex_both h1 h2];exact XE
 have hlong:¬Cg (its.toArray.size*k.toNat)=true:=by
  rw[Ix hlen];exact XE
 have hnew:VG (λx1 x2=>x1++x2) #[] (Xj (if its.toArray.isEmpty=true then 0 else k.toNat) its.toArray)=(Xj k.toNat its).flatten.toArray:=by
  have f0:∀m:Nat,VG (λx1 x2=>x1++x2) #[] (Xj m its.toArray)=(Xj m its).flatten.toArray:=λm=>by
   have:=Eb its m [];rw[Ya]at this;exact this
  rw[f0];cases its with
  |nil=>simp
  |cons a r'=>rw[if_neg (by simp)]
 refine wpAny_binaryOp_repeat_ref (T:="list") (U:="int") (by decide) ⟨_,e,rfl⟩ (fun s'=>typeIs_int s' k t) noFill_list_mul F.fills_int_mul F.slot_int_rmul repeat_list F.slot_int_index.lookup
  (UZ F.slot_int_rmul (typeIs_int s k t) F.entry_int_rmul (F.args_int_rmul_2 _ _) (int___rmul___int_list k t l its.toArray n)
   ⟨e,rfl,⟨_,e,rfl⟩,UZ F.slot_list_mul ⟨_,e,rfl⟩ F.entry_list_mul (F.args_list_mul_2 _ _) (AutoListH.list___mul___list_int_3 l its.toArray n k t hfit hcap hlong) ⟨e,?_⟩⟩)
 rw[hnew];exact⟨.ref _,_,I.lnew (t':=s.toks) (r.rep k.toNat) (by rw[Iz,Nat.mul_comm];exact hz),rfl,q _ I.fresh⟩
end
section
variable{prog:Xv}{w:Xn}{A:XA}{E:X0->X2->Prop}{s:X2}
set_option maxRecDepth 100000 in
end
section
variable{X:Cx}
end
section
variable{κ:Type} [DecidableEq κ]
def valV(kvs:List (κ×V))(k:κ):Option V:=(kvs.find? λkv=>decide (kv.1=k)).map (·.2)
noncomputable def putK(kvs:List (κ×V))(k:κ)(v:V):List (κ×V):=
 if(kvs.any λkv=>decide (kv.1=k))=true then kvs.map (λkv=>if kv.1=k then(kv.1,v)else kv)else kvs++[(k,v)]
theorem Cq{k:κ}(e:p.1=k):valV (p::r) k=some p.2:=by simp[valV,VF,e]
theorem Cr{k:κ}(e:¬p.1=k):valV (p::r) k=valV r k:=by simp[valV,VF,e]
theorem IA(k:κ):∀kvs:List (κ×V),(kvs.any λkv=>decide (kv.1=k))=(valV kvs k).isSome
 |[]=>rfl
 |p::r=>by
  rw[ZD];by_cases e:p.1=k
  ·simp only[Cq e,decide_eq_true e,Bool.true_or,Option.isSome_some]
  ·rw[Cr e,decide_eq_false e,DM];exact IA k r
theorem Ec(kvs:List (κ×V))(k:κ)(v:V):(putK kvs k v).length≤kvs.length+1:=by
 unfold putK;split
 ·rw[Xc];lia
 ·rw[Yn,Yh,DE];lia
theorem RelO.isSome_eq(r:RelO o u):o.isSome=u.isSome:=by
 cases o with
 |none=>cases u with
  |none=>rfl
  |some _=>exact(show False from r).elim
 |some _=>cases u with
  |none=>exact(show False from r).elim
  |some _=>rfl
theorem KV.val(r:KV kvs vs)(k:κ):RelO (valV kvs k) (Z1 vs k):=by
 unfold KV at r
 induction r with
 |nil=>exact Yr
 | @cons p q ps qs h t ih=>
  obtain⟨h1,h2⟩:=h;by_cases e:p.1=k
  ·have e':q.1=k:=h1.symm.trans e;have b:Z1 (q::qs) k=some q.2:=by simp[Z1,VF,e']
   rw[Cq e,b];exact h2
  ·have e':¬q.1=k:=λz=>e (h1.trans z);have b:Z1 (q::qs) k=Z1 qs k:=by simp[Z1,VF,e']
   rw[Cr e,b];exact ih
theorem KV.any(r:KV kvs vs)(k:κ):(kvs.any λkv=>decide (kv.1=k))=vs.any λkv=>decide (kv.1=k):=by
 unfold KV at r
 induction r with
 |nil=>rfl
 |cons h t ih=>rw[ZD,ZD,ih,h.1]
theorem KV.repl(r:KV kvs vs)(k:κ)(ry:RelV y u):
  KV (kvs.map λkv=>if kv.1=k then(kv.1,y)else kv) (vs.map λkv=>if kv.1=k then(kv.1,u)else kv):=by
 unfold KV at r ⊢
 induction r with
 |nil=>exact .nil
 | @cons p q ps qs h t ih=>
  rw[Xx,Xx];refine .cons ?_ ih;obtain⟨h1,h2⟩:=h;by_cases e:p.1=k
  ·rw[if_pos e,if_pos (h1.symm.trans e)];exact⟨h1,ry⟩
  ·rw[if_neg e,if_neg (λz=>e (h1.trans z))];exact⟨h1,h2⟩
theorem KV.put(r:KV kvs vs)(k:κ)(ry:RelV y u):KV (putK kvs k y) (stored vs k u):=by
 unfold putK stored;rw[r.any k];by_cases e:(vs.any λkv=>decide (kv.1=k))=true
 ·rw[if_pos e,if_pos e];exact r.repl k ry
 ·rw[if_neg e,if_neg e];exact Paired.snoc r ⟨rfl,ry⟩
theorem KV.length(r:KV kvs vs):kvs.length=vs.length:=Paired.length r
end
theorem UM{k:Key}(r:RelV (kV k) u):(Yz P w).is k u=true:=by
 cases k with
 |inl i=>obtain⟨t,e⟩:=(show∃t,u=VN i t from r);subst e;exact S0 P w i t
 |inr x=>obtain⟨t,e⟩:=(show∃t,u=XD x t from r);subst e;exact S1 P w x t
theorem IB:∀{ks:List Key} {us:List X0},Vals (ks.map kV) us->ItemsAre (Yz P w) ks us
 |[],_,r=>by rw[Yc]at r;cases r;exact .nil
 |k::ks,_,r=>by
  rw[Xx]at r;cases r with
  |cons h t=>exact .cons (UM h) (IB t)
abbrev KT(H:Hp):List (List Key×V)->List (List Key×Addr×X0)->Prop:=Paired λp q=>p.1=q.1/\H q.2.1=some (.tup (p.1.map kV))/\RelV p.2 q.2.2
theorem KT.val(r:KT H kvs xs)(k:List Key):RelO (valV kvs k) ((atKey xs k).map (·.2)):=by
 induction r with
 |nil=>exact Yr
 | @cons p q ps qs h t ih=>
  obtain⟨h1,_,h2⟩:=h;by_cases e:p.1=k
  ·have e':q.1=k:=h1.symm.trans e;have b:atKey (q::qs) k=some q.2:=by simp[atKey,VF,e']
   rw[Cq e,b];exact h2
  ·have e':¬q.1=k:=λz=>e (h1.trans z);have b:atKey (q::qs) k=atKey qs k:=by simp[atKey,VF,e']
   rw[Cr e,b];exact ih
theorem KT.repl(r:KT H kvs xs)(k:List Key)(ry:RelV y u):
  KT H (kvs.map λkv=>if kv.1=k then(kv.1,y)else kv) (xs.map (putAt k u)):=by
 induction r with
 |nil=>exact .nil
 | @cons p q ps qs h t ih=>
  rw[Xx,Xx];refine .cons ?_ ih;obtain⟨h1,h2,h3⟩:=h;unfold putAt;by_cases e:p.1=k
  ·rw[if_pos e,if_pos (h1.symm.trans e)];exact⟨h1,h2,ry⟩
  ·rw[if_neg e,if_neg (λz=>e (h1.trans z))];exact⟨h1,h2,h3⟩
theorem KT.put(r:KT H kvs xs)(k:List Key)(hb:H b=some (.tup (k.map kV)))(ry:RelV y u):
  KT H (putK kvs k y) (storedH xs k b u):=by
 have e:(kvs.any λkv=>decide (kv.1=k))=(atKey xs k).isSome:=by
  rw[IA,(r.val k).isSome_eq,E1]
 unfold putK storedH;rw[e];by_cases q:(atKey xs k).isSome=true
 ·rw[if_pos q,if_pos q];exact r.repl k ry
 ·rw[if_neg q,if_neg q];exact Paired.snoc r ⟨rfl,hb,ry⟩
theorem KT.keeps{H H':Hp}{kvs:List (List Key×V)}{xs:List (List Key×Addr×X0)}(r:KT H kvs xs)(ht:∀b ys,H b=some (.tup ys)->H' b=some (.tup ys)):KT H' kvs xs:=
 Paired.mapP r λ_ _ z=>⟨z.1,ht _ _ z.2.1,z.2.2⟩
section
variable{P:Xv}{w:Xn}{H:Hp}{h:Heap}{a:Addr}
theorem IC(ok:HOk P w H h)(e:Rd H a u):ObjOk P w H h a u:=e.ok ok
theorem Ve(ok:HOk P w H h)(e:Rd H a (.dK kvs)):kvs.length≤sizeLine/\(a==YL)=false/\∃vs,KV kvs vs/\h.DictOf (Yz P w) a vs:=
 show ObjOk P w H h a (.dK kvs)from IC ok e
theorem Cs(ok:HOk P w H h)(e:H a=some (.dK kvs)):kvs.length≤sizeLine/\(a==YL)=false/\∃vs,KV kvs vs/\h.DictOf (Yz P w) a vs:=Ve ok (.inl e)
theorem WV(ok:HOk P w H h)(e:H a=some (.tup (ks.map kV))):(tupleKind (Yz P w)).is h ks a:=by
 obtain⟨_,its,r,⟨o,h1,h2,n,h3⟩,_⟩:=(show ObjOk P w H h a (.tup (ks.map kV))from ok a _ e);exact⟨o,its.toArray,n,h1,h2,h3,by simpa using IB r⟩
theorem WW(ok:HOk P w H h)(e:Rd H a (.dT kvs)):kvs.length≤sizeLine/\(a==YL)=false/\
  ∃xs,KT H kvs xs/\h.DictOfH (tupleKind (Yz P w)) a xs:=by
 obtain⟨z,y,xs,r,o,es,ep,h1,h2,h3,h4,h5⟩:=(show ObjOk P w H h a (.dT kvs)from IC ok e);refine⟨z,y,xs,r,o,es,ep,h1,h2,h3,h4,λx hx=>?_,h5⟩;have all:∀{l:List (List Key×V)} {m:List (List Key×Addr×X0)},KT H l m->∀x∈m,(tupleKind (Yz P w)).is h x.1 x.2.1:=by
  intro l m q
  induction q with
  |nil=>intro x hx;exact nomatch hx
  | @cons p q ps qs hq t ih=>
   intro x hx;rcases Xl.mp hx with e|hx
   ·subst e;exact WV ok (by rw[<- hq.1];exact hq.2.1)
   ·exact ih x hx
 exact all r x hx
theorem _rP(ok:HOk P w H h)(e:H a=some (.dT kvs)):kvs.length≤sizeLine/\(a==YL)=false/\
  ∃xs,KT H kvs xs/\h.DictOfH (tupleKind (Yz P w)) a xs:=WW ok (.inl e)
end
def DGet(H:Hp)(a:Addr)(y:V)(r:Option V):Prop:=
 (∃kvs k,Rd H a (.dK kvs)/\y=kV k/\r=valV kvs k)\/∃kvs k b,Rd H a (.dT kvs)/\y=.ref b/\H b=some (.tup (k.map kV))/\r=valV kvs k
def DPut(H:Hp)(a:Addr)(y v:V)(H':Hp):Prop:=
 (∃kvs k,H a=some (.dK kvs)/\y=kV k/\kvs.length<sizeLine/\H'=upd H a (.dK (putK kvs k v)))\/
 ∃kvs k b,H a=some (.dT kvs)/\y=.ref b/\H b=some (.tup (k.map kV))/\kvs.length<sizeLine/\H'=upd H a (.dT (putK kvs k v))
theorem DGet.k{k:Key}(e:H a=some (.dK kvs)):DGet H a (kV k) (valV kvs k):=.inl ⟨kvs,k,.inl e,rfl,rfl⟩
theorem DPut.k{k:Key}(e:H a=some (.dK kvs))(hl:kvs.length<sizeLine):DPut H a (kV k) v (upd H a (.dK (putK kvs k v))):=.inl ⟨kvs,k,e,rfl,hl,rfl⟩
section
variable{X:Cx}{pins:List (Addr×Obj)}{σ:St}{H:Hp}{s:X2}{a:Addr}{y v:V}{u r:X0}{o:Option V}{A:XA}{E:X0->X2->Prop}
theorem Inv.big(I:Inv X pins σ H s):YL<s.heap.objs.size:=by
 have h:Xp<s.heap.objs.size:=(I.mod.glob.keeps I.bk).lt;exact V6 (by decide) h
theorem _jn(hu:A.units+1<cLine)(I:Inv X pins σ H s)(g:DGet H a y (some v))(ry:RelV y u)(h:∀w' s',Inv X pins σ H s'->RelV v w'->Q w' s'):
  X3 (X6 X.prog X.w) A (getItem (.ref a) u) Q E s:=by
 rcases g with⟨kvs,k,e,ey,l⟩|⟨kvs,k,b,e,ey,eb,l⟩
 ·subst ey;obtain⟨z,hd,vs,rel,dd⟩:=Ve I.hok e;obtain⟨w',hw,rw'⟩:=RelO.some_of (v:=v) (o:=Z1 vs k) (by rw[l];exact rel.val k)
  exact wpAny_getItem_of (UM ry) dd.mapOf hw (h w' _ (I.tok _) rw')
 ·subst ey;cases(show u=Xo b from ry);obtain⟨z,hd,xs,rel,dd⟩:=WW I.hok e;obtain⟨w',hw,rw'⟩:=RelO.some_of (v:=v) (o:=(atKey xs k).map (·.2)) (by rw[l];exact rel.val k)
  obtain⟨p,hp,hp2⟩:=DY.mp hw;refine wpAny_getItem_heap (BC hu) (WV I.hok eb) dd hp ?_;rw[hp2];exact h w' _ (I.tok _) rw'
theorem d_in(hu:A.units+1<cLine)(I:Inv X pins σ H s)(g:DGet H a y o)(ry:RelV y u)(h:∀s',Inv X pins σ H s'->Q (.bool o.isSome) s'):
  X3 (X6 X.prog X.w) A (Y0 .In u (.ref a)) Q E s:=by
 rcases g with⟨kvs,k,e,ey,l⟩|⟨kvs,k,b,e,ey,eb,l⟩
 ·subst ey;obtain⟨z,hd,vs,rel,dd⟩:=Ve I.hok e;refine wpAny_in_of (UM ry) hd dd.mapOf ?_;rw[<- (rel.val k).isSome_eq,<- l];exact h _ (I.tok _)
 ·subst ey;cases(show u=Xo b from ry);obtain⟨z,hd,xs,rel,dd⟩:=WW I.hok e;refine wpAny_in_heap (BC hu) (WV I.hok eb) hd dd ?_;have q:=(rel.val k).isSome_eq;rw[E1]at q;rw[<- q,<- l];exact h _ (I.tok _)
theorem _nT(hu:A.units+1<cLine)(I:Inv X pins σ H s)(g:DGet H a y o)(ry:RelV y u)(h:∀s',Inv X pins σ H s'->Q (.bool (!o.isSome)) s'):
  X3 (X6 X.prog X.w) A (Y0 .NotIn u (.ref a)) Q E s:=by
 rcases g with⟨kvs,k,e,ey,l⟩|⟨kvs,k,b,e,ey,eb,l⟩
 ·subst ey;obtain⟨z,hd,vs,rel,dd⟩:=Ve I.hok e;refine wpAny_notIn_of (UM ry) hd dd.mapOf ?_;rw[<- (rel.val k).isSome_eq,<- l];exact h _ (I.tok _)
 ·subst ey;cases(show u=Xo b from ry);obtain⟨z,hd,xs,rel,dd⟩:=WW I.hok e;refine wpAny_notIn_heap (BC hu) (WV I.hok eb) hd dd ?_;have q:=(rel.val k).isSome_eq;rw[E1]at q;rw[<- q,<- l];exact h _ (I.tok _)
theorem Ed(I:Inv X pins σ H s)(mu:Mut (H a))(hs:ZX a s.heap h')(he:∃q,h'.get? a=some q)(new:ObjOk X.prog X.w (upd H a ob) h' a ob):
  Inv X pins σ (upd H a ob) {s with heap:=h',toks:=t'}:=
 I.write (x:=a) (e:=a) mu (.inl rfl) (λb q hb z=>(hs.2 b hb).trans z) he new
theorem WX(z:kvs.length≤sizeLine)(hd:(a==YL)=false)(rel:KV kvs vs)(dd:h'.DictOf (Yz P w) a vs):
  ObjOk P w H' h' a (.dK kvs):=⟨z,hd,vs,rel,dd⟩
theorem _jm{H':Hp}{Q:Unit->X2->Prop}(hu:A.units+1<cLine)(I:Inv X pins σ H s)(g:DPut H a y v H')(ry:RelV y u)(rv:RelV v r)(h:∀s',Inv X pins σ H' s'->Q () s'):
  X3 (X6 X.prog X.w) A (setItem (.ref a) u r) Q E s:=by
 rcases g with⟨kvs,k,e,ey,l,eH⟩|⟨kvs,k,b,e,ey,eb,l,eH⟩
 ·subst ey eH;obtain⟨z,hd,vs,rel,dd⟩:=Cs I.hok e;have hz:vs.length≤sizeLine:=by rw[<- rel.length];exact z
  have hl:(putK kvs k v).length≤sizeLine:=by have:=Ec kvs k v;lia
  refine wpAny_setItem_pairs (hsz:=hz) (UM ry) dd λh' dd' hs=>h _ ?_;have he:∃q,h'.get? a=some q:=let⟨q,_,_,hq,_⟩:=dd';⟨q,hq⟩
  exact Ed I (by rw[e];exact Yr) hs he (WX hl hd (rel.put k rv) dd')
 ·subst ey eH;cases(show u=Xo b from ry);obtain⟨z,hd,xs,rel,dd⟩:=_rP I.hok e;have hz:xs.length≤sizeLine:=by rw[<- Paired.length rel];exact z
  have hl:(putK kvs k v).length≤sizeLine:=by have:=Ec kvs k v;lia
  refine wpAny_setItem_heap (hsz:=hz) (BC hu) (WV I.hok eb) dd λh' dd' hs=>h _ ?_;obtain⟨q,es,ep,hq,h2,h3,h4,_,h5⟩:=dd';refine Ed I (by rw[e];exact Yr) hs ⟨q,hq⟩ ⟨hl,hd,_,(rel.put k eb rv).keeps λc ys ec=>?_,q,es,ep,hq,h2,h3,h4,h5⟩
  rw[XM (HJ ec e (λz=>nomatch z))];exact ec
end
section
variable{X:Cx}{pins:List (Addr×Obj)}{σ:St}{H:Hp}{s:X2}{a:Addr}{kvs:List (Key×V)}{k:Key}{u:X0}{A:XA}{E:X0->X2->Prop}
theorem _rQ(I:Inv X pins σ H s)(e:Rd H a (.dK kvs))(h:∀t s',Inv X pins σ H s'->Q (.int kvs.length t) s'):X3 (X6 X.prog X.w) A (call (.builtin "len") [.ref a]) Q E s:=by
 obtain⟨z,hd,vs,rel,dd⟩:=Ve I.hok e;refine call_len_dict hd dd (by rw[<- rel.length];rw[sizeLine_eq]at z;lia) ?_
 rw[<- rel.length];exact h _ _ (I.tok _)
end
theorem _fN(I:Inv X pins σ H s)(g:DGet H a y o):s.TypeIs (.ref a) "dict":=by
 rcases g with⟨kvs,k,e,_,_⟩|⟨kvs,k,b,e,_,_,_⟩
 ·obtain⟨_,_,vs,_,dd⟩:=Ve I.hok e;exact dd.typeIs
 ·obtain⟨_,_,xs,_,dd⟩:=WW I.hok e;exact dd.typeIs
section
variable{X:Cx}{o i e value:Expr}{pos pos' tpos:Pos}{td ty tv:TE}
end
theorem ID{P:Xv}{w:Xn}{H:Hp}(h:Heap)(hb:YL<h.objs.size):ObjOk P w H (h.push {cls:=.type "dict",data:=.dict #[]}) h.objs.size (.dK []):=
 ⟨YH _,beq_eq_false_iff_ne.mpr (XQ (Xz hb)),[],.nil,E2 h⟩
def Zos:TE:=λ_ H Q=>∀p,H p=none->Q (.ref p) (upd H p (.dK []))
section
variable{X:Cx}{pos:Pos}
theorem pe_dnewK:PE X (.Dict [] [] pos) Zos:=λpins s σ H Q I h=>
 wpAny_Dict_empty ⟨.ref s.heap.objs.size,_,I.laid (a:=s.heap.objs.size) (o:=.dK []) (t':=s.toks) (λ_ _ q=>Xq _ q) (Xe _) (ID s.heap I.big),rfl,h _ (I.hok.fresh (Xe _))⟩
end
def Ct:List (TE×TE)->St->Hp->(List (V×V)->Hp->Prop)->Prop
 |[],_,H,Q=>Q [] H
 |(tk,tv)::r,σ,H,Q=>tk σ H λx H1=>tv σ H1 λy H2=>Ct r σ H2 λps H3=>Q ((x,y)::ps) H3
abbrev VV:List (V×V)->List (X0×X0)->Prop:=Paired λp q=>RelV p.1 q.1/\RelV p.2 q.2
def PPs(X:Cx)(pos:Pos)(keys:List (Option Expr))(values:List Expr)(trs:List (TE×TE)):Prop:=
 ∀(pins:List (Addr×Obj)) (s:X2) (σ:St) (H:Hp) (Q:List (V×V)->Hp->Prop),Inv X pins σ H s->Ct trs σ H Q->
  X3 (X6 X.prog X.w) X.A (evalPairs (pairTrees keys values X.env pos)) (λvs s'=>∃ps H',Inv X pins σ H' s'/\VV ps vs/\Q ps H') X.xe s
theorem _mF:PPs X pos [] [] []:=λpins s σ H Q I h=>pairTrees_nil_walk ⟨[],H,I,.nil,h⟩
theorem _kk{X:Cx}{pos:Pos}{k v:Expr}{ks:List (Option Expr)}{vs:List Expr}{tk tv:TE}{trs:List (TE×TE)}(hk:PE X k tk)(hv:PE X v tv)(hr:PPs X pos ks vs trs):
  PPs X pos (some k::ks) (v::vs) ((tk,tv)::trs):=λpins s σ H Q I h=>
 pairTrees_cons_walk (thn (hk pins s σ H _ I h) λu s1 ⟨x,H1,I1,rx,q1⟩=>thn (hv pins s1 σ H1 _ I1 q1) λw2 s2 ⟨y,H2,I2,ry,q2⟩=>
  thn (hr pins s2 σ H2 _ I2 q2) λws s3 ⟨ps,H3,I3,rel,q3⟩=>⟨(x,y)::ps,H3,I3,.cons ⟨rx,ry⟩ rel,q3⟩)
def VZ(kvs more:List (Key×V)):List (Key×V):=more.foldl (λacc kv=>putK acc kv.1 kv.2) kvs
theorem KV.merge:∀{more:List (Key×V)} {rs:List (Key×X0)} {kvs:List (Key×V)} {vs:List (Key×X0)},KV more rs->KV kvs vs->KV (VZ kvs more) (merged vs rs):=by
 intro more rs kvs vs r;unfold KV at r
 induction r generalizing kvs vs with
 |nil=>intro q;exact q
 | @cons p q ps qs h t ih=>
  intro r0;have e:KV (putK kvs p.1 p.2) (stored vs q.1 q.2):=by
   have:=r0.put p.1 h.2;rw[<- h.1];exact this
  exact ih e
theorem IF:∀(more kvs:List (Key×V)),(VZ kvs more).length≤kvs.length+more.length
 |[],kvs=>by show kvs.length≤kvs.length+0;lia
 |p::r,kvs=>by
  have h1:=IF r (putK kvs p.1 p.2);have h2:=Ec kvs p.1 p.2;show(VZ (putK kvs p.1 p.2) r).length≤_;rw[Yh];lia
theorem IG{P:Xv}{w:Xn}:∀{kvs:List (Key×V)} {ws:List (X0×X0)},VV (kvs.map λkv=>(kV kv.1,kv.2)) ws->∃rs,Carries (Yz P w) ws rs/\KV kvs rs
 |[],_,r=>by rw[Yc]at r;cases r;exact⟨[],Yr,.nil⟩
 |p::kvs,_,r=>by
  rw[Xx]at r;cases r with
  | @cons a b as bs h t=>
   obtain⟨rs,c,q⟩:=IG (P:=P) (w:=w) t;obtain⟨b1,b2⟩:=b;exact⟨(p.1,b2)::rs,⟨UM h.1,rfl,c⟩,.cons ⟨rfl,h.2⟩ q⟩
def Zqo(trs:List (TE×TE)):TE:=λσ H Q=>∀p,H p=none->Ct trs σ (upd H p (.dK [])) λps H2=>H2 p=some (.dK [])/\∃kvs:List (Key×V),ps=kvs.map (λkv=>(kV kv.1,kv.2))/\kvs.length≤15/\Q (.ref p) (upd H2 p (.dK (VZ [] kvs)))
theorem _mQ{X:Cx}{pos:Pos}{keys:List (Option Expr)}{values:List Expr}{trs:List (TE×TE)}(h:PPs X pos keys values trs)(hall:keys.all (·.isSome)=true)(hl:keys.length=values.length)(h0:keys≠ [])
  (h15:keys.length≤15):PE X (.Dict keys values pos) (Zqo trs):=by
 intro pins s σ H Q I q;have hn:=I.hok.fresh (Xe s.heap.objs.size);have I1:=I.laid (a:=s.heap.objs.size) (o:=.dK []) (h':=s.heap.push {cls:=.type "dict",data:=.dict #[]}) (t':=s.toks) (fun _ _ q=>Xq _ q) (Xe _) (ID s.heap I.big);refine wpAny_Dict_walk (knd:=Yz X.prog X.w) hall hl h0 h15 (thn (h pins _ σ _ _ I1 (q _ hn)) λws s2 ⟨ps,H2,I2,rel,e,kvs,ep,lk,q2⟩=>?_);subst ep;obtain⟨rs,c,rk⟩:=IG (P:=X.prog) (w:=X.w) rel;obtain⟨z,hd,vs0,r0,dd⟩:=Cs I2.hok e;cases r0;refine⟨rs,c,dd,λh' dd' hs=>⟨.ref s.heap.objs.size,_,?_,rfl,q2⟩⟩;have hz:(VZ [] kvs).length≤sizeLine:=by
  have h1:=IF kvs [];rw[DE]at h1;rw[sizeLine_eq];lia
 have he:∃q,h'.get? s.heap.objs.size=some q:=let⟨q,_,_,hq,_⟩:=dd';⟨q,hq⟩
 exact Ed I2 (by rw[e];exact Yr) hs he (WX hz hd (rk.merge .nil) dd')
structure M1 (X:Cx) (o:Expr) (m:Str) (apos:Pos) (e:Expr) (cpos:Pos):Prop where
 base:UA o m X.env (eval o X.env)=eval o X.env
 few:((XY cpos (XB [e] X.env)).all (λx=>!x.1)&&(ZS cpos (ZT [] X.env)).all (λx=>x.1.isSome)
  &&decide (([e]:List Expr).length+([]:List Z4).length+(if([]:List Z4).isEmpty then 0 else 1)<30))=true
 line:(apos.endLine==cpos.line)=true
 trees:XY cpos (XB [e] X.env)=[(false,eval e X.env)]
structure M2 (X:Cx) (o:Expr) (m:Str) (apos:Pos) (e f:Expr) (cpos:Pos):Prop where
 base:UA o m X.env (eval o X.env)=eval o X.env
 few:((XY cpos (XB [e,f] X.env)).all (λx=>!x.1)&&(ZS cpos (ZT [] X.env)).all (λx=>x.1.isSome)
  &&decide (([e,f]:List Expr).length+([]:List Z4).length+(if([]:List Z4).isEmpty then 0 else 1)<30))=true
 line:(apos.endLine==cpos.line)=true
 trees:XY cpos (XB [e,f] X.env)=[(false,eval e X.env),(false,eval f X.env)]
section
variable{X:Cx}{pins:List (Addr×Obj)}{σ:St}{H:Hp}{s:X2}{a:Addr}{y d:V}{u r:X0}{o:Option V}{A:XA}{E:X0->X2->Prop}
end
section
variable{X:Cx}{o e f:Expr}{apos cpos:Pos}{td ty tx:TE}
end
section
variable{X:Cx}{pins:List (Addr×Obj)}{σ:St}{H:Hp}{s:X2}{a:Addr}{kvs:List (Key×V)}{A:XA}{E:X0->X2->Prop}
theorem _l1(I:Inv X pins σ H s)(e:Rd H a (.dK kvs))(h:∀p s',H p=none->Inv X pins σ (upd H p (.dK kvs)) s'->Q (.ref p) s'):X3 (X6 X.prog X.w) A (call (.type "dict") [.ref a]) Q E s:=by
 obtain⟨z,hd,vs,rel,dd⟩:=Ve I.hok e;refine kt_call_dict hd dd (by rw[<- rel.length];exact z) λh' dd' hs=>?_
 refine h _ _ (I.hok.fresh (Xe _)) (I.laid (a:=s.heap.objs.size) (o:=.dK kvs) (t':=s.toks) (λb q hq=>?_) (Xe _) (WX z (beq_eq_false_iff_ne.mpr (XQ (Xz I.big))) rel dd'));exact(hs.2 b (Xz (Xu hq))).trans (Xq _ hq)
end
section
variable{X:Cx}{pins:List (Addr×Obj)}{σ:St}{H:Hp}{s:X2}{a:Addr}{y:V}{u:X0}{A:XA}{E:X0->X2->Prop}
end
end L2
namespace Att
open PySem PySem.W PySem.Calls PyProof.Rows
theorem _be:∀(ns:List Int) (vs:List X0),WellAll P h vs (ns.map WData.int)->IntsAre vs ns:=by
 intro ns
 induction ns with
 |nil=>
  intro vs w;rw[Yc]at w;cases w;exact .nil
 |cons n ns ih=>
  intro vs w;rw[Xx]at w;cases w with
  |cons a b=>
   cases a;exact .cons _ _ (ih _ b)
theorem _hZ{l:OpenLaw}{n:Nat}(hn:l.most=some n){P:Params}{h:Heap}{args:List WData}{vals:List X0}
  (hpre:l.row.toRowW.claim.pre args=true) (hwl:WellAll P h vals args):
  ∃a vs ns,vals=[Xo a]/\args=[WData.list (ns.map WData.int)]/\h.get? a=some {cls:=.type "list",data:=.seq vs.toArray}/\IntsAre vs ns/\ns.length≤n:=by
 have hsh:WShape.hasAll [] args [.list .int]=true:=(pre_splitW hpre).1;have hc:l.pre.holds [] {args:=args}=true:=(pre_splitW hpre).2;obtain⟨d,r,rfl,h1,h2⟩:=hasAllW_cons hsh;obtain rfl:=hasAllW_nil h2;obtain⟨xs,rfl,h3⟩:=hasW_list h1;obtain⟨ns,rfl⟩:=items_int h3;have hlen:ns.length≤n:=by
  unfold OpenLaw.pre at hc;have h4:(WTm.not (.lt (.lit (.int (n:Int))) (.len (.arg 0)))).holds [] {args:=[.list (ns.map .int)]}=true:=by
   have h4:=(holds_andW hc).1;rw[hn]at h4;exact h4
  have h5:=condW_of h4 (w_not (w_lt w_lit (w_len_list (w_arg rfl))));rw[Xc]at h5;refine Nat.le_of_not_lt λq=>?_;have q':(n:Int)<((ns.length:Nat):Int):=by lia
  first
   |(rw[decide_eq_true q']at h5;exact absurd h5 (by decide))
   |(simp at h5;lia)
 cases hwl with
 |cons w1 w2=>
  cases w2;cases w1 with
  |list ho hall=>exact⟨_,_,ns,rfl,rfl,ho,_be ns _ hall,hlen⟩
theorem _ic(l:OpenLaw)(args:List WData):l.row.toRowW.claim.post args (.bool true) args=true:=
 postW_of (r:=l.row.toRowW) (X:=(true==true))
  (show WShape.has [] (.bool true) .bool=true by first|rfl|decide|simp[WShape.has,WShape.arms,WShape.armsAll])
  (show(WTm.eq .res (.lit (.bool true))).value [] {args:=args,res:=some (.bool true),after:=args}=some (.bool (true==true))from w_eq_bool (w_res rfl) w_lit) rfl
theorem attach_call{l:OpenLaw}{n:Nat}{q:Xv}{loose:List Str}{XP:(Str->Option X0)->Heap->Prop}{YP:Xn->Heap->Prop}{d:DefRec}
  (hn:l.most=some n) (hdf:d.params.defaults=[])
  (call:∀(w:Xn) (s₀ s₁:X2) (mg mb:Str->Option X0) (fa:Addr) (o:Obj) (pm cd doc:X0) (a:Addr) (vs:List X0) (ns:List Int),
   Ground q loose [] XP w s₀ mg mb s₁.heap->YP w s₁.heap->
   s₁.heap.get? fa=some o->o.data=.func (docDef d.name d.params d.body d.scope pm cd doc)->s₁.heap.CodeRec cd d.name->mg d.name=some (.ref fa)->
   s₁.heap.get? a=some {cls:=.type "list",data:=.seq vs.toArray}->IntsAre vs ns->ns.length≤n->s₁.gens=#[]->
   YU (X6 l.prog w) callerA (.call (.ref fa) ⟨[.ref a],[]⟩) (λr s'=>r=.ok (.ret (.bool true))/\OldK s₁.heap s'.heap/\s'.os=s₁.os/\AllBare s'.gens) s₁):
  WalkO q loose XP YP l.row.toRowW d [] (λf vs=>PySem.call f vs):=by
 intro w s₀ s₁ mg mb G Y fa o pm cd doc dV kV ho hd hcd hD hmg hg args vals as hpre hlay hrd hwl hlo;obtain rfl:dV=.none:=Dflts.none hD hdf;obtain rfl:kV=.none:=Dflts.noKw hD;obtain⟨a,vs,ns,rfl,rfl,hobj,hints,hlen⟩:=_hZ hn hpre hwl;refine enter_call (Vs (call w s₀ s₁ mg mb fa o pm cd doc a vs ns G Y ho (fd_plain hd) hcd hmg hobj hints hlen hg) λr s' hq=>?_);obtain⟨rfl,h2,h3,h4⟩:=hq;exact⟨.inl ⟨.bool true,.bool true,[],rfl,λ_=>rfl,.bool true,_ic l _,λ_=>⟨List.Pairwise.nil,λ_ hm=>(nomatch hm)⟩⟩,h2,h3,h4⟩
section
variable{prog:Xv}{w:Xn}{A:XA}{E:X0->X2->Prop}{s:X2}{K:Frag}
noncomputable def ledger(h:Heap)(L d:Addr):List (Addr×Obj):=(Xs h.objs.size).filterMap λa=>if a=L\/a=d then none else(h.get? a).map λo=>(a,o)
end
end Att
namespace L2
open PySem PySem.Spec PyProof.Rows
theorem IH:∀{vs:List X0} {ns:List Int},IntsAre vs ns->Vals (ns.map V.int) vs
 |_,_,.nil=>.nil
 |_,_,.cons n t h=>.cons ⟨t,rfl⟩ (IH h)
def Only(H:Hp):Prop:=∀b,H b=none\/∃o xs,H b=some (.frz o (.lst xs))
theorem _kH{K:X4}{k:Nat}
  (KX:K.In s₁.heap) (hns:s₁.heap.Ns Xp mg) (hb:s₁.heap.Ns builtinsNs mb) (hbb:∀x:Str,x≠"__name__"->mb x=YF x) (hlim:s₁.heap.NoLimit) (hg:s₁.gens=#[])
  (ha:s₁.heap.get? a=some {cls:=.type "list",data:=.seq vs.toArray}) (hi:IntsAre vs ns) (hl:ns.length≤sizeLine) (hr:Room k callerA)
  (F:∀base:Heap,K.In base->base.Ns Xp mg->FnOk P w K mg base CX k fa fd [x] sp) (hbind:∀(s:X2) (u:X0),BindsTo s fd ⟨[u],[]⟩ [(x,u)])
  (hsp:∀H:Hp,Only H->SqL K H a (ns.map V.int)->sp [.ref a] H (λv _=>v=.bl true) λ_ _ _=>False)
  (hCX:∀H e s',CX [] H s₁ (λ_ _ _=>False) e s'->False):
  YU (X6 P w) callerA (.call (.ref fa) ⟨[.ref a],[]⟩) (λr s'=>r=.ok (.ret (.bool true))/\OldK s₁.heap s'.heap/\s'.os=s₁.os/\AllBare s'.gens) s₁:=by
 have rv:=IH hi;have lenV:=hi.length;have core:∀H:Hp,Only H->SqL K H a (ns.map V.int)->HOk P w H s₁.heap->(∀b,H b≠none->b=a)->(H a≠none->K.lookup a=none)->
   YU (X6 P w) callerA (.call (.ref fa) ⟨[.ref a],[]⟩) (λr s'=>r=.ok (.ret (.bool true))/\OldK s₁.heap s'.heap/\s'.os=s₁.os/\AllBare s'.gens) s₁:=by
  intro H hO hS hok hA hK;have base_of:∀{b:Addr} {o:Obj},s₁.heap.get? b=some o->H b=none->(hidT s₁.heap H).get? b=some o:=λe n=>S3 e n;have noA:∀{b:Addr} {o:Obj} {es:Array DictEntry} {ep:Nat},s₁.heap.get? b=some o->o.data=.dict es ep->H b=none:=fun{b o es ep} e d=>by
   cases q:H b with
   |none=>rfl
   |some u=>
    have e':b=a:=hA b (by rw[q];simp)
    subst e';rw[ha]at e;cases e;have d':YW vs.toArray _=Data.dict es ep:=d;cases d'
  have nsK:∀{b:Addr} {m:Str->Option X0},s₁.heap.Ns b m->(hidT s₁.heap H).Ns b m:=fun{b m} ⟨o,es,ep,e,d,r⟩=>⟨o,es,ep,base_of e (noA e d),d,r⟩;have hKb:K.In (hidT s₁.heap H):=λb o e=>base_of (KX b o e) (by
   cases q:H b with
   |none=>rfl
   |some u=>
    have e':b=a:=hA b (by rw[q];simp)
    subst e';rw[hK (by rw[q];simp)]at e;cases e)
  have hM:Mod K mg (hidT s₁.heap H):=⟨hKb,nsK hns,⟨mb,nsK hb,hbb⟩,let⟨mc,h1,h2⟩:=hlim;⟨mc,nsK h1,h2⟩⟩
  have e0:Env0 P w K mg (hidT s₁.heap H) callerA [] s₁ H:=⟨rfl,hM,λb o e=>S4 e,WG (S2 _ _),trivial,λb hb=>absurd (show b∈([]:List Addr)from hb) (by simp),hok,.of_eq hg⟩
  refine Vs ((F _ hKb (nsK hns)).run callerA [] s₁ H ⟨[.ref a],[]⟩ [.ref a] [.ref a] _ _ hr e0 (hbind s₁ (.ref a)) (.cons rfl .nil) (hsp H hO hS)) λr s' h=>?_;cases r with
  |error e=>exact(hCX H e s' h).elim
  |ok fl=>
   cases fl with
   |next=>exact Y3 h
   |brk=>exact Y3 h
   |cont=>exact Y3 h
   |ret u=>
    obtain⟨v,H',os,bare,un,hok',r',q⟩:=h;have q':v=.bl true:=q;subst q';obtain rfl:u=Y9 true:=r';refine⟨rfl,OldK.of_keep λb o e=>?_,os,bare⟩;cases q:H b with
    |none=>exact un.keep b o e q (by intro z;exact absurd (show b∈([]:List Addr)from z) (by simp)) (by simp)
    |some u=>
     rcases hO b with z|⟨ob,xs,z⟩
     ·rw[q]at z;cases z
     ·have z2:=un.frzs b ob _ z;obtain⟨e1,_⟩:=hok b _ z;obtain⟨e2,_⟩:=hok' b _ z2;rw[e]at e1;cases e1;exact e2
 cases hk:K.lookup a with
 |some o=>
  have e:=KX a o hk;rw[ha]at e;cases e;refine core (λ_=>none) (λ_=>.inl rfl) (.inr ⟨_,vs.toArray,_,hk,rfl,rfl,rfl,by rw[XR,lenV];exact hl,by simpa using rv⟩) (λb u z=>by have z':(none:Option HO)=some u:=z;cases z') (λb z=>absurd rfl z) λz=>absurd rfl z
 |none=>
  refine core (fun b=>if b=a then some (.frz {cls:=.type "list",data:=.seq vs.toArray} (.lst (ns.map V.int)))else none) (fun b=>?_) (.inl (.inr ⟨{cls:=.type "list",data:=.seq vs.toArray},if_pos rfl⟩)) (fun b u z=>?_) (fun b z=>?_) fun _=>hk
  ·by_cases hb:b=a
   ·exact .inr ⟨_,_,if_pos hb⟩
   ·exact .inl (if_neg hb)
  ·by_cases hb:b=a
   ·have z':=(if_pos hb).symm.trans z;cases z';subst hb;exact⟨ha,by rw[Xc];exact hl,vs,_,rv,ha⟩
   ·have z':=(if_neg hb).symm.trans z;cases z'
  ·by_cases hb:b=a
   ·exact hb
   ·exact absurd (if_neg hb) z
abbrev KOf{K:X4}{h:Heap}(_:K.In h):X4:=K
theorem walk_of{l:DJ}{n k:Nat}{q:Xv}{loose:List Str}{XP:(Str->Option X0)->Heap->Prop}{YP:Xn->Heap->Prop}{d:DefRec}{K:Params->X4}{CX:Xn->CXT}{sp:Xn->Sp}{x:Str}
  (hn:l.most=some n) (hn2:n≤sizeLine) (hdf:d.params.defaults=[]) (hr:Room k callerA)
  (hY:∀(w:Xn) (h:Heap),YP w h->(K w.params).In h)
  (F:∀(w:Xn) (mg:Str->Option X0) (fa:Addr) (h:Heap),(K w.params).In h->h.Ns Xp mg->mg d.name=some (.ref fa)->
   ∃fd:Xi,(∀(s:X2) (u:X0),BindsTo s fd ⟨[u],[]⟩ [(x,u)])/\
    ∀base:Heap,(K w.params).In base->base.Ns Xp mg->FnOk l.prog w (K w.params) mg base (CX w) k fa fd [x] (sp w))
  (hsp:∀(w:Xn) (H:Hp) (a:Addr) (ns:List Int),ns.length≤n->Only H->SqL (K w.params) H a (ns.map V.int)->sp w [.ref a] H (λv _=>v=.bl true) λ_ _ _=>False)
  (hCX:∀(w:Xn) (H:Hp) (s:X2) (e:X0) (s':X2),CX w [] H s (λ_ _ _=>False) e s'->False):
  PySem.W.WalkO q loose XP YP l.row.toRowW d [] (λf vs=>PySem.call f vs):=by
 refine Att.attach_call hn hdf λw s₀ s₁ mg mb fa o pm cd doc a vs ns G Y ho hd hcd hmg hobj hints hlen hg=>?_;have KX:=hY w _ Y;obtain⟨fd,hb,hF⟩:=F w mg fa _ KX G.T.g hmg;exact _kH KX G.T.g G.T.b G.T.builtins G.T.nolimit hg hobj hints (Y2 hlen hn2) hr hF hb (λH hO hS=>hsp w H a ns hlen hO hS) λH e s'=>hCX w H s₁ e s'
end L2
/- THE LAST THEOREM (shape;LID,My.*are yours):
  My.Adr:a structure of the addresses that your layer names (classes,functions);My.Txt K t:a structure(Prop) of the equations over K;
  My.txt_mk:{K} {implicit addresses ..} (e1:nsIn K Xp "law"=some (some (.ref f))) (e2:K.lookup f=some ⟨oc,od,.func (fnOf "law" "law" params body scope dV kV doc pm an cdv ct),sl⟩) (e3:codeIn K cdv "law"=true) ..:∃t,My.Txt K t
set_option maxRecDepth 100000 in
set_option maxHeartbeats 0 in
theorem PySem.Challenge.cw_LID_holds : PySem.Challenge.rw_LID.Holds := by
 w_on;o_law;k_head;(case hw=>w_witness2)
 k_fill
 refine L2.walk_of (l:=PySem.Challenge.rw_LID) (n:=63) (k:=40) (x:="script") (CX:=fun w=>..) (sp:=fun _=>My.sp_law) rfl (by decide) rfl ⟨rfl,by decide,by decide⟩ (fun w h Y=>PySem.W.kIn_of Y) ?F ?S ?C
 case F=>
  intro w mg fa h KX G hmg;have T:∃t,My.Txt (L2.KOf KX) t:=by
   dsimp only[L2.KOf] -- K must stand as «<heap const> w.params» for k_is
   refine' My.txt_mk ?e1 ?e2 ?e3 ..
   (case e1=>PySem.W.k_is) -- in the order:a name->its address->its object->its parts
   (case e2=>PySem.W.k_is)
   ..
  obtain⟨t,T⟩:=T;have e0:=hmg.symm.trans (Yx KX G T.law);cases e0 -- fa is the law's own address
  exact⟨_,λs u=>.of_eq rfl,λbase kb nb=>My.law_fn T kb nb⟩ -- if «.of_eq rfl» comes too early:refine' ⟨_,?b,λbase kb nb=>My.law_fn T kb nb⟩;exact λs u=>.of_eq rfl
 case S=>exact λw H a ns hl hO hS=>..
 case C=>exact ..
(the tactic k_is has no namespace:write k_is) -/
namespace L2
open PySem PySem.Spec PyProof.Rows
noncomputable def Zb(s:Stmt)(j:Nat):Stmt:=match s with
 |.ClassDef _ _ _ body _ _ _ _ _ _ _=>body.getD j (.Pass ⟨0,0,0,0⟩)
 |_=>.Pass ⟨0,0,0,0⟩
noncomputable def Ys(s:Stmt):Arguments:=match s with
 |.FunctionDef _ a _ _ _ _ _ _ _ _=>a
 |_=>{posonlyargs:=[],args:=[],vararg:=none,kwonlyargs:=[],kw_defaults:=[],kwarg:=none,defaults:=[]}
def Xf(s:Stmt):List Stmt:=match s with
 |.FunctionDef _ _ b _ _ _ _ _ _ _=>b
 |_=>[]
noncomputable def X5(s:Stmt):Scope:=match s with
 |.FunctionDef _ _ _ _ _ _ sc _ _ _=>sc
 |_=>{kind:=.function,names:=[],isGenerator:=false,isCoroutine:=false}
abbrev CX0:CXT:=λ_ _ _ _ _ _=>False
abbrev E0:XK:=λ_ _ _=>False
theorem Cu{X:Cx}:Vd CX0 X E0:=λ_ _ _ _ _ _ _ h=>h.elim
structure Fun (K:X4) (x qual:Str) (st:Stmt) (f:Addr) (fd:Xi):Prop where
 ex:∃(oc:X0) (od:Option Addr) (kV doc pm:X0) (an:Option Addr) (cdv ct:X0) (osl:Array (Option X0)),
  fd=Yd x qual (Ys st) (Xf st) (X5 st) .none kV doc pm an cdv ct/\K.lookup f=some ⟨oc,od,.func fd,osl⟩/\YO K cdv qual=true
 kp:XZ K (.ref f)=true
section
variable{P:Xv}{w:Xn}{K:X4}{mg:Str->Option X0}{base:Heap}
theorem Fun.ok{st:Stmt}{k:Nat}(F:Fun K x qual st f fd)(S:FnScope N ps (X5 st))(len:∀vs H Q E,sp vs H Q E->vs.length=ps.length)
  (hbody:∀(cdv:X0) (A:XA) (outer:List Env) (s:X2) (H:Hp) (vs:List V) (Q:VK) (E:XK),Room k (A.deeper (envOfC qual (X5 st) s.heap.objs.size f cdv))->sp vs H Q E->
   ∃t,PSs (cxOf CX0 P w K mg base N qual (X5 st) f cdv A outer s H E).nox (Xf st) t/\t {nx:=λ_ H'=>Q .non H',rt:=Q} (ZH N vs) H):FnOk P w K mg base CX0 (k+1) f fd ps sp:=by
 obtain⟨oc,od,kV,doc,pm,an,cdv,ct,osl,rfl,lk,hcd⟩:=F.ex;refine Tx lk hcd S len λA outer s H vs Q E hr hsp=>?_;obtain⟨t,h,q⟩:=hbody cdv A outer s H vs Q E hr hsp;exact⟨t,h.nox,q⟩
theorem Fun.binds{st:Stmt}(F:Fun K x qual st f fd)
  (h:∀(kV doc pm:X0) (an:Option Addr) (cdv ct:X0) (us:List X0),us.length=ps.length->bindArgs (Yd x qual (Ys st) (Xf st) (X5 st) .none kV doc pm an cdv ct) ⟨us,[]⟩=pure (ps.zip us)):Binds K fd ps []:=by
 obtain⟨oc,od,kV,doc,pm,an,cdv,ct,osl,rfl,lk,hcd⟩:=F.ex;exact .all (h kV doc pm an cdv ct)
theorem fun_mk{st:Stmt}{kV:X0}(l:K.lookup f=some ⟨oc,od,.func (Yd x qual (Ys st) (Xf st) (X5 st) .none kV doc pm an cdv ct),osl⟩)
  (c:YO K cdv qual=true) (k:XZ K (.ref f)=true):Fun K x qual st f (Yd x qual (Ys st) (Xf st) (X5 st) .none kV doc pm an cdv ct):=⟨⟨oc,od,kV,doc,pm,an,cdv,ct,osl,rfl,l,c⟩,k⟩
end
section
variable{X:Cx}
theorem pv(i:Nat)(hN:X.N[i]?=some x:=by rfl) (hv:Vis X.env.scope x:=by first|exact Or.inl rfl|exact Or.inr (Or.inl rfl)|exact Or.inr (Or.inr rfl)) (hd:(x==("__debug__":Str))=false:=by decide)
  (hcd:(x==("__classdict__":Str))=false:=by decide):PE X (.Name x pos) (tVar i):=HN hN hv hd hcd
end
section
variable{X:Cx}
theorem _jw:YA X (.builtin "len") (fun xs H Q=>∃a kvs,xs=[V.ref a]/\H a=some (.dK kvs)/\Q (.int kvs.length) H):=by
 intro pins s σ H xs us Q I r h;obtain⟨a,kvs,rfl,ha,q⟩:=h;obtain⟨u,rfl,ru⟩:=_p r;cases ru;exact _rQ I (.inl ha) λt s' I'=>⟨.int kvs.length,H,I',⟨t,rfl⟩,q⟩
end
section
variable{κ:Type} [DecidableEq κ]
theorem II:∀{l:List κ} {k:κ},l.Nodup->¬k∈l->(l++[k]).Nodup
 |[],k,_,_=>by simp
 |a::r,k,h,hk=>by
  obtain⟨h1,h2⟩:=YG.mp h;show(a::(r++[k])).Nodup;refine YG.mpr ⟨λm=>?_,II h2 λm=>hk (Xl.mpr (Or.inr m))⟩;rcases Yw.mp m with q|q
  ·exact h1 q
  ·exact hk (Xl.mpr (Or.inl (XX.mp q).symm))
end
section
variable{X:Cx}
def WY(i j:Int):Prop:=0<j/\j<2^256
theorem _hb(h:WY i j):j.natAbs.log2<9000:=by
 have h1:(0:Int)<j:=h.1;have h2:j<2^256:=h.2;have h0:j.natAbs≠0:=by lia
 have:j.natAbs<2^256:=by lia
 have:=(Nat.log2_lt h0).mpr this;lia
theorem _kx:OpR X (Yg .FloorDiv) (rI WY λi j=>.int (i/j)):=opI λi j _ _ _ _ _ hc q=>by
 have h1:(0:Int)<j:=hc.1;exact floordiv_int (by lia) (by rw[Int.fdiv_eq_ediv_of_nonneg i (by lia)];exact q) (.inl (PyProof.noPylong_of_log2 (_hb hc)))
theorem _fT:YA X (.builtin "isinstance") (fun xs H Q=>∃x c t b,xs=[x,.ty c]/\TyOf X.K H x t/\V2 X.K t (.type c)=some b/\Q (.bl b) H):=by
 intro pins s σ H xs us Q I r h;obtain⟨x,c,t,b,rfl,ty,e,q⟩:=h;obtain⟨u,w',rfl,ru,rw'⟩:=VX r;cases rw';exact Tj I ru ty e λtk=>⟨.bl b,H,I.tok tk,rfl,q⟩
end
section
variable{X:Cx}{pins:List (Addr×Obj)}{σ:St}{H:Hp}{s:X2}
end
section
variable{X:Cx}
end
end L2
namespace L2
end L2
namespace L2
open PySem PySem.Spec PyProof.Rows
noncomputable def clOf(cells:List (Str×Addr)):List (Str×Z5)->List (Str×Addr)->List (Str×Addr)
 |[],acc=>acc
 |(n,k)::r,acc=>if k=.free then(match cells.lookup n with|some a=>clOf cells r ((n,a)::acc)|none=>clOf cells r acc)else clOf cells r acc
theorem WZ(cells:List (Str×Addr)):∀(names:List (Str×Z5)) (acc:List (Str×Addr)) (x:Str) (c:Addr),(clOf cells names acc).lookup x=some c->acc.lookup x=some c\/cells.lookup x=some c
 |[],acc,x,c,h=>.inl h
 |(n,k)::r,acc,x,c,h=>by
  unfold clOf at h;by_cases hk:k=.free
  ·rw[if_pos hk]at h;cases hc:cells.lookup n with
   |none=>rw[hc]at h;exact WZ cells r acc x c h
   |some a=>
    rw[hc]at h;rcases WZ cells r _ x c h with q|q
    ·by_cases hx:x=n
     ·subst hx;simp at q;subst q;exact .inr hc
     ·have hb:(x==n)=false:=beq_eq_false_iff_ne.mpr hx;simp only[Zj,hb]at q;exact .inl q
    ·exact .inr q
  ·rw[if_neg hk]at h;exact WZ cells r acc x c h
theorem Cv(cells:List (Str×Addr)):∀(names:List (Str×Z5)) (acc:List (Str×Addr)) (x:Str) (c:Addr),cells.lookup x=some c->acc.lookup x=some c->(clOf cells names acc).lookup x=some c
 |[],acc,x,c,_,h=>h
 |(n,k)::r,acc,x,c,h,ha=>by
  unfold clOf;by_cases hk:k=.free
  ·rw[if_pos hk];cases hc:cells.lookup n with
   |none=>exact Cv cells r acc x c h ha
   |some a=>
    refine Cv cells r _ x c h ?_;by_cases hx:x=n
    ·subst hx;rw[h]at hc;cases hc;simp
    ·have hb:(x==n)=false:=beq_eq_false_iff_ne.mpr hx;simp only[Zj,hb];exact ha
  ·rw[if_neg hk];exact Cv cells r acc x c h ha
theorem A0(cells:List (Str×Addr)):∀(names:List (Str×Z5)) (acc:List (Str×Addr)) (x:Str) (c:Addr),(x,Yj)∈names->cells.lookup x=some c->(clOf cells names acc).lookup x=some c
 |[],acc,x,c,h,_=>by cases h
 |(n,k)::r,acc,x,c,h,ha=>by
  unfold clOf;rcases Xl.mp h with e|h
  ·cases e;rw[if_pos rfl,ha];exact Cv cells r _ _ c ha (by simp)
  ·by_cases hk:k=.free
   ·rw[if_pos hk];cases hc:cells.lookup n with
    |none=>exact A0 cells r acc x c h ha
    |some a=>exact A0 cells r _ x c h ha
   ·rw[if_neg hk];exact A0 cells r acc x c h ha
theorem Ee(f:Str×Z5->List (Str×Addr)->Sem (ForInStep (List (Str×Addr))))
  (hf:∀n k r,f (n,k) r=if(k==Yj)=true then(cellOf env n >>= λa=>pure (Ck ((n,a)::r)))else pure (Ck r)):
  ∀(names:List (Str×Z5)) (acc:List (Str×Addr)),(∀y∈names,y.2=.free->∃c,env.cells.lookup y.1=some c)->(forIn names acc f:Sem (List (Str×Addr)))=pure (clOf env.cells names acc)
 |[],acc,_=>by rw[List.forIn_nil];rfl
 |(n,k)::r,acc,h=>by
  rw[List.forIn_cons,hf];have hr:∀y∈r,y.2=.free->∃c,env.cells.lookup y.1=some c:=λy hy=>h y (XS _ hy);by_cases hk:k=.free
  ·subst hk;obtain⟨c,hc⟩:=h (n,.free) Y8 rfl;have hc':env.cells.lookup n=some c:=hc;have e:cellOf env n=pure c:=by unfold cellOf;rw[hc']
   rw[if_pos (by decide),e,pure_bind,pure_bind]
   show forIn r ((n,c)::acc) f=_;rw[Ee f hf r _ hr];simp only[clOf,if_pos,hc']
  ·have hb:(k==Yj)=false:=by simpa using hk
   rw[hb,if_neg XE,pure_bind];show forIn r acc f=_;rw[Ee f hf r _ hr];simp only[clOf,if_neg hk]
theorem IJ(h:∀y∈scope.names,y.2=.free->∃c,env.cells.lookup y.1=some c):closureFor scope env=pure (clOf env.cells scope.names []):=by
 unfold closureFor;simp only[bind_pure];exact Ee _ (λn k r=>by
  by_cases hk:(k==Yj)=true
  ·simp only[hk,if_true]
  ·simp only[hk,if_false]) scope.names [] h
noncomputable def W0(osc scope:Scope)(N own:List Str)(fr:List Nat):Bool:=
 decide (scope.kind=.function)&&scope.names.all (λy=>decide (y.2≠.cell))&&scope.names.all (λy=>decide (y.2=.local->scope.names.lookup y.1=some .local))&&
 scope.names.all (λy=>decide (y.2=.free->osc.names.lookup y.1=some .cell\/osc.names.lookup y.1=some .free))&&
 fr.all (λi=>match N[i]? with|some x=>decide ((x,Yj)∈scope.names/\scope.names.lookup x=some .free/\(osc.names.lookup x=some .cell\/osc.names.lookup x=some .free))|none=>false)
structure CompOk (osc scope:Scope) (N:List Str) (fr:List Nat):Prop where
 kind:scope.kind=.function
 nocell:∀y∈scope.names,y.2≠.cell
 names:∀y∈scope.names,y.2=.local->scope.names.lookup y.1=some .local
 has:∀y∈scope.names,y.2=.free->osc.names.lookup y.1=some .cell\/osc.names.lookup y.1=some .free
 frees:∀i∈fr,∃x,N[i]?=some x/\(x,Yj)∈scope.names/\scope.names.lookup x=some .free/\(osc.names.lookup x=some .cell\/osc.names.lookup x=some .free)
theorem W3{osc scope:Scope}{N own:List Str}{fr:List Nat}(h:W0 osc scope N own fr=true):CompOk osc scope N fr:=by
 unfold W0 at h;simp only[XW,Wx,decide_eq_true_eq]at h;obtain⟨⟨⟨⟨h1,h2⟩,h3⟩,h4⟩,h5⟩:=h;refine⟨h1,h2,h3,h4,λi hi=>?_⟩;have q:=h5 i hi;cases e:N[i]? with
 |none=>rw[e]at q;simp at q
 |some x=>rw[e]at q;simp only[decide_eq_true_eq]at q;exact⟨x,rfl,q⟩
noncomputable def sC(own:List Str)(fr:List Nat)(σ:St):St:=own.map (λ_=>none)++fr.map (λi=>σ.getD i none)
def nC(own:List Str)(fr:List Nat)(N:List Str):List Str:=own++fr.map (λi=>N.getD i U1)
def cxC(X:Cx)(scope:Scope)(own:List Str)(fr:List Nat)(C:Addr)(fp:List Addr)(s₃:X2)(H₃:Hp):Cx:=
 {X with N:=nC own fr X.N,s₀:=s₃,H₀:=H₃,env:=compEnvC scope (clOf X.env.cells scope.names []) C X.env,outer:=X.stack,ex:=fp,fn:=λ_=>false,xe:=λ_ _=>False}
def Keep(σ σ':St):Prop:=σ.length=σ'.length/\∀(i:Nat) (v:V),σ[i]?=some (some v)->σ'[i]?=some (some v)
def tAll:TT:=λ_ H Q=>Q true H
def PTs(X:Cx)(ifs:List Expr)(t:TT):Prop:=(ifs=[]/\t=tAll)\/∃c,ifs=[c]/\PT X c t
section
variable{prog:Xv}{w:Xn}{A:XA}{R:Result->X2->Prop}{s:X2}
theorem _eK(I:Nat->X2->Prop)
  (turn:∀n s,I n s->X3 (X6 prog w) A (pyNext it) (λr s₁=>match r with
   |none=>R (.ok .next) s₁
   |some v=>X3 (X6 prog w) A (Bz target it v) (λ_ s₁'=>X3 (X6 prog w) A (assign target env v) (λ_ s₂=>
     X3 (X6 prog w) A (forIn ifs true λc r=>if r=true then do let ok<- isTrue c env (eval c env);pure (Ck ok)else pure (Ck r)) (λok s₃=>
      if ok=true then X3 (X6 prog w) A (eval elt env) (λx s₄=>
       X3 (X6 prog w) A (call (.builtin "list.append") [acc,x]) (fun _ s₅=>∃m,m<n/\I m s₅) (fun _ _=>False) s₄) (fun _ _=>False) s₃
      else∃m,m<n/\I m s₃) (λ_ _=>False) s₂) (λ_ _=>False) s₁') (λ_ _=>False) s₁) (λ_ _=>False) s)
  (n:Nat) (h:I n s):
  YU (X6 prog w) A (.compLoop (.ListComp elt [⟨target,iter,ifs,0⟩] scope pos) 0 it acc env) R s:=by
 refine codeAny_loop rfl I (λn s hI=>?_) n h;show X3 _ A ((compTurn (.ListComp elt [⟨target,iter,ifs,0⟩] scope pos) 0 it acc env).onRaise (λx=>do noteFrame x env;theTreesLotGoes x)) _ _ s
 refine wpAny_noted ?_;rw[compTurn_list];refine X1 (wpAny_standAt (X1 (Zu (turn n s hI) (λr s₁ h₁=>?_) λ_ _ h'=>h'.elim)));cases r with
 |none=>exact X8 h₁
 |some v=>
  refine X1 (Zu h₁ (λ_ s₁' h₁'=>?_) λ_ _ h'=>h'.elim);refine X1 (Zu h₁' (λ_ s₂ h₂=>X1 (Zu h₂ (λok s₃ h₃=>?_) λ_ _ h'=>h'.elim)) λ_ _ h'=>h'.elim);cases ok with
  |false=>exact X8 ⟨rfl,h₃⟩
  |true=>
   exact X1 (X1 (Zu h₃ (λx s₄ h₄=>X1 (Zu h₄ (λ_ s₅ h₅=>X8 (X8 ⟨rfl,h₅⟩)) λ_ _ h'=>h'.elim)) λ_ _ h'=>h'.elim))
end
theorem _qc(h:Q true H):tAll σ H Q:=h
section
variable{X:Cx}{pins:List (Addr×Obj)}{σ:St}{H1:Hp}{s2:X2}{tg elt iter:Expr}{ifs:List Expr}{scope:Scope}{pos:Pos}{own:List Str}{fr:List Nat}{g:TG}{tt:TT}{te:TE}
theorem IK{scope:Scope}{env:Env}{x:Str}:∀{names:List (Str×Z5)},names.lookup x=some .free->
  (names.map fun(n,k)=>if(k==Yj&&env.scope.kind==.function&&env.kindOf n==some .cell)then(n,VP)else(n,k)).lookup x=some .cell\/
  (names.map fun(n,k)=>if(k==Yj&&env.scope.kind==.function&&env.kindOf n==some .cell)then(n,VP)else(n,k)).lookup x=some .free
 |[],h=>by simp at h
 |(n,k)::r,h=>by
  have ih:=@IK scope env x r;show ZV x ((if(k==Yj&&env.scope.kind==.function&&env.kindOf n==some .cell)=true then(n,VP)else(n,k))::_)=_\/ZV x ((if(k==Yj&&env.scope.kind==.function&&env.kindOf n==some .cell)=true then(n,VP)else(n,k))::_)=_;cases hx:x==n with
  |true=>
   simp only[Zj,hx]at h;cases h;by_cases hc:(Yj==Yj&&env.scope.kind==.function&&env.kindOf n==some .cell)=true
   ·rw[if_pos hc];simp only[Zj,hx];exact .inl trivial
   ·rw[if_neg hc];simp only[Zj,hx];exact .inr trivial
  |false=>
   simp only[Zj,hx]at h;by_cases hc:(k==Yj&&env.scope.kind==.function&&env.kindOf n==some .cell)=true
   ·rw[if_pos hc];simp only[Zj,hx];exact ih h
   ·rw[if_neg hc];simp only[Zj,hx];exact ih h
theorem IL{scope:Scope}{env:Env}(hn:∀y∈scope.names,y.2≠.cell){x:Str}:∀{names:List (Str×Z5)},(∀y∈names,y.2≠.cell)->
  ((names.map fun(n,k)=>if(k==Yj&&env.scope.kind==.function&&env.kindOf n==some .cell)then(n,VP)else(n,k)).lookup x=some .cell\/
  (names.map fun(n,k)=>if(k==Yj&&env.scope.kind==.function&&env.kindOf n==some .cell)then(n,VP)else(n,k)).lookup x=some .free)->(x,Yj)∈names
 |[],_,h=>by simp at h
 |(n,k)::r,hnc,h=>by
  have ih:=@IL scope env hn x r (λy hy=>hnc y (XS _ hy));have hk:k≠.cell:=hnc (n,k) Y8;simp only[Xx]at h;cases hx:x==n with
  |true=>
   have e:x=n:=eq_of_beq hx;subst e;by_cases hc:(k==Yj&&env.scope.kind==.function&&env.kindOf x==some .cell)=true
   ·have:k=.free:=by
     simp only[XW,beq_iff_eq]at hc;exact hc.1.1
    subst this;exact Y8
   ·rw[if_neg hc]at h;simp at h;rcases h with h|h
    ·exact absurd h hk
    ·subst h;exact Y8
  |false=>
   by_cases hc:(k==Yj&&env.scope.kind==.function&&env.kindOf n==some .cell)=true
   ·rw[if_pos hc]at h;simp only[Zj,hx]at h;exact XS _ (ih h)
   ·rw[if_neg hc]at h;simp only[Zj,hx]at h;exact XS _ (ih h)
theorem _ho(ok:CompOk X.env.scope scope X.N fr)(I3:Inv X pins σ H3 s3)(hC:C=s3.heap.objs.size)(hf:∀b∈fp,FpOk X pins H3 b)(hfo:∀b∈fp,∃o,s3.heap.get? b=some o)
  (ns:h4.Ns C m) (kp:∀b o,s3.heap.get? b=some o->h4.get? b=some o):
  Inv (cxC X scope own fr C fp s3 H3) pins (sC own fr σ) H3 {s3 with heap:=h4,toks:=tk}:=by
 have cellsub:∀x c,(clOf X.env.cells scope.names []).lookup x=some c->X.env.cells.lookup x=some c:=λx c h=>(WZ _ _ _ _ _ h).elim (λz=>by simp at z) id
 have cellt:∀x c,X.env.cells.lookup x=some c->c<s3.heap.objs.size:=λx c e=>let⟨v,q⟩:=I3.cell x c e;q.lt
 have fplt:∀b∈fp,b<s3.heap.objs.size:=λb hb=>let⟨o,e⟩:=hfo b hb;Xu e
 have kindOf_of:∀x,(X.env.scope.names.lookup x=some .cell\/X.env.scope.names.lookup x=some .free)->∃c,X.env.cells.lookup x=some c:=λx h=>I3.ok.has x h;refine⟨⟨I3.ok.mod,ok.kind,I3.ok.glob,I3.ok.blt,WG hC.symm,λx y c h1 h2=>I3.ok.inj x y c (cellsub x c h1) (cellsub y c h2),λx hx=>?_,λx c z=>?_,I3.ok.hd,I3.ok.frames,.inl rfl,λb hb=>⟨?_,λx c e=>?_⟩,λb o e=>I3.bs b o e,Y2 I3.ok.bsz I3.sz,λb o e hb=>?_,λb hb hz=>?_,I3.stack,λb hb=>I3.stkFree b hb⟩,
  rfl,I3.bare,Un.kept kp,⟨m,ns,λi x v e1 e2 e3=>?_⟩,λx c e=>?_,?_,λx c e=>I3.freeC x c (cellsub x c e),λp hp=>?_,I3.hok.kept kp,?_⟩
 · -- has
  have hm:(x,Yj)∈scope.names:=IL (scope:=scope) (env:=X.env) ok.nocell ok.nocell hx;obtain⟨c,hc⟩:=kindOf_of x (ok.has _ hm rfl);exact⟨c,A0 _ _ _ _ _ hm hc⟩
 ·exact absurd z XE
 ·exact Xz (by rw[hC];exact fplt b hb)
 ·exact(hf b hb).2.2.2.2.1 x c (cellsub x c e)
 ·rcases(hf b hb).2.2.2.1 with z|z
  ·exact I3.ok.noex b o e z
  ·exact absurd (Yy (Xu e) (Y2 I3.ok.bsz z)) (ZY _)
 ·rcases Xl.mp (I3.stkSub b hz)with z|z
  ·exact(hf b hb).2.1 z
  ·exact(hf b hb).2.2.1 z
 · -- a free name's value
  have e2':(own.map (λ_=>(none:Option V))++fr.map (λi=>σ.getD i none))[i]?=some (some v):=e2;have e1':(own++fr.map (λi=>X.N.getD i U1))[i]?=some x:=e1;by_cases hi:i<own.length
  ·rw[Zz (by simpa using hi),Xr]at e2'
   cases q:own[i]? with
   |none=>rw[q]at e2';cases e2'
   |some z=>rw[q]at e2';cases e2'
  ·rw[Zh (by simpa using hi)]at e2'
   rw[Zh (by simpa using hi)]at e1'
   simp only[Xc]at e2';rw[Xr]at e1' e2';cases q:fr[i - own.length]? with
   |none=>rw[q]at e2';cases e2'
   |some j=>
    rw[q]at e1' e2';obtain⟨y,hy,hm,hl,ho⟩:=ok.frees j (Xw q);have ex:x=y:=by
     have:X.N.getD j U1=y:=by rw[Ym,hy];rfl
     simp only[Cj,this,C5]at e1';exact e1'.symm
    subst ex;have ev:σ[j]?=some (some v):=by
     simp only[Cj,C5]at e2';rw[Ym]at e2';cases z:σ[j]? with
     |none=>rw[z]at e2';cases e2'
     |some o=>rw[z]at e2';cases e2';rfl
    obtain⟨m0,hn0,hl0⟩:=I3.loc;obtain⟨u,ru,lk⟩:=hl0 j x v hy ev (.inr ho);refine⟨u,ru,.inr ⟨IK (scope:=scope) hl,?_⟩⟩;rcases lk with⟨k1,_⟩|⟨_,c,hc,z⟩
    ·have k1':X.env.scope.names.lookup x=some .local:=k1;rw[k1']at ho;rcases ho with z|z<;>cases z
    ·exact⟨c,A0 _ _ _ _ _ hm hc,z.keeps kp⟩
 ·obtain⟨v,z⟩:=I3.cell x c (cellsub x c e);exact⟨v,z.keeps kp⟩
 ·show H3 C=none;exact I3.hok.fresh (WG hC.symm)
 ·obtain⟨e,n,ne,nf,d⟩:=I3.pin p hp;refine⟨kp _ _ e,n,Xz (by rw[hC];exact Xu e),λz=>?_,d⟩
  rcases Xl.mp (I3.stkSub p.1 z)with z|z
  ·exact ne z
  ·exact nf z
 ·show(own.map (λ_=>(none:Option V))++fr.map (λi=>σ.getD i none)).length=(own++fr.map (λi=>X.N.getD i U1)).length;simp
end
section
variable{X:Cx}
end
theorem Cw(ns:List Int):(Xs ns.length).map (λi=>ns.getD i 0)=ns:=by
 apply BP
 ·simp
 ·intro i h1 h2;simp[h2]
section
variable{X:Cx}
end
section
variable{X:Cx}
end
section
variable{X:Cx}
theorem _fn(hz:z.length≤16)(h0:-1000≤i)(h1:i≤1000):MulOk z i:=by
 refine⟨?_,λh2 _=>?_,λh2 _=>?_⟩
 ·rw[decide_eq_false (by lia),decide_eq_false (by lia)];rfl
 ·have hi:1≤i:=by lia
  have:(16:Int)≤(2^63 - 1)/i:=by
   rw[Int.le_ediv_iff_mul_le (by lia)]
   lia
  lia
 ·have:z.length*i.toNat≤16*1000:=Nat.mul_le_mul hz (by lia)
  have h3:z.length*i.toNat<2^20:=by lia
  generalize z.length*i.toNat=n at h3;revert n;intro n hn;have hs:sizeLine=16777216:=by decide
  show decide (n>sizeLine)=false;rw[hs];exact decide_eq_false (by lia)
theorem _mX:OpR X (Yg .Mult) (λx y H Q=>∃z i,x=.str z/\y=.int i/\z.length≤16/\ -1000≤i/\i≤1000/\Q (.str (Txt.mul z i)) H):=by
 intro pins s σ H x y v u Q I rx ry h;obtain⟨z,i,rfl,rfl,hz,h0,h1,q⟩:=h;obtain⟨t,rfl⟩:=rx;obtain⟨t',rfl⟩:=ry;exact SB.mul (_fn hz h0 h1) (λt' k=>⟨.str (Txt.mul z i),H,I.tok _,⟨_,rfl⟩,q⟩)
theorem IM(x:Array Nat):∀(k:Nat) (acc:Array Nat),((Xj k x).foldl (·++·) acc).size=acc.size+k*x.size
 |0,acc=>by simp
 |k+1,acc=>by
  rw[Z8,VE,IM x k,Array.size_append,Nat.succ_mul];lia
theorem _nc(z:Str)(i:Int):(Txt.mul z i).length=i.toNat*z.length:=by
 unfold Txt.mul;by_cases h:i<1
 ·rw[if_pos h];have:i.toNat=0:=by lia
  rw[this,Nat.zero_mul]
  rfl
 rw[if_neg h];by_cases h2:(i==1||z.length==0)=true
 ·rw[if_pos h2];rcases(DL _ _).mp h2 with e|e
  ·have:i=1:=by simpa using e
   subst this;simp
  ·have:z.length=0:=by simpa using e
   rw[this,Nat.mul_zero]
 ·rw[if_neg h2];have e:=IM z.cps i.toNat #[];show((Xj i.toNat z.cps).foldl (·++·) #[]).size=_;rw[e];show 0+_=_;rw[Nat.zero_add]
  rfl
theorem Cy{z:Str}{i:Int}(m:Nat)(h:i≤m)(hz:z.length≤1):(Txt.mul z i).length≤m:=by
 rw[_nc];have:i.toNat*z.length≤i.toNat*1:=Nat.mul_le_mul_left _ hz;lia
theorem _ky(hu:X.A.units<cLine):OpR X (Y0 .Eq) (λx y H Q=>∃a b xs,x=.ref a/\y=.ref b/\SqL X.K H a xs/\SqL X.K H b []/\Q (.bl xs.isEmpty) H):=by
 intro pins s σ H x y v u Q I rx ry h;obtain⟨a,b,xs,rfl,rfl,ha,hb,q⟩:=h;cases rx;cases ry;obtain⟨its,rv,pl,hz⟩:=I.list ha;obtain⟨jts,rw',pl',_⟩:=I.list hb;have hj:jts=[]:=BH rw'.length.symm;subst hj;cases xs with
 |nil=>
  have hi:its=[]:=BH rv.length.symm;subst hi;exact SeqAt.eq_listAt (e:=λ_=>true) pl.isList pl'.isList rfl hu (λj h1 _=>absurd h1 (WF j)) (XH I q rfl)
 |cons x r=>
  have hl:its.length=r.length+1:=by rw[<- rv.length];rfl
  exact SeqAt.eq_list_lengthsAt pl.isList pl'.isList (by simp;intro e;rw[e]at hl;simp at hl) hu (XH I q rfl)
theorem _kw(hu:X.A.units<cLine):OpR X (Y0 .NotEq) (λx y H Q=>∃a b xs,x=.ref a/\y=.ref b/\SqL X.K H a xs/\SqL X.K H b []/\Q (.bl (!xs.isEmpty)) H):=by
 intro pins s σ H x y v u Q I rx ry h;obtain⟨a,b,xs,rfl,rfl,ha,hb,q⟩:=h;cases rx;cases ry;obtain⟨its,rv,pl,hz⟩:=I.list ha;obtain⟨jts,rw',pl',_⟩:=I.list hb;have hj:jts=[]:=BH rw'.length.symm;subst hj;cases xs with
 |nil=>
  have hi:its=[]:=BH rv.length.symm;subst hi;exact SeqAt.RcNeAt.lists (e:=λ_=>true) pl.isList pl'.isList rfl hu (λj h1 _=>absurd h1 (WF j)) X.prog X.w _ _ (XH I q rfl)
 |cons x r=>
  have hl:its.length=r.length+1:=by rw[<- rv.length];rfl
  exact SeqAt.RcNeAt.lists_lengths pl.isList pl'.isList (by simp;intro e;rw[e]at hl;simp at hl) hu X.prog X.w _ _ (XH I q rfl)
end
open AutoSeq1 (wpAny_loadPart')
open MeetsSeq MeetsSeq2 MeetsSeq3 SeqRoads2
def AliP(P:Xv)(w:Xn)(A:XA)(s:X2)(y x:X0):Prop:=∀(E:X0->X2->Prop) (Q:Bool->X2->Prop),Q true s->X3 (X6 P w) A (eqBool y x) Q E s
def RcP(P:Xv)(w:Xn)(A:XA)(s:X2)(y x:X0):Prop:=∀(E Q:X0->X2->Prop),Q (.bool true) s->X3 (X6 P w) A (richCompare .Eq y x) Q E s
def RnP(P:Xv)(w:Xn)(A:XA)(s:X2)(y x:X0):Prop:=∀(E Q:X0->X2->Prop),Q (.bool false) s->X3 (X6 P w) A (richCompare .NotEq y x) Q E s
section
variable{P:Xv}{w:Xn}{A:XA}{s:X2}{a b:Addr}{xs ys:Array X0}
theorem AliP.of_at(h:SeqAt.EqAt A s y x true):AliP P w A s y x:=λE Q q=>h P w E Q q
theorem AliP.refs(h:RcP P w A s (.ref a) (.ref b)):AliP P w A s (.ref a) (.ref b):=by
 intro E Q q;by_cases e:a=b
 ·subst e;exact SeqAt.EqAt.same _ P w E Q q
 ·unfold eqBool;refine YM (wpAny_ite_split (λz=>absurd (by injection (eq_of_beq z)) e) λ_=>?_)
  exact X1 (h E _ (Zv q))
theorem _oD(ha:s.heap.IsTuple a xs)(hb:s.heap.IsTuple b ys)(hz:xs.size=ys.size)(hu:A.units<cLine)(he:∀p∈xs.toList.zip ys.toList,AliP P w A.in1 s p.1 p.2):RcP P w A s (.ref a) (.ref b):=by
 intro E Q q;obtain⟨⟨c1,d1,t1,l1⟩,o1,k1,n1,e1⟩:=id ha;obtain⟨⟨c2,d2,t2,l2⟩,o2,k2,n2,e2⟩:=id hb;dsimp only at k1 e1 k2 e2;subst k1 e1 k2 e2;refine Vu (op:=.Eq) ⟨_,o1,rfl⟩ ⟨_,o2,rfl⟩ F.slot_tuple_eq (Zf F.slot_tuple_eq ⟨_,o1,rfl⟩ F.entry_tuple_eq ?_ (F.args_tuple_eq_2 _ _)) hu;obtain⟨h0,g0,dd,tk,os⟩:=s;have f2:=Hi
 wp_walk using Yb o1,Yb o2,wpAny_forIn_list _ (λrest r s'=>r.1=none/\s'=⟨h0,g0,dd,tk,os⟩/\∀p∈rest,AliP P w A.in1 ⟨h0,g0,dd,tk,os⟩ p.1 p.2) _
 case turn=>
  rintro⟨y,x⟩ rest r s' ⟨z1,rfl,m⟩;refine X1 (m (y,x) Y8 _ _ ?_)
  wp_walk
  exact⟨rfl,rfl,λp hp=>m p (XS _ hp)⟩
 case fin=>
  rintro⟨r1,r2⟩ s' ⟨z1,rfl,-⟩;dsimp only at z1;subst z1
  wp_walk
  have tc:C7 .Eq xs.size ys.size=.bool true:=by simp[C7,hz]
  rw[tc];exact⟨_,rfl,(λz=>nomatch z),q⟩
 case h=>exact⟨rfl,rfl,he⟩
theorem _kY(hz:xs.size=ys.size)
  (o1:s.heap.get? a=some {cls:=.type "list",dict:=d1,data:=.seq xs n1,slots:=l1}) (o2:s.heap.get? b=some {cls:=.type "list",dict:=d2,data:=.seq ys n2,slots:=l2})
  (he:∀j (h1:j<xs.size) (h2:j<ys.size),AliP P w A.in1 s xs[j] ys[j]) (q:R (.ok (.ret (.bool true))) s):∀k i:Nat,xs.size - i=k->
  X3 (X6 P w) A.in1 (Builtin.«list.__eq__.loop» ⟨[.ref a,.ref b,Y6 i,Y6 2],[]⟩) (λfin s'=>match fin with|.done f=>R (.ok f) s'|.again c'=>c'.quiet=true/\YU (X6 P w) A c' R s') (λe s'=>R (.error e) s') s:=by
 obtain⟨h0,g0,dd,tk,os⟩:=s;intro k
 induction k with
 |zero=>
  intro i hk
  wp_walk using Yb o1,Yb o2
  rw[show xs[((i:Nat):Int).toNat]?=none by simp;lia,show ys[((i:Nat):Int).toNat]?=none by simp;lia]
  wp_walk using Yb o1,Yb o2
  show R (.ok (.ret (.bool (xs.size==ys.size)))) _
  simpa [hz]using q
 |succ k ih=>
  intro i hk;have h1:i<xs.size:=by lia
  have h2:i<ys.size:=by lia
  wp_walk using Yb o1,Yb o2
  rw[show xs[((i:Nat):Int).toNat]?=some xs[i] by simp[h1],show ys[((i:Nat):Int).toNat]?=some ys[i] by simp[h2]]
  refine X1 (he i h1 h2 _ _ ?_)
  wp_walk
  rw[show((i:Int)+1)=((i+1:Nat):Int) by push_cast;rfl]
  refine⟨Zg plain_eq_loop _,Z6 entry_eq_loop ?_⟩;rw[Zo plain_eq_loop _];exact ih (i+1) (by lia)
theorem _oE(ha:s.heap.IsList a xs)(hb:s.heap.IsList b ys)(hz:xs.size=ys.size)(hu:A.units<cLine)(he:∀j (h1:j<xs.size) (h2:j<ys.size),AliP P w A.in1 s xs[j] ys[j]):RcP P w A s (.ref a) (.ref b):=by
 intro E Q q;obtain⟨⟨c1,d1,t1,l1⟩,o1,k1,n1,e1⟩:=id ha;obtain⟨⟨c2,d2,t2,l2⟩,o2,k2,n2,e2⟩:=id hb;dsimp only at k1 e1 k2 e2;subst k1 e1 k2 e2;have t1:s.TypeIs (.ref a) "list":=⟨_,o1,rfl⟩;refine Vu (op:=.Eq) t1 ⟨_,o2,rfl⟩ DT (wpAny_call (Wq DT.plain F.entry_list_eq (DT.check _ _ _ _ _ _ _ _ t1 (F.args_list_eq_2 _ _) ?_))) hu;obtain⟨h0,g0,dd,tk,os⟩:=s;have f3:=Hj;have nz:¬(xs.size != ys.size)=true:=by simp[hz]
 wp_walk using Yb o1,Yb o2
 refine⟨Zg plain_eq_loop _,Z6 entry_eq_loop ?_⟩;rw[Zo plain_eq_loop _];exact _kY (R:=wants (λv s'=>v≠.notImplemented/\Q v s') E) hz o1 o2 he (show Y9 true≠.notImplemented/\Q (.bool true) _ from⟨(λz=>nomatch z),q⟩) _ 0 rfl
theorem _n8(ha:s.heap.IsTuple a xs)(hb:s.heap.IsTuple b ys)(hz:xs.size=ys.size)(hu:A.units<cLine)(he:∀p∈xs.toList.zip ys.toList,AliP P w A.in1 s p.1 p.2):RnP P w A s (.ref a) (.ref b):=by
 intro E Q q;obtain⟨⟨c1,d1,t1,l1⟩,o1,k1,n1,e1⟩:=id ha;obtain⟨⟨c2,d2,t2,l2⟩,o2,k2,n2,e2⟩:=id hb;dsimp only at k1 e1 k2 e2;subst k1 e1 k2 e2;refine Vu (op:=.NotEq) ⟨_,o1,rfl⟩ ⟨_,o2,rfl⟩ F.slot_tuple_ne (Zf F.slot_tuple_ne ⟨_,o1,rfl⟩ F.entry_tuple_ne ?_ (F.args_tuple_ne_2 _ _)) hu;obtain⟨h0,g0,dd,tk,os⟩:=s;have f2:=Hi
 wp_walk using Yb o1,Yb o2,wpAny_forIn_list _ (λrest r s'=>r.1=none/\s'=⟨h0,g0,dd,tk,os⟩/\∀p∈rest,AliP P w A.in1 ⟨h0,g0,dd,tk,os⟩ p.1 p.2) _
 case turn=>
  rintro⟨y,x⟩ rest r s' ⟨z1,rfl,m⟩;refine X1 (m (y,x) Y8 _ _ ?_)
  wp_walk
  exact⟨rfl,rfl,λp hp=>m p (XS _ hp)⟩
 case fin=>
  rintro⟨r1,r2⟩ s' ⟨z1,rfl,-⟩;dsimp only at z1;subst z1
  wp_walk
  have tc:C7 .NotEq xs.size ys.size=.bool false:=by simp[C7,hz]
  rw[tc];exact⟨_,rfl,(λz=>nomatch z),q⟩
 case h=>exact⟨rfl,rfl,he⟩
theorem _kD(hz:xs.size=ys.size)
  (o1:s.heap.get? a=some {cls:=.type "list",dict:=d1,data:=.seq xs n1,slots:=l1}) (o2:s.heap.get? b=some {cls:=.type "list",dict:=d2,data:=.seq ys n2,slots:=l2})
  (he:∀j (h1:j<xs.size) (h2:j<ys.size),AliP P w A.in1 s xs[j] ys[j]) (q:R (.ok (.ret (.bool false))) s):∀k i:Nat,xs.size - i=k->
  X3 (X6 P w) A.in1 (Builtin.«list.__eq__.loop» ⟨[.ref a,.ref b,Y6 i,Y6 3],[]⟩) (λfin s'=>match fin with|.done f=>R (.ok f) s'|.again c'=>c'.quiet=true/\YU (X6 P w) A c' R s') (λe s'=>R (.error e) s') s:=by
 obtain⟨h0,g0,dd,tk,os⟩:=s;intro k
 induction k with
 |zero=>
  intro i hk
  wp_walk using Yb o1,Yb o2
  rw[show xs[((i:Nat):Int).toNat]?=none by simp;lia,show ys[((i:Nat):Int).toNat]?=none by simp;lia]
  wp_walk using Yb o1,Yb o2
  show R (.ok (.ret (.bool (xs.size != ys.size)))) _
  simpa [hz]using q
 |succ k ih=>
  intro i hk;have h1:i<xs.size:=by lia
  have h2:i<ys.size:=by lia
  wp_walk using Yb o1,Yb o2
  rw[show xs[((i:Nat):Int).toNat]?=some xs[i] by simp[h1],show ys[((i:Nat):Int).toNat]?=some ys[i] by simp[h2]]
  refine X1 (he i h1 h2 _ _ ?_)
  wp_walk
  rw[show((i:Int)+1)=((i+1:Nat):Int) by push_cast;rfl]
  refine⟨Zg plain_eq_loop _,Z6 entry_eq_loop ?_⟩;rw[Zo plain_eq_loop _];exact ih (i+1) (by lia)
theorem _n9(ha:s.heap.IsList a xs)(hb:s.heap.IsList b ys)(hz:xs.size=ys.size)(hu:A.units<cLine)(he:∀j (h1:j<xs.size) (h2:j<ys.size),AliP P w A.in1 s xs[j] ys[j]):RnP P w A s (.ref a) (.ref b):=by
 intro E Q q;obtain⟨⟨c1,d1,t1,l1⟩,o1,k1,n1,e1⟩:=id ha;obtain⟨⟨c2,d2,t2,l2⟩,o2,k2,n2,e2⟩:=id hb;dsimp only at k1 e1 k2 e2;subst k1 e1 k2 e2;have t1:s.TypeIs (.ref a) "list":=⟨_,o1,rfl⟩;refine Vu (op:=.NotEq) t1 ⟨_,o2,rfl⟩ DU (wpAny_call (Wq DU.plain F.entry_list_ne (DU.check _ _ _ _ _ _ _ _ t1 (F.args_list_ne_2 _ _) ?_))) hu;obtain⟨h0,g0,dd,tk,os⟩:=s;have f3:=Hj;have nz:¬(xs.size != ys.size)=true:=by simp[hz]
 wp_walk using Yb o1,Yb o2
 refine⟨Zg plain_eq_loop _,Z6 entry_eq_loop ?_⟩;rw[Zo plain_eq_loop _];exact _kD (R:=wants (λv s'=>v≠.notImplemented/\Q v s') E) hz o1 o2 he (show Y9 false≠.notImplemented/\Q (.bool false) _ from⟨(λz=>nomatch z),q⟩) _ 0 rfl
theorem IN{K:Type} [DecidableEq K] {knd:KeyKind P w K}{nm:String}{ka kb:List (K×X0)}{E:X0->X2->Prop}{Q:Bool->X2->Prop}(na:(a==YL)=false)(nb:(b==YL)=false)
  (da:s.heap.DictOf knd a ka) (db:s.heap.DictOf knd b kb) (hz:ka.length=kb.length) (he:∀p∈ka,∃y,Z1 kb p.1=some y/\AliP P w A s p.2 y) (q:Q true s):
  X3 (X6 P w) A (Hn nm a b) Q E s:=by
 obtain⟨oa,ea,pa,o1,_,t1,k1,v1,_⟩:=da;obtain⟨ob,eb,pb,o2,_,t2,k2,v2,_⟩:=db;have za:ka.length=ea.size:=v1.length.symm.trans Yq;have zb:kb.length=eb.size:=v2.length.symm.trans Yq;have fd:∀k,findBy knd.is eb k=Z1 kb k:=by
  intro k;rw[<- v2.find k];clear zb v2 k2 t2 o2;obtain⟨l⟩:=eb;simp[findBy]
 have zz:ea.size=eb.size:=by lia
 unfold Hn Builtin.Dict.showsAll;rw[na,nb];refine X1 (X8 (X1 (X8 (X1 (BD o1 t1 ?_)))));dsimp only;refine X1 (BD o2 t2 ?_);rw[if_neg (by simp[zz])]
 refine X1 (wpAny_dictEpoch o1 t1 (X1 ?_));rw[Std.Legacy.Range.forIn_eq_forIn_range'];simp only[Std.Legacy.Range.size,Nat.sub_zero,Nat.add_sub_cancel,Nat.div_one];refine wpAny_forIn_list _ (λrest r s'=>s'=s/\r=(none,())/\∀i∈rest,i<ea.size) _ ?_ ?_ _ _ ⟨rfl,rfl,λi hi=>by simpa using hi⟩
 ·rintro i rest r s' ⟨rfl,rfl,m⟩;have lt:i<ea.size:=m i Y8;have lt':i<ka.length:=by lia
  refine X1 (BD o1 t1 ?_);rw[V7 lt];obtain⟨key,val⟩:=v1.get? (i:=i) (e:=ea[i]) (k:=ka[i].1) (v:=ka[i].2) (by rw[Hc];exact V7 lt) (Xa lt')
  obtain⟨k',i',hh⟩:=k1 ea[i] (Array.getElem_mem lt);obtain rfl:k'=ka[i].1:=knd.inj _ _ _ i' key;obtain⟨y,fy,al⟩:=he ka[i] (XU lt');show X3 _ _ (Z3 [ea[i].key,ea[i].val] _ >>= _) _ _ _;rw[hh];refine X1 (YM (X1 (wpAny_dictFind_of key o2 t2 k2 ?_)));have fy':=fy;rw[<- fd,findBy_of_findIdx?]at fy';cases hj:eb.findIdx? λe=>knd.is ka[i].1 e.key with
  |none=>rw[hj]at fy';cases fy'
  |some j=>
   rw[hj]at fy';obtain⟨jl,_,_⟩:=Array.findIdx?_eq_some_iff_getElem.mp hj;refine X1 (BD o2 t2 ?_);rw[V7 jl];have ey:eb[j].val=y:=by simpa [V7 jl]using fy'
   rw[<- ey,<- val]at al;refine YM (al _ _ ?_);show X3 _ _ (if(!true)=true then _ else _) _ _ _;rw[if_neg (show¬(!true)=true from XE)];refine X1 (wpAny_dictEpoch o1 t1 ?_);rw[if_neg (by simp)]
   exact X8 ⟨rfl,rfl,λz hz=>m z (XS _ hz)⟩
 ·rintro r s' ⟨rfl,rfl,-⟩;exact X8 q
theorem _oF{K:Type} [DecidableEq K] {knd:KeyKind P w K}{ka kb:List (K×X0)}(na:(a==YL)=false)(nb:(b==YL)=false)
  (da:s.heap.DictOf knd a ka) (db:s.heap.DictOf knd b kb) (hu:A.units<cLine) (hz:ka.length=kb.length) (he:∀p∈ka,∃y,Z1 kb p.1=some y/\AliP P w A.in1 s p.2 y):RcP P w A s (.ref a) (.ref b):=by
 intro E Q q;refine Vu (op:=.Eq) da.typeIs db.typeIs Hx (Zf Hx da.typeIs PySem.F.entry_dict_eq ?_ (PySem.F.args_dict_eq_2 _ _)) hu;show X3 _ _ (Cb "__eq__" ⟨[.ref a,.ref b],[]⟩>>= _) _ _ s;refine X1 ?_;unfold Cb;refine X1 (BE da.typeIs (X8 (X1 (UC (T:="dict") db.typeIs Hv ?_))));rw[if_neg (by decide)]
 refine X1 (X8 (X1 (X8 (X1 (IN na nb da db hz he ?_)))));exact X8 ⟨_,rfl,(λz=>nomatch z),q⟩
theorem _na{K:Type} [DecidableEq K] {knd:KeyKind P w K}{ka kb:List (K×X0)}(na:(a==YL)=false)(nb:(b==YL)=false)
  (da:s.heap.DictOf knd a ka) (db:s.heap.DictOf knd b kb) (hu:A.units<cLine) (hz:ka.length=kb.length) (he:∀p∈ka,∃y,Z1 kb p.1=some y/\AliP P w A.in1 s p.2 y):RnP P w A s (.ref a) (.ref b):=by
 intro E Q q;refine Vu (op:=.NotEq) da.typeIs db.typeIs Hy (Zf Hy da.typeIs PySem.F.entry_dict_ne ?_ (PySem.F.args_dict_ne_2 _ _)) hu;show X3 _ _ (Cb "__ne__" ⟨[.ref a,.ref b],[]⟩>>= _) _ _ s;refine X1 ?_;unfold Cb;refine X1 (BE da.typeIs (X8 (X1 (UC (T:="dict") db.typeIs Hv ?_))));rw[if_neg (by decide)]
 refine X1 (X8 (X1 (X8 (X1 (IN na nb da db hz he ?_)))));exact X8 ⟨_,rfl,(λz=>nomatch z),q⟩
end
section
variable{X:Cx}
end
end L2
namespace L2
open PySem PySem.Spec PyProof.Rows
theorem _af:fillsNumberSlot (.type "tuple") "mul"=pure false:=
 PySem.fillsNumberSlot_seq (id:="tuple.__mul__") (r:=some (.builtin "tuple.__rmul__")) Cf.lookup (by decide+kernel) Hs.lookup (by decide+kernel)
theorem _eb:seqRepeat? (.type "tuple")=pure (some (.builtin "tuple.__mul__")):=by
 unfold seqRepeat?;rw[PySem.seqSlot_of (T:="tuple") (name:="__mul__") (id:="tuple.__mul__") Cf.lookup (by decide+kernel),PySem.seqSlot_of (T:="tuple") (name:="__rmul__") (id:="tuple.__rmul__") Hs.lookup (by decide+kernel)]
 rfl
theorem _eC(a:Int)(t:Tok)(l:Addr)(items:Array X0)(n:Nat)(dd:Option Addr)(sl:Array (Option X0)):
  Meets (Builtin.«int.__rmul__» ⟨[.int a t,.ref l],[]⟩) (fun _ R s=>s.heap.get? l=some {cls:=.type "tuple",dict:=dd,data:=.seq items n,slots:=sl}/\R (.ok (.ret Value.notImplemented)) s):=
 .of_wp λprog w A R s h=>by obtain⟨hp,g,d,tk,os⟩:=s;obtain⟨hl,h⟩:=h;wp_walk;exact⟨_,rfl,h⟩
theorem _jY(l:Addr)(items:Array X0)(n:Nat)(dd:Option Addr)(sl:Array (Option X0))(u:Tok):
  Meets (Builtin.«tuple.__mul__» ⟨[.ref l,.int 1 u],[]⟩) (fun _ R s=>s.heap.get? l=some {cls:=.type "tuple",dict:=dd,data:=.seq items n,slots:=sl}/\R (.ok (.ret (Xo l))) s):=
 .of_wp λprog w A R s h=>by
  obtain⟨hp,g,d,tk,os⟩:=s;obtain⟨hl,h⟩:=h;have f1:=Hk;have c:(items.isEmpty||(1:Int)==1)=true:=by simp
  wp_walk using C9 hl;exact⟨_,rfl,h⟩
theorem _jX(l:Addr)(items:Array X0)(n:Nat)(dd:Option Addr)(sl:Array (Option X0))(k:Int)(u:Tok)(h2:2≤k)(h0:items.size≠0)(hz:items.size*k.toNat≤1000000):
  Meets (Builtin.«tuple.__mul__» ⟨[.ref l,.int k u],[]⟩) (fun _ R s=>s.heap.get? l=some {cls:=.type "tuple",dict:=dd,data:=.seq items n,slots:=sl}/\
   R (.ok (.ret (Xo s.heap.objs.size))) {s with heap:=s.heap.push {cls:=XC "tuple",data:=YW (VG (fun x1 x2=>x1++x2) #[] (Xj k.toNat items))},toks:=s.toks}):=
 .of_wp λprog w A R s h=>by
  obtain⟨hp,g,d,tk,os⟩:=s;obtain⟨hl,h⟩:=h;have f1:=Hk;have hk:k≤1000000:=by
   have:1*k.toNat≤items.size*k.toNat:=Nat.mul_le_mul_right _ (by lia)
   lia
  have zz:(items.size:Int)*k≤1000000:=by
   have e:(items.size:Int)*k=((items.size*k.toNat:Nat):Int):=by rw[Int.natCast_mul,UJ (by lia)]
   rw[e];lia
  have c0:¬(decide (k< -(2^63))||decide (k ≥ 2^63))=true:=by simp;lia
  have c1:¬(items.isEmpty||k==1)=true:=by
   simp;exact⟨λz=>h0 (by rw[z];rfl),by lia⟩
  have c2:¬(decide (k≤0)||items.isEmpty)=true:=by
   simp;exact⟨by lia,λz=>h0 (by rw[z];rfl)⟩
  have c3:¬((items.size:Int)*k>(2^63 - 1)/8):=by lia
  have c4:¬(Hg ((items.size:Int)*k)=true):=by
   unfold Hg;have hs:sizeLine=16777216:=by decide
   rw[hs];simp;lia
  have hsz:(VG (λx1 x2=>x1++x2) #[] (Xj k.toNat items)).size≤sizeLine:=by
   have hs:sizeLine=16777216:=by decide
   rw[PySem.AutoListH.size_joined,hs,Nat.mul_comm];simp;lia
  wp_walk using C9 hl
  refine wpAny_ite_false (decide_eq_false c0) ?_
  wp_walk using C9 hl
  refine wpAny_ite_false (decide_eq_false c3) ?_
  wp_walk using C9 hl
  exact⟨_,rfl,h⟩
section
variable{X:Cx}
theorem _mW:OpR X (Yg .Mult) (λx y H Q=>∃a k xs,x=.ref a/\y=.int k/\SqT X.K H a xs/\xs≠ []/\1≤k/\xs.length*k.toNat≤1000000/\(k=1->Q (.ref a) H)/\
  (k≠1->∀p,H p=none->Q (.ref p) (upd H p (.tup (Xj k.toNat xs).flatten)))):=by
 intro pins s σ H x y v u Q I rx ry h;obtain⟨a,k,xs,rfl,rfl,ha,h0,h1,hz,q1,q2⟩:=h;obtain rfl:v=Xo a:=rx;obtain⟨tk,rfl⟩:=ry;obtain⟨its,r,p1,_⟩:=I.tuple ha;obtain⟨⟨cls,dd,data,sl⟩,ho,hc,n,hd⟩:=id p1;simp only at hc hd;subst hc hd;have hl:its.toArray.size=xs.length:=by rw[XR,<- r.length]
 refine wpAny_binaryOp_repeat_ref (T:="tuple") (U:="int") (by decide) ⟨_,ho,rfl⟩ (fun s'=>typeIs_int s' k tk) _af PySem.F.fills_int_mul Hw _eb PySem.F.slot_int_index.lookup
  (UZ Hw (typeIs_int s k tk) PySem.F.entry_int_rmul (PySem.F.args_int_rmul_2 _ _) (_eC k tk a its.toArray n dd sl) ⟨ho,rfl,⟨_,ho,rfl⟩,?_⟩)
 by_cases e1:k=1
 ·subst e1;exact UZ Cf ⟨_,ho,rfl⟩ Ht (Hq _ _) (_jY a its.toArray n dd sl tk) ⟨ho,.ref a,H,I,rfl,q1 rfl⟩
 ·refine UZ Cf ⟨_,ho,rfl⟩ Ht (Hq _ _) (_jX a its.toArray n dd sl k tk (by lia) (by rw[hl];exact λz=>h0 (Ds.mp z)) (by rw[hl];exact hz)) ⟨ho,?_⟩
  have f0:VG (λx1 x2=>x1++x2) #[] (Xj k.toNat its.toArray)=(Xj k.toNat its).flatten.toArray:=by
   have:=Eb its k.toNat [];rw[Ya]at this;exact this
  rw[f0];refine⟨.ref s.heap.objs.size,_,I.laid (t':=s.toks) (o:=.tup (Xj k.toNat xs).flatten) (λb ob q=>Xq _ q) (Xe _) ?_,rfl,q2 e1 _ (I.hok.fresh (Xe _))⟩;refine⟨?_,_,r.rep k.toNat,IsTup.new _ _,_,XO _ rfl,rfl⟩;have hs:sizeLine=16777216:=by decide
  rw[Iz,hs,Nat.mul_comm];lia
end
section
variable{X:Cx}{pins:List (Addr×Obj)}{σ:St}{H:Hp}{s:X2}
def Thw(X:Cx)(H H':Hp):Prop:=H'=H\/∃a o u,H a=some (.frz o u)/\Mut (some u)/\(∀o' u',X.H₀ a≠some (.frz o' u'))/\H'=upd H a u
theorem Inv.thaw(I:Inv X pins σ H s)(t:Thw X H H'):Inv X pins σ H' s:=by
 rcases t with rfl|⟨a,o,u,e,mu,nf,rfl⟩
 ·exact I
 have ne:∀{b:Addr} {y:HO},H b=some y->y≠.frz o u->b≠a:=fun{b y} q n z=>by subst z;rw[e]at q;cases q;exact n rfl
 have nn:∀b,H b=none->b≠a:=λb n z=>by subst z;rw[e]at n;cases n
 have st:∀{c:Addr} {y:HO},ObjOk X.prog X.w H s.heap c y->ObjOk X.prog X.w (upd H a u) s.heap c y:=λx=>
  x.stay (λc v _ q=>q) (λc q=>by rw[XM (ne q (λz=>by cases z))];exact q) λc xs q=>by rw[XM (ne q (λz=>by cases z))];exact q
 refine⟨I.ok,I.os,I.bare,⟨I.base.keep,I.base.slot,λb ob q n hx=>?_,I.base.there,λb xs q=>?_,λb o' u' q=>?_,λb ps q=>?_⟩,I.loc,I.cell,?_,λx c q=>?_,λp hp=>?_,λb v q=>?_,I.len⟩
 ·have:=I.base.free b ob q n hx;rw[XM (nn b this)];exact this
 ·have:=I.base.tups b xs q;rw[XM (ne this (λz=>by cases z))];exact this
 ·rw[XM (λz=>by subst z;exact nf o' u' q)]
  exact I.base.frzs b o' u' q
 ·obtain⟨m,h⟩:=I.base.tbls b ps q;exact⟨m,by rw[XM (ne h (λz=>by cases z))];exact h⟩
 ·rw[XM (nn _ I.free)];exact I.free
 ·rw[XM (nn _ (I.freeC x c q))];exact I.freeC x c q
 ·obtain⟨h1,h2,h3⟩:=I.pin p hp;exact⟨h1,by rw[XM (nn _ h2)];exact h2,h3⟩
 ·by_cases hb:b=a
  ·subst hb;rw[_G]at q;cases q;exact st (I.hok b _ e).2
  ·rw[XM hb]at q;exact st (I.hok b v q)
def thwD(X:Cx)(D:Ends):Ends where
 nx:=λσ H=>∃H',Thw X H H'/\D.nx σ H'
 rt:=λv H=>∃H',Thw X H H'/\D.rt v H'
 bk:=λσ H=>∃H',Thw X H H'/\D.bk σ H'
 ct:=λσ H=>∃H',Thw X H H'/\D.ct σ H'
theorem PS.thaw{st:Stmt}{t:TS}(h:PS X st t):PS X st (λD σ H=>t (thwD X D) σ H):=by
 intro pins s σ H D I q;refine thn (h pins s σ H _ I q) λf s' hf=>?_;cases f with
 |next=>obtain⟨σ',H',I',H2,t2,d⟩:=hf;exact⟨σ',H2,I'.thaw t2,d⟩
 |brk=>obtain⟨σ',H',I',H2,t2,d⟩:=hf;exact⟨σ',H2,I'.thaw t2,d⟩
 |cont=>obtain⟨σ',H',I',H2,t2,d⟩:=hf;exact⟨σ',H2,I'.thaw t2,d⟩
 |ret u=>obtain⟨v,σ',H',I',r,H2,t2,d⟩:=hf;exact⟨v,σ',H2,I'.thaw t2,r,d⟩
theorem PE.thaw{e:Expr}{t:TE}(h:PE X e t):PE X e (λσ H Q=>t σ H λv H'=>∃H2,Thw X H' H2/\Q v H2):=by
 intro pins s σ H Q I q;refine thn (h pins s σ H _ I q) λu s' ⟨v,H',I',r,H2,t2,d⟩=>⟨v,H2,I'.thaw t2,r,d⟩
end
section
variable{prog:Xv}{w:Xn}{A:XA}{E:X0->X2->Prop}{s:X2}{a₀:Array Keyed}
end
section
variable{X:Cx}
end
structure Mrk (t t':Yt):Prop where
 led:t'.led=t.led
 plain:t.plain=false->t'.plain=false
theorem Mrk.refl(t:Yt):Mrk t t:=⟨rfl,id⟩
theorem Mrk.trans(x:Mrk a b)(y:Mrk b c):Mrk a c:=⟨y.led.trans x.led,λh=>y.plain (x.plain h)⟩
theorem Mrk.standIn(t:Yt)(n:Nat):Mrk t (t.standIn n):=⟨rfl,λ_=>rfl⟩
theorem Mrk.orStandIn(t:Yt)(n:Nat):Mrk t (t.orStandIn n):=by
 unfold SetTable.orStandIn;split
 ·exact .refl t
 ·exact .standIn t n
theorem Mrk.lay(t:Yt)(es:Array (Int×X0))(k:Int)(x:X0):Mrk t (layNew t es k x).2.1:=by
 unfold layNew;split
 ·exact Mrk.trans (b:=(t.put _).1) ⟨rfl,id⟩ (.orStandIn _ _)
 ·exact .standIn t _
theorem Mrk.relaid{t:Yt}(h:t.relaid hs n=some (t',od)):Mrk t t':=by
 unfold SetTable.relaid SetTable.laid at h;cases hl:SetTable.layClean (SetTable.sizeAbove n - 1) hs with
 |none=>rw[hl]at h;simp at h
 |some ow=>
  rw[hl]at h;simp only[Option.bind_eq_bind,Option.bind_some,Option.pure_def,C5,Prod.mk.injEq]at h;obtain⟨rfl,_⟩:=h;exact⟨rfl,id⟩
set_option tactic.hygienic true in
theorem Mrk.relay(t:Yt)(es:Array (Int×X0))(n:Nat):Mrk t (relayAll t es n).2.1:=by
 unfold relayAll;split
 ·rename_i hr
  dsimp only;split
  ·exact .relaid hr
  ·exact .standIn t _
 ·exact .standIn t _
def txt:X0->Str
 |.str x _=>x
 |_=>⟨#[]⟩
def met1(zs:List Str)(x:Str):List Str:=if x∈zs then zs else zs++[x]
def met(f:Nat->Str):Nat->List Str
 |0=>[]
 |i+1=>met1 (met f i) (f i)
set_option tactic.hygienic true in
theorem _h7(h:zs.Nodup)(x:Str):(met1 zs x).Nodup:=by
 unfold met1;split
 ·exact h
 ·rename_i n
  rw[Z9];exact⟨h,by simp,λa ha b hb=>by rw[XX]at hb;subst hb;exact λe=>n (e▸ha)⟩
theorem IP(f:Nat->Str):∀i,(met f i).Nodup
 |0=>.nil
 |i+1=>_h7 (IP f i) _
set_option tactic.hygienic true in
theorem _kE:y∈met1 zs x↔y∈zs\/y=x:=by
 unfold met1;split
 ·rename_i h
  exact⟨.inl,λz=>z.elim id λe=>e▸h⟩
 ·simp
theorem IQ:∀i,y∈met f i↔∃j,j<i/\f j=y
 |0=>by simp[met]
 |i+1=>by
  unfold met;rw[_kE,IQ i];constructor
  ·rintro(⟨j,hj,e⟩|e)
   ·exact⟨j,by lia,e⟩
   ·exact⟨i,by lia,e.symm⟩
  ·rintro⟨j,hj,e⟩;by_cases z:j=i
   ·subst z;exact .inr e.symm
   ·exact .inl ⟨j,by lia,e⟩
theorem IR(f:Nat->Str):∀i,(met f i).length≤i
 |0=>Xe _
 |i+1=>by
  have:=IR f i;unfold met met1;split
  ·lia
  ·rw[Yn];simp;lia
section
variable{prog:Xv}{w:Xn}{A:XA}{E:X0->X2->Prop}{s:X2}
def WSet(prog:Xv)(w:Xn)(o:Obj)(zs:List Str):Prop:=
 o.ExactSet/\∃es ep t,o.data=.set es ep t/\ElemsOf (strKind prog w) es.toList/\(es.toList.map λe=>txt e.2).Perm zs/\es.size<scanBound/\t.fits es.size=true
  /\t.led=(!w.params.followText "set-order")/\(zs≠ []->t.plain=false)
theorem WSet.fresh:WSet prog w {cls:=.type "set",dict:=none,data:=.set #[] 0 (.fresh 0 0 (!w.params.followText "set-order"))} []:=
 ⟨⟨rfl,rfl,rfl⟩,#[],0,_,rfl,λe he=>by simp at he,by simp,by decide,by rfl,rfl,λh=>absurd rfl h⟩
theorem isT{k:Str}:(strKind prog w).is k v=true↔∃t,v=.str k t:=by
 constructor
 ·exact λh=>Value.isStrOf_shape h
 ·rintro⟨t,rfl⟩;exact strKind_is prog w k t
theorem WSet.mem{es:Array (Int×X0)}{zs:List Str}(he:ElemsOf (strKind prog w) es.toList)(hp:(es.toList.map λe=>txt e.2).Perm zs)(k:Str):
  k∈zs↔∃e∈es.toList,(strKind prog w).is k e.2=true:=by
 rw[<- hp.mem_iff,XN];constructor
 ·rintro⟨e,hm,q⟩;refine⟨e,hm,isT.mpr ?_⟩;obtain⟨⟨k',hk,_⟩,_⟩:=he e hm;obtain⟨t,ht⟩:=isT.mp hk;rw[ht]at q ⊢;exact⟨t,by rw[<- q];rfl⟩
 ·rintro⟨e,hm,q⟩;obtain⟨t,ht⟩:=isT.mp q;exact⟨e,hm,by rw[ht];rfl⟩
theorem IT{h:Heap}{a:Addr}{o:Obj}{es:Array (Int×X0)}{ep:Nat}{t:Yt}(ho:h.get? a=some o)(hd:o.data=.set es ep t)(es':Array (Int×X0))(t':Yt):
  (h.update a (Obj.putSet es' t')).get? a=some {o with data:=.set es' (ep+1) t'}:=by
 have z:=V3 (Obj.putSet es' t') ho (by rw[putSet_of es' t' hd];rfl)
 rwa [putSet_of es' t' hd]at z
theorem IU{g:Bool->Sem Unit}(hg:∀(b:Bool) (s₁:X2) (Q':Unit->X2->Prop),Q' () s₁->X3 (X6 prog w) A (g b) Q' E s₁)
  {a:Addr} {o:Obj} {es:Array (Int×X0)} {ep:Nat} {t:Yt} (ho:s.heap.get? a=some o) (hex:o.ExactSet) (hd:o.data=.set es ep t)
  {es1:Array (Int×X0)} {t2:Yt} {zs:List Str} (hel:ElemsOf (strKind prog w) es1.toList) (hp:(es1.toList.map λe=>txt e.2).Perm zs) (hb:es1.size<scanBound)
  (hf:t2.fits es1.size=true) (hled:t2.led=(!w.params.followText "set-order")) (hpl:t2.plain=false) {was:Bool} {R:Option Bool->X2->Prop}
  (h:∀h' o',ZX a s.heap h'->h'.get? a=some o'->WSet prog w o' zs->R (some true) {s with heap:=h'}):
  X3 (X6 prog w) A (do
    storeSet a es1 t2
    if(!was&&t2.tooFull)=true then do
      g (relayAll t2 es1 (Va es1.size)).2.2
      storeSet a (relayAll t2 es1 (Va es1.size)).1 (relayAll t2 es1 (Va es1.size)).2.1
      pure (some true)
     else pure (some true)) R E s:=by
 refine X1 (wpAny_storeSet_of ho hd ?_ (fits_of_scanBound hb));have ho1:=IT ho hd es1 t2;split
 ·have hp2:=relayAll_perm t2 es1 (Va es1.size);have hf2:=relayAll_fits t2 es1 (Va es1.size);have hm:=Mrk.relay t2 es1 (Va es1.size);generalize relayAll t2 es1 (Va es1.size)=Rl at hp2 hf2 hm ⊢;obtain⟨es2,t3,gv⟩:=Rl;dsimp only at hp2 hf2 hm ⊢;have hz:es2.size=es1.size:=by rw[<- Yq,hp2.length_eq,Yq]
  refine X1 (hg _ _ _ ?_);refine X1 (wpAny_storeSet_of ho1 rfl ?_ (fits_of_scanBound (by lia)))
  exact X8 (h _ _ ((U2 _ a _).trans (U2 _ a _)) (IT ho1 rfl es2 t3)
   ⟨hex,es2,_,t3,rfl,hel.perm hp2,(hp2.map _).trans hp,by lia,hf2,hm.led.trans hled,λ_=>hm.plain hpl⟩)
 ·exact X8 (h _ _ (U2 _ a _) ho1 ⟨hex,es1,_,t2,rfl,hel,hp,hb,hf,hled,λ_=>hpl⟩)
set_option tactic.hygienic true in
theorem _k0{a:Addr}{o:Obj}{zs:List Str}{x:Str}{tk:Tok}{Q:Bool->X2->Prop}(ho:s.heap.get? a=some o)(hS:WSet prog w o zs)(hroom:zs.length+1<scanBound)
  (h:∀b h' o',ZX a s.heap h'->h'.get? a=some o'->WSet prog w o' (met1 zs x)->Q b {s with heap:=h'}):
  X3 (X6 prog w) A (setAddHashed a (.str x tk) ((strKind prog w).hash x)) Q E s:=by
 obtain⟨hex,es,ep,t,hd,hel,hp,hb,hf,hled,hpl⟩:=id hS;have hkey:(strKind prog w).is x (.str x tk)=true:=strKind_is prog w x tk;have hlen:es.size=zs.length:=by rw[<- hp.length_eq,Xc,Yq]
 unfold setAddHashed setAddHashedIn;refine YM (X1 (Wr ho hd hf ?_));dsimp only;rw[byScan_of (x:=.str x tk) rfl hb hel];simp only[↓reduceIte];unfold setAddByScan;refine X1 (X1 (UD (X1 (wpAny_setScan_of hkey ho hd hf hel ?_))));have hmem:=WSet.mem hel hp x;cases hr:List.findIdx? (λe=>(strKind prog w).is x e.2) es.toList with
 |some j=>
  dsimp only;obtain⟨hj,hpj,_⟩:=List.findIdx?_eq_some_iff_getElem.mp hr;have hx:x∈zs:=hmem.mpr ⟨_,XU hj,hpj⟩;refine X8 (X8 ?_);have:=h false s.heap o (Heap.SameBut.refl a s.heap) ho (by unfold met1;rw[if_pos hx];exact hS)
  cases s;exact this
 |none=>
  dsimp only;have hx:x∉zs:=λz=>by
   obtain⟨e,he,q⟩:=hmem.mp z;have:=List.findIdx?_eq_none_iff.mp hr e he;rw[q]at this;exact Bool.noConfusion this
  have hz:met1 zs x=zs++[x]:=by unfold met1;rw[if_neg hx]
  have hl:=layNew_perm t es ((strKind prog w).hash x) (.str x tk);have hlf:=layNew_fits t es ((strKind prog w).hash x) (.str x tk);have hm:=Mrk.lay t es ((strKind prog w).hash x) (.str x tk);generalize layNew t es ((strKind prog w).hash x) (.str x tk)=L at hl hlf hm ⊢;obtain⟨es1,t1,was,gave⟩:=L;dsimp only at hl hlf hm ⊢;rw[Array.toList_push]at hl;have hel1:ElemsOf (strKind prog w) es1.toList:=(hel.push hkey rfl).perm hl;have hp1:(es1.toList.map λe=>txt e.2).Perm (met1 zs x):=by
   rw[hz];refine(hl.map _).trans ?_;rw[XV];exact hp.append (.refl _)
  have hb1:es1.size<scanBound:=by rw[<- Yq,hl.length_eq,Yn,Yq];simp;lia
  have gw:∀(b:Bool) (s₁:X2) (Q':Unit->X2->Prop),Q' () s₁->X3 (X6 prog w) A (match b with|true=>rule "set.scan.the-table-gave-way"|false=>pure ()) Q' E s₁:=
   λb s₁ Q' hq=>by cases b<;>first|exact X8 hq|exact UD hq
  refine X1 (gw _ _ _ ?_);have fin:∀h' o',ZX a s.heap h'->h'.get? a=some o'->WSet prog w o' (met1 zs x)->Q true {s with heap:=h'}:=λh' o' a1 a2 a3=>h true h' o' a1 a2 a3;split
  ·rw[hashByValue_scannable 8 (x:=.str x tk) rfl];refine X1 (X8 ?_);refine IU gw ho hex hd hel1 hp1 hb1 (t2:={t1 with plain:=false}) (SetTable.fits_plain_off hlf) (hm.led.trans hled) rfl ?_;intro h' o' a1 a2 a3;exact X8 (fin h' o' a1 a2 a3)
  ·rename_i np
   refine X1 (X8 ?_);simp only[↓reduceIte];refine IU gw ho hex hd hel1 hp1 hb1 hlf (hm.led.trans hled) (by simpa using np) ?_
   intro h' o' a1 a2 a3;exact X8 (fin h' o' a1 a2 a3)
theorem _hH{St:Nat->X2->Prop}
  (W:WalksS prog w A.in1 I fp wr G n P St) (S:Addr) (hSf:S∉fp) (f:Nat->Str) (hval:∀i v,P i v->∃t,v=.str (f i) t) (hb:n+1<scanBound):
  ∀(k i:Nat) (s:X2) (o:Obj),n - i=k->i≤n->St i s->s.heap.get? S=some o->WSet prog w o (met f i)->
   (∀s' o',Moved (S::wr) G s s'->s'.heap.get? S=some o'->WSet prog w o' (met f n)->R (.ok (.ret .none)) s')->
   YU (X6 prog w) A (.builtin "set.update.loop" ⟨[.ref S,.ref I],[]⟩) R s:=by
 have hSw:S∉wr:=λh=>hSf (W.sub _ h);have hsub:∀b∈wr,b∈S::wr:=λb hb=>XS _ hb;intro k
 induction k with
 |zero=>
  intro i s o hk hi hst ho hS hR;have hin:i=n:=by lia
  subst hin;refine Z6 F.entry_set_update_loop ?_;rw[Zo F.plain_set_update_loop _];show X3 _ A.in1 (pyNext (.ref I)>>= _) _ _ s;refine X1 (W.done s _ _ hst λs' hm=>?_);exact X8 (hR s' o (hm.mono hsub) (hm.heap S _ hSw ho) hS)
 |succ k ih=>
  intro i s o hk hi hst ho hS hR;have hlt:i<n:=by lia
  refine Z6 F.entry_set_update_loop ?_;rw[Zo F.plain_set_update_loop _];show X3 _ A.in1 (pyNext (.ref I)>>= _) _ _ s;refine X1 (W.item i s _ _ hlt hst λv s' hP hst' hm=>?_);obtain⟨t,rfl⟩:=hval i v hP;have ho':=hm.heap S _ hSw ho;show X3 _ A.in1 (Z3 [XD (f i) t] (setAdd S (.str (f i) t))>>= _) _ _ s';refine X1 (YM ?_);unfold setAdd;refine YM (X1 ((strKind prog w).pyHash (k:=f i) (strKind_is prog w _ _) ?_));refine _k0 (s:={s' with toks:=s'.toks+1}) ho' hS (by have:=IR f i;lia) λb h' o' hsb ho2 hS2=>?_
  refine X8 ⟨Zg F.plain_set_update_loop _,ih (i+1) _ o' (by lia) hlt (W.frame _ s' _ _ hst' (UI _) λb hb o e=>?_) ho2 hS2 λs'' o'' hm'' ho'' hS''=>?_⟩
  ·rw[hsb.2 b (λz:b=S=>hSf (by rw[<- z];exact hb))];exact e
  ·refine hR s'' o'' (Moved.trans W.gtrans ((hm.mono hsub).then_heap (UI _) λb o hb e=>?_) hm'') ho'' hS'';rw[hsb.2 b (λz:b=S=>hb (by rw[z];exact Y8))];exact e
noncomputable def ZJ(w:Xn):Obj:={cls:=.type "set",dict:=none,data:=.set #[] 0 (.fresh 0 0 (!w.params.followText "set-order"))}
theorem _jZ(a:X0)(h:Q₁ (.ref s.heap.objs.size) {s with heap:=s.heap.push (ZJ w)}):
  YU (X6 prog w) A (.call (.builtin "set.__new__") ⟨[.type "set",a],[]⟩) (wants Q₁ E) s:=by
 refine codeAny_of_tree ?_;show X3 _ A.in1 (do checkBuiltinCall "set.__new__" ⟨[.type "set",a],[]⟩;again (.builtin "set.__new__" ⟨[.type "set",a],[]⟩)) _ _ s
 refine X1 (wpAny_of_eq (F.newCall_set_1 a) (X8 ⟨Zg F.plain_set_new _,Z6 F.entry_set_new ?_⟩));rw[Zo F.plain_set_new _];unfold Builtin.«set.__new__» Builtin.Frozenset.newClass;have hsub:=sub_set_self;obtain⟨hp,g,d,tk,os⟩:=s;dsimp only
 wp_walk
 refine Ws (X8 ?_);dsimp only;simp only[newObj];refine X1 (wpAny_alloc (X8 ?_));exact X8 h
theorem _js{items:Array X0}
  (hh:A.handled=none) (hl:s.heap.IsList l items) (hi:∀(i:Nat) (v:X0),items[i]?=some v->∃t,v=XD (f i) t) (hb:items.size+1<scanBound)
  (h:∀(h':Heap) (tk:Nat) (o:Obj),h'.get? s.heap.objs.size=some o->WSet prog w o (met f items.size)->
   (∀b o,b<s.heap.objs.size->s.heap.get? b=some o->h'.get? b=some o)->Q (.ref s.heap.objs.size) {s with heap:=h',toks:=tk}):
  X3 (X6 prog w) A (call (.type "set") [.ref l]) Q E s:=by
 obtain⟨c,tl,hmro⟩:=UK.mro;have hmade:=UK.made;have hsub:=UK.sub;refine wpAny_call (codeAny_of_tree ?_);show X3 _ _ (callAny (.type "set") _) _ _ _;refine X8 ⟨Code.quiet_builtin _ (by decide+kernel),Z6 F.entry_type_call ?_⟩
 rw[Around.under_plain (weight_type_call_type "set" [.ref l] []) rfl];have h1:=UK.notType;have h2:=UK.canCreate;have hct:=F.typeCall_set_1 (.ref l)
 repeat (any_goals (first|assumption|wp_step))
 refine Vs (_jZ (.ref l) (E:=E) (Q₁:=λobj s₁=>obj=.ref s.heap.objs.size/\s₁={s with heap:=s.heap.push (ZJ w)}) ⟨rfl,rfl⟩) λr s₁ hr=>?_;cases r with
 |error e=>exact hr
 |ok fl=>
  cases fl with
  |ret obj=>
   obtain⟨rfl,rfl⟩:=hr;have hS:(s.heap.push (ZJ w)).get? s.heap.objs.size=some (ZJ w):=XO _ rfl;have hT:WN {s with heap:=s.heap.push (ZJ w)} (.ref s.heap.objs.size) "set":=⟨_,hS,rfl⟩;have hli:=UK.init.lookup;have hbi:=UK.init.bind (.ref s.heap.objs.size)
   repeat (any_goals (first|assumption|wp_step))
   refine Vs (Wq (R:=wants (λr s₂=>r=.none/\∃h' tk o,s₂={s with heap:=h',toks:=tk}/\
     h'.get? s.heap.objs.size=some o/\WSet prog w o (met f items.size)/\
     (∀b o,b<s.heap.objs.size->s.heap.get? b=some o->h'.get? b=some o)) E) UK.init.plain F.entry_set_init (check_set_init_1 hT ?_)) λr₂ s₂ hr₂=>?_
   ·obtain⟨ol,hol,hcl,nl,hdl⟩:=hl;obtain⟨ocls,odict,odata,oslots⟩:=ol;simp only at hcl hdl;subst hcl;subst hdl;have hol':(s.heap.push (ZJ w)).get? l=some {cls:=.type "list",dict:=odict,data:=.seq items nl,slots:=oslots}:=Xq _ hol;have hsls:=F.sub_list_set;have hslf:=F.sub_list_frozenset;have hne:(XC "list"==XC "dict")=false:=by decide
    have hl1:(s.heap.push (ZJ w)).IsList l items:=⟨_,hol',rfl,nl,rfl⟩;unfold Builtin.«set.__init__» noKeywords Builtin.Frozenset.updateFrom;generalize hPI:pyIter=PI
    wp_walk
    subst hPI;refine BF hl1 ?_;refine X1 (wpAny_runValue ?_);have hlS:l<s.heap.objs.size:=Xu hol;have hneI:l≠(s.heap.push (ZJ w)).objs.size:=by
     rw[Zm];exact Xz (ZE hlS)
    have hSf:s.heap.objs.size∉ [(s.heap.push (ZJ w)).objs.size,l]:=by
     rw[Zm];simp only[Xl,XJ,or_false,not_or];exact⟨Xz (V4 _),V5 hlS⟩
    refine _hH ((Walks.list (A:=A.in1.in1.in1) (by simp[hh]) _ l hneI items).toS) s.heap.objs.size
     hSf f hi hb (items.size - 0) 0 _ (ZJ w) (by lia) (YH _)
     ⟨⟨_,XO _ rfl,rfl,rfl⟩,(hl1.push _)⟩ (Xq _ hS) WSet.fresh ?_
    intro s' o' hm ho' hS';obtain⟨h',g',d',tk',os'⟩:=s';have eg:g'=s.gens:=hm.gens;have ed:d'=s.drawn:=hm.drawn;have eo:os'=s.os:=hm.os;subst eg;subst ed;subst eo;refine X8 (X8 ⟨rfl,h',tk',o',rfl,ho',hS',λb o hb e=>?_⟩);refine hm.heap b o ?_ (Xq _ (Xq _ e));simp only[Xl,XJ,or_false,not_or];exact⟨Xz hb,by rw[Zm];exact Xz (ZE hb)⟩
   ·cases r₂ with
    |error e=>exact hr₂
    |ok fl₂=>
     cases fl₂ with
     |ret r=>
      obtain⟨rfl,h',tk,o',rfl,ho',hS',hk'⟩:=hr₂
      repeat (any_goals (first|assumption|wp_step))
      exact h _ _ _ ho' hS' hk'
     |_=>exact hr₂.elim
  |_=>exact hr.elim
end
theorem slot_setiter_next:Slot "set_iterator" "__next__" "set_iterator.__next__":=
 .of (owner:="set_iterator") (n:="__next__") (by rw[Vv,Vw];kernel_rfl) (by decide+kernel) (by decide+kernel) (by decide+kernel)
  (by first|exact .inl (by decide+kernel)|exact .inr (by decide+kernel)) (by rw[isSubtype_type];kernel_rfl)
theorem IV:Slot "set_iterator" "__iter__" "set_iterator.__iter__":=
 .of (owner:="set_iterator") (n:="__iter__") (by rw[Vv,Vw];kernel_rfl) (by decide+kernel) (by decide+kernel) (by decide+kernel)
  (by first|exact .inl (by decide+kernel)|exact .inr (by decide+kernel)) (by rw[isSubtype_type];kernel_rfl)
theorem IW:entryFor table "set_iterator.__next__"=some Builtin.«set_iterator.__next__»:=entryFor_of_fast (by kernel_rfl)
theorem _8z:entryFor table "set_iterator.__iter__"=some Builtin.«dict_keyiterator.__iter__»:=
 entryFor_alias (id':="dict_keyiterator.__iter__") (by kernel_rfl) rfl (by decide+kernel) (by kernel_rfl)
theorem _ca:entryFor table "set.__iter__"=some Builtin.«frozenset.__iter__»:=
 entryFor_alias (id':="frozenset.__iter__") (by kernel_rfl) rfl (by decide+kernel) (by kernel_rfl)
theorem IX(a:X0):argsOk "set_iterator.__next__" ⟨[a],[]⟩:=by unfold argsOk;kernel_rfl
theorem _9d(a:X0):argsOk "set_iterator.__iter__" ⟨[a],[]⟩:=by unfold argsOk;kernel_rfl
theorem ers{α:Type}:∀(l:List α) (i:Nat) (h:i<l.length),(l[i]::l.eraseIdx i).Perm l
 |[],_,h=>absurd h (by simp)
 |x::xs,0,_=>.refl _
 |x::xs,i+1,h=>(List.Perm.swap x _ _).trans ((ers xs i (by simpa using h)).cons x)
section
variable{prog:Xv}{w:Xn}{A:XA}{E:X0->X2->Prop}{s:X2}
theorem _oi(hn:n≠0)(h:∀i d,i<n->Q i {s with drawn:=d}):X3 M A (choose src n) Q E s:=λΓ p hΓ=>by
 unfold choose;rw[Sem.wp_choose];exact⟨hn,by rw[Sem.wp_pure];exact h _ _ (VJ _ (Nat.pos_of_ne_zero hn))⟩
theorem _ma{α:Type}:∀(n:Nat) (xs:List α) (s:X2) (Q:List α->X2->Prop),xs.length=n->(∀ys d,ys.Perm xs->Q ys {s with drawn:=d})->X3 M A (drawOrder n xs) Q E s:=by
 intro n
 induction n with
 |zero=>
  intro xs s Q hl h;unfold drawOrder;have:xs=[]:=Ds.mp hl;subst this;exact X8 (h [] s.drawn (.refl _))
 |succ n ih=>
  intro xs s Q hl h;cases xs with
  |nil=>simp at hl
  |cons x xs=>
   unfold drawOrder;refine X1 (_oi (by simp) λi d hi=>?_)
   rw[Xa hi];dsimp only;refine X1 (ih _ _ _ (by rw[GV hi];lia) λys d' hp=>X8 ?_)
   have:(((x::xs)[i])::ys).Perm (x::xs):=((List.Perm.cons _ hp).trans (ers _ _ hi));exact h _ d' this
theorem _mJ{α:Type}(next:Nat->Nat):∀(n k:Nat) (left:List α) (out:Array α),left.length=n->(pickOrder.go next n k left out).toList.Perm (out.toList++left):=by
 intro n
 induction n with
 |zero=>
  intro k left out hl;have:left=[]:=Ds.mp hl;subst this;unfold pickOrder.go;simp
 |succ n ih=>
  intro k left out hl;unfold pickOrder.go;have hi:next k%left.length<left.length:=VJ _ (by lia)
  rw[Xa hi];dsimp only;refine(ih _ _ _ (by rw[GV hi];lia)).trans ?_
  rw[Array.toList_push,Vz];exact(List.Perm.refl _).append (by simpa using ers _ _ hi)
theorem _id{α:Type}(next:Nat->Nat)(xs:Array α):(pickOrder next xs).toList.Perm xs.toList:=by
 unfold pickOrder
 simpa using _mJ next xs.size 0 xs.toList #[] (by simp)
end
section
variable{prog:Xv}{w:Xn}{A:XA}{E:X0->X2->Prop}{s:X2}
def SIt(h:Heap)(it S:Addr)(first:X0)(i n ep:Nat):Prop:=
 ∃o,h.get? it=some o/\o.cls=.type "set_iterator"/\o.data=.fields #[first,.int i 0,.ref S,.int n 0,.int ep 0]
theorem SIt.typeIs{first:X0}(x:SIt s.heap it S first i n ep):s.TypeIs (.ref it) "set_iterator":=let⟨o,ho,hc,_⟩:=x;⟨o,ho,hc⟩
theorem Cz{h:Heap}{it:Addr}{o:Obj}{vs:Array X0}(ho:h.get? it=some o)(hd:o.data=.fields vs)(j:Nat)(v:X0):
  ∃o',(h.update it (DX (·.setIfInBounds j v))).get? it=some o'/\o'.cls=o.cls/\o'.data=.fields (vs.setIfInBounds j v):=
 ⟨_,V3 _ ho (DV (Ci hd _)),DW ..,Ci hd _⟩
noncomputable def Nx(w:Xn)(S:Addr)(es:Array (Int×X0))(ep:Nat)(t:Yt)(slot i:Nat):Option (X0×Nat):=
 if w.params.followText "set-order"=true then(pickOrder (w.params.setOrder S ep) es)[i]?.map fun e=>(e.2,slot)
 else match es[Ch t.place slot]?,t.place[Ch t.place slot]? with
  |some (_,x),some j=>some (x,j+1)
  |_,_=>none
theorem _k7{t:Yt}
  (hoS:s.heap.get? S=some o) (hdS:o.data=.set es ep t) (hf:t.fits es.size=true) (hw:w.params.followText "set-order"=true\/(es.size≤1/\t.led=true))
  (h:Q (Nx w S es ep t slot i) s):X3 (X6 prog w) A (setNext S slot i ep) Q E s:=by
 unfold setNext;refine X1 (Wr hoS hdS hf ?_);refine X1 (m:=setsByText) (X1 (Ws (X8 ?_)));show X3 _ _ (if w.params.followText "set-order"=true then _ else _) _ _ _;unfold Nx at h;by_cases hb:w.params.followText "set-order"=true
 ·rw[if_pos hb];rw[if_pos hb]at h;simp only[bne_self_eq_false,Yi,if_false];refine X1 ?_;unfold setWalk;refine X1 (Wr hoS hdS hf ?_);refine X1 (m:=setsByText) (X1 (Ws (X8 ?_)));show X3 _ _ (if w.params.followText "set-order"=true then _ else _) _ _ _;rw[if_pos hb];refine X1 (Ws (X8 (X8 ?_)));exact h
 ·rw[if_neg hb];rw[if_neg hb]at h;obtain⟨h1,h2⟩:=hw.resolve_left hb;have hdr:(!t.plain&&decide (es.size>1))=false:=by
   rw[decide_eq_false (by lia),C1]
  show X3 _ _ (if(!t.plain&&decide (es.size>1))=true then _ else _) _ _ _;rw[hdr,if_neg XE];refine X1 ?_;show X3 _ _ (if(!t.led&& !es.isEmpty)=true then _ else _) _ _ _;rw[h2];simp only[VL,WH,Yi,if_false];exact X8 (X8 h)
theorem IY(hh:A.handled=none)(hk:BW it s.heap h₁)
  (hQ:∀h',BW it s.heap h'->Q none {s with heap:=h'}):
  X3 (X6 prog w) A.in1 (do let x<- newExc (.type "StopIteration") [];(raiseNew x:Sem Fin)) (fun fin s'=>∃v,fin=Fin.done (Flow.ret v)/\X3 (X6 prog w) A (pure (some v)) Q E s')
   (fun e s'=>X3 (X6 prog w) A (do let b<- isInstance e (.type "StopIteration");if b=true then pure none else throw e) Q E s') {s with heap:=h₁}:=by
 refine X1 ?_;simp only[newExc,newTuple];refine X1 (ZU ?_ (by size_fits))
 refine X1 (m:=firstArgMember _ _) (wpAny_of_eq (a:=Xt) (by first|rfl|(simp only[firstArgMember];rfl)) ?_)
 refine ZU ?_ (by size_fits)
 simp only[raiseNew];refine X1 (wpAny_handled ?_);rw[show A.in1.handled=none from hh];refine X1 (X8 (wpAny_throw ?_));refine X1 (UC (T:="StopIteration") (b:=true) ⟨_,XO _ rfl,rfl⟩ isSubtype_stop ?_);exact X8 (hQ _ ((hk.push _).push _))
theorem IZ{it S:Addr}{i n ep slot:Nat}{o:Obj}{es:Array (Int×X0)}{t:Yt}{Q:Option X0->X2->Prop}(hh:A.handled=none)
  (hit:SIt s.heap it S (.int slot 0) i n ep) (hoS:s.heap.get? S=some o) (hdS:o.data=.set es ep t) (hf:t.fits es.size=true) (hn:es.size=n)
  (hw:w.params.followText "set-order"=true\/(es.size≤1/\t.led=true))
  (h1:∀x nx,Nx w S es ep t slot i=some (x,nx)->∀h',SIt h' it S (.int nx 0) (i+1) n ep->ZX it s.heap h'->Q (some x) {s with heap:=h'})
  (h2:Nx w S es ep t slot i=none->∀h',BW it s.heap h'->Q none {s with heap:=h'}):
  X3 (X6 prog w) A (pyNext (.ref it)) Q E s:=by
 obtain⟨oi,hoi,hci,hdi⟩:=id hit;unfold pyNext;refine X1 (wpAny_attempt (BB (name:=Ye "__next__") hit.typeIs slot_setiter_next
  (Zf slot_setiter_next hit.typeIs IW ?_ (IX _))))
 show X3 _ _ (fieldsOf (.ref it)>>= _) _ _ s;refine X1 (wpAny_fieldsOf hoi hdi ?_);show X3 _ _ (setEntries S >>= _) _ _ s;refine X1 (wpAny_setEntries_of hoS hdS hf ?_);simp only[hn,bne_self_eq_false,Yi,if_false];refine X1 (m:=setNext _ _ _ _) ?_;simp only[YI];refine _k7 hoS hdS hf hw ?_;cases hx:Nx w S es ep t slot i with
 |none=>
  dsimp only;refine X1 (Vx hoi hdi (by simp) ?_)
  exact IY hh (U2 ..).extBut (h2 hx)
 |some p=>
  obtain⟨x,nx⟩:=p;dsimp only;obtain⟨o1,ho1,hc1,hd1⟩:=Cz hoi hdi 0 (Y6 nx);refine X1 (Vx hoi hdi (by simp) ?_)
  refine X1 (Vx ho1 hd1 (by simp) ?_)
  obtain⟨o2,ho2,hc2,hd2⟩:=Cz ho1 hd1 1 (Y6 ((i:Int)+1));refine X8 ⟨x,rfl,X8 (h1 x nx hx _ ⟨o2,ho2,hc2.trans (hc1.trans hci),?_⟩ ((U2 ..).trans (U2 ..)))⟩;rw[hd2];simp[Y6]
theorem J1{it S P:Addr}{i n ep:Nat}{o op:Obj}{es:Array (Int×X0)}{t:Yt}{ps:Array X0}{np:Nat}{Q:Option X0->X2->Prop}(hh:A.handled=none)
  (hit:SIt s.heap it S (.ref P) i n ep) (hoS:s.heap.get? S=some o) (hdS:o.data=.set es ep t) (hf:t.fits es.size=true) (hn:es.size=n)
  (hoP:s.heap.get? P=some op) (hdP:op.data=.seq ps np)
  (h1:∀v,ps[i]?=some v->∃(p:Nat) (e:Int×X0),v=.int p 0/\es[p]?=some e/\∀h',SIt h' it S (.ref P) (i+1) n ep->ZX it s.heap h'->Q (some e.2) {s with heap:=h'})
  (h2:ps[i]?=none->∀h',BW it s.heap h'->Q none {s with heap:=h'}):
  X3 (X6 prog w) A (pyNext (.ref it)) Q E s:=by
 obtain⟨oi,hoi,hci,hdi⟩:=id hit;unfold pyNext;refine X1 (wpAny_attempt (BB (name:=Ye "__next__") hit.typeIs slot_setiter_next
  (Zf slot_setiter_next hit.typeIs IW ?_ (IX _))))
 show X3 _ _ (fieldsOf (.ref it)>>= _) _ _ s;refine X1 (wpAny_fieldsOf hoi hdi ?_);show X3 _ _ (setEntries S >>= _) _ _ s;refine X1 (wpAny_setEntries_of hoS hdS hf ?_);simp only[hn,bne_self_eq_false,Yi,if_false];refine X1 (m:=seqItems? _) (wpAny_seqItems hoP hdP ?_);simp only[YI];cases hx:ps[i]? with
 |none=>
  dsimp only;obtain⟨o1,ho1,hc1,hd1⟩:=Cz hoi hdi 0 (Y6 0);refine X1 (Vx hoi hdi (by simp) ?_)
  refine X1 (Vx ho1 hd1 (by simp) ?_)
  refine IY (s:=s) (it:=it) hh ?_ (h2 hx);exact Heap.SameBut.extBut (Heap.SameBut.trans (U2 _ _ _) (U2 _ _ _))
 |some v=>
  obtain⟨p,e,rfl,he,hq⟩:=h1 v hx;dsimp only;refine X1 ?_;unfold setNextDrawn;refine X1 (Wr hoS hdS hf ?_);simp only[YI,bne_self_eq_false,Yi,if_false,he];obtain⟨k,x⟩:=e;refine X8 ?_;obtain⟨o1,ho1,hc1,hd1⟩:=Cz hoi hdi 1 (Y6 ((i:Int)+1));refine X1 (Vx hoi hdi (by simp) ?_)
  refine X8 ⟨x,rfl,X8 (hq _ ⟨o1,ho1,hc1.trans hci,?_⟩ (U2 ..))⟩;rw[hd1];simp[Y6]
end
section
variable{prog:Xv}{w:Xn}{A:XA}{E:X0->X2->Prop}{s:X2}
theorem J3{first:X0}(hit:SIt s.heap it S first i n ep)(h:Q (.ref it) s):
  X3 (X6 prog w) A (pyIter (.ref it)) Q E s:=by
 refine wpAny_pyIter_slot hit.typeIs IV (Zf IV hit.typeIs _8z ?_ (_9d _));show X3 _ _ (ret (.ref it)) _ _ s;exact X8 ⟨_,rfl,"set_iterator",_,hit.typeIs,slot_setiter_next.lookup,h⟩
theorem SIt.at{first:X0}(x:SIt h it S first i n ep)(e:∀o,h.get? it=some o->h'.get? it=some o):SIt h' it S first i n ep:=
 let⟨o,ho,r⟩:=x;⟨o,e _ ho,r⟩
theorem _ok(hh:A.handled=none){I S:Addr}{n ep:Nat}{o:Obj}{es:Array (Int×X0)}{t:Yt}{vs:List X0}{Good:Nat->Nat->Prop}(hne:S≠I)
  (hdS:o.data=.set es ep t) (hf:t.fits es.size=true) (hn:es.size=n) (hw:w.params.followText "set-order"=true\/(es.size≤1/\t.led=true))
  (hg:∀i sl,Good i sl->(i<n->∃x nx,Nx w S es ep t sl i=some (x,nx)/\vs[i]?=some x/\Good (i+1) nx)/\(i=n->Nx w S es ep t sl i=none)):
  Walks prog w A I [I,S] [I] n (λi v=>vs[i]?=some v) (λi h=>∃sl,Good i sl/\SIt h I S (.int (sl:Nat) 0) i n ep/\h.get? S=some o)where
 sub:=λb hb=>by simp at hb;simp[hb]
 frame:=λ_ _ _ st hk=>let⟨sl,g,st1,st2⟩:=st;⟨sl,g,st1.at λo e=>hk I (by simp) o e,hk S (by simp) _ st2⟩
 item:=λi s Q E hi st hQ=>by
  obtain⟨sl,g,st1,st2⟩:=st;obtain⟨x,nx,e1,e2,g2⟩:=(hg i sl g).1 hi;refine IZ hh st1 st2 hdS hf hn hw (λx' nx' q h' a1 a2=>?_) (λq=>by rw[e1]at q;simp at q)
  rw[e1]at q;simp only[C5,Prod.mk.injEq]at q;obtain⟨rfl,rfl⟩:=q;exact hQ _ h' s.toks e2 ⟨_,g2,a1,(a2.2 S hne).trans st2⟩ λb o hb e=>(a2.2 b (λz=>hb (by simp[z]))).trans e
 done:=λs Q E st hQ=>by
  obtain⟨sl,g,st1,st2⟩:=st;have e1:=(hg n sl g).2 rfl;refine IZ hh st1 st2 hdS hf hn hw (λx' nx' q h' a1 a2=>by rw[e1]at q;simp at q) (λ_ h' a=>hQ h' s.toks λb o hb e=>a b o (λz=>hb (by simp[z])) e)
 self:=λ_ _ _ _ st hQ=>let⟨_,_,st1,_⟩:=st;J3 st1 hQ
theorem _oj(hh:A.handled=none){I S P:Addr}{n ep np:Nat}{o op:Obj}{es:Array (Int×X0)}{t:Yt}{js:List Nat}{vs:List X0}(hne:S≠I)(hnp:P≠I)
  (hdS:o.data=.set es ep t) (hf:t.fits es.size=true) (hn:es.size=n) (hdP:op.data=.seq (js.map λi:Nat=>Y6 i).toArray np)
  (hl:js.length=n) (hj:∀(i:Nat) (j:Nat),js[i]?=some j->∃e,es[j]?=some e/\vs[i]?=some e.2):
  Walks prog w A I [I,S,P] [I] n (λi v=>vs[i]?=some v) (λi h=>SIt h I S (.ref P) i n ep/\h.get? S=some o/\h.get? P=some op)where
 sub:=λb hb=>by simp at hb;simp[hb]
 frame:=λ_ _ _ st hk=>⟨st.1.at λo e=>hk I (by simp) o e,hk S (by simp) _ st.2.1,hk P (by simp) _ st.2.2⟩
 item:=λi s Q E hi st hQ=>by
  refine J1 hh st.1 st.2.1 hdS hf hn st.2.2 hdP (λv hv=>?_) (λq=>?_)
  ·simp only[List.getElem?_toArray,Xr,DY]at hv;obtain⟨j,hj1,rfl⟩:=hv;obtain⟨e,he,hv⟩:=hj i j hj1;exact⟨j,e,rfl,he,λh' a1 a2=>hQ _ h' s.toks hv ⟨a1,(a2.2 S hne).trans st.2.1,(a2.2 P hnp).trans st.2.2⟩ λb o hb e=>(a2.2 b (λz=>hb (by simp[z]))).trans e⟩
  ·simp at q;lia
 done:=λs Q E st hQ=>by
  refine J1 hh st.1 st.2.1 hdS hf hn st.2.2 hdP (λv hv=>?_) (λ_ h' a=>hQ h' s.toks λb o hb e=>a b o (λz=>hb (by simp[z])) e)
  simp only[List.getElem?_toArray,Xr,DY]at hv;obtain⟨j,hj1,rfl⟩:=hv;rw[Zi (by lia)]at hj1
  simp at hj1
 self:=λ_ _ _ _ st hQ=>J3 st.1 hQ
theorem _jz{α:Type}(es:Array α){js:List Nat}(hp:js.Perm (Xs es.size)):
  ∃ys:List α,ys.Perm es.toList/\ys.length=js.length/\∀(i:Nat) (j:Nat),js[i]?=some j->∃e,es[j]?=some e/\ys[i]?=some e:=by
 have hin:∀j∈js,j<es.size:=λj hj=>Za.mp (hp.mem_iff.mp hj);refine⟨js.filterMap λj=>es[j]?,(hp.filterMap _).trans (by rw[filterMap_getElem?_range]),?_⟩
 clear hp
 induction js with
 |nil=>exact⟨rfl,λi j h=>by simp at h⟩
 |cons j js ih=>
  have hj:=hin j Y8;obtain⟨h1,h2⟩:=ih λk hk=>hin k (XS _ hk);rw[List.filterMap_cons_some (b:=es[j]) (by simp[hj])]
  refine⟨by simp[h1],λi k h=>?_⟩
  cases i with
  |zero=>
   simp at h;subst h;exact⟨es[j],by simp[hj],rfl⟩
  |succ i=>
   simp at h;obtain⟨e,he,hy⟩:=h2 i k h;exact⟨e,he,by simpa using hy⟩
def ZrT(prog:Xv)(w:Xn)(zs:List Str)(s₀:Heap)(S I:Addr)(h':Heap):Prop:=
 ∃(fp:List Addr) (n:Nat) (vs:List X0) (St:Nat->Heap->Prop),
  (∀A':XA,A'.handled=none->Walks prog w A' I fp [I] n (λi v=>vs[i]?=some v) St)/\St 0 h'/\vs.length=n/\(vs.map txt).Perm zs/\(∀v∈vs,∃t,v=XD (txt v) t)/\
  (∀b∈fp,b=S\/s₀.objs.size≤b)/\s₀.objs.size≤I
theorem J4(h:p.size=1)(j:Nat):Ch p j=if p[0]'(by lia)<j then 1 else 0:=by
 obtain⟨l⟩:=p
 match l,h with
 |[a],_=>
  show(if 0<1 then(if(#[a]:Array Nat).getD ((0+1)/2) j<j then HI #[a] j 0 ((0+1)/2+1) 1 else HI #[a] j 0 0 ((0+1)/2))else 0)=if a<j then 1 else 0;rw[if_pos (by lia)]
  rfl
theorem _hI{S:Addr}{o:Obj}{zs:List Str}{Q:X0->X2->Prop}(ho:s.heap.get? S=some o)(hS:WSet prog w o zs)
  (hQ:∀(I:Addr) (h':Heap) d,ZrT prog w zs s.heap S I h'->(∀b o,s.heap.get? b=some o->h'.get? b=some o)->Q (.ref I) {s with heap:=h',drawn:=d}):
  X3 (X6 prog w) A (pyIter (.ref S)) Q E s:=by
 obtain⟨hex,es,ep,t,hd,hel,hp,hb,hf,hled,hpl⟩:=id hS;have hT:s.TypeIs (.ref S) "set":=⟨o,ho,hex.1⟩;have hSl:S<s.heap.objs.size:=Xu ho;have hsz:es.size=zs.length:=by rw[<- hp.length_eq,Xc,Yq]
 have hst:∀e∈es.toList,∃t,e.2=XD (txt e.2) t:=λe he=>by
  obtain⟨⟨k,hk,_⟩,_⟩:=hel e he;obtain⟨t,ht⟩:=isT.mp hk;exact⟨t,by rw[ht];rfl⟩
 have hsl:sizeLine=16777216:=by decide
 have hsb:scanBound=4096:=rfl;refine wpAny_pyIter_slot hT F.slot_set_iter (Zf F.slot_set_iter hT _ca ?_ (F.args_set_iter_1 _));show X3 _ _ (HD S >>= _) _ _ s;refine X1 (m:=HD S) (X1 (wpAny_setEntries_of ho hd hf (X8 ?_)));refine X1 (m:=setDrawn S) ?_;unfold setDrawn;refine X1 (Wr ho hd hf ?_);refine X1 (m:=setsByText) (X1 (Ws (X8 (X8 ?_))));show X3 _ _ (if(!w.params.followText "set-order"&&(!t.plain&&decide (es.size>1)))=true then _ else _) _ _ _;have rest:∀(first:X0) (s₁:X2) (R:Fin->X2->Prop),s₁.heap.get? S=some o->
   R (.done (.ret (.ref s₁.heap.objs.size))) {s₁ with heap:=s₁.heap.push {cls:=.type "set_iterator",data:=.fields #[first,.int 0 0,.ref S,.int (es.size:Nat) 0,.int ep 0]} }->
   X3 (X6 prog w) A.in1 (do let e<- setEpoch S;let v<- newFields "set_iterator" [first,Y6 0,.ref S,Y6 (es.size:Nat),Y6 e];ret v) R E s₁:=by
  intro first s₁ R ho₁ h
  refine X1 (wpAny_setEpoch_of ho₁ hd hf ?_);exact X1 (ZU (X8 h))
 have small:∀(Good:Nat->Nat->Prop) (vs:List X0),Good 0 0->vs.length=es.size->(vs.map txt).Perm zs->(∀v∈vs,∃t,v=XD (txt v) t)->
   (w.params.followText "set-order"=true\/(es.size≤1/\t.led=true))->
   (∀i sl,Good i sl->(i<es.size->∃x nx,Nx w S es ep t sl i=some (x,nx)/\vs[i]?=some x/\Good (i+1) nx)/\(i=es.size->Nx w S es ep t sl i=none))->
   ∀(s₁:X2),s₁=s->X3 (X6 prog w) A.in1 (do let e<- setEpoch S;let v<- newFields "set_iterator" [Y6 0,Y6 0,.ref S,Y6 (es.size:Nat),Y6 e];ret v)
    (fun fin s'=>∃v,fin=Fin.done (Flow.ret v)/\∃T' r,s'.TypeIs v T'/\Vt (.type T') "__next__"=pure (some r)/\Q v s') E s₁:=by
  intro Good vs g0 hlv hpv hsv hw hg s₁ e₁;subst e₁;refine rest _ _ _ ho ⟨_,rfl,"set_iterator",_,⟨_,XO _ rfl,rfl⟩,slot_setiter_next.lookup,?_⟩;refine hQ _ _ s₁.drawn ⟨[s₁.heap.objs.size,S],es.size,vs,_,λA' hh=>_ok hh (Xz hSl) hd hf rfl hw hg,⟨0,g0,⟨_,XO _ rfl,rfl,rfl⟩,Xq _ ho⟩,hlv,hpv,hsv,λb hb=>?_,Xe _⟩ λb o e=>Xq _ e;simp only[Xl,XJ,or_false]at hb;rcases hb with rfl|rfl
  ·exact .inr (Xe _)
  ·exact .inl rfl
 by_cases hbt:w.params.followText "set-order"=true
 ·rw[hbt];simp only[VL,WH,Yi,if_false];refine X1 (X8 ?_);have hpk:=_id (w.params.setOrder S ep) es;refine small (λ_ _=>True) ((pickOrder (w.params.setOrder S ep) es).toList.map (·.2)) trivial ?_ ?_ ?_ (.inl hbt) ?_ s rfl
  ·rw[Xc,hpk.length_eq,Yq]
  ·rw[Yp];exact(hpk.map _).trans hp
  ·intro v hv;obtain⟨e,he,rfl⟩:=XN.mp hv;exact hst e (hpk.mem_iff.mp he)
  ·intro i sl _;have hps:(pickOrder (w.params.setOrder S ep) es).size=es.size:=by rw[<- Yq,hpk.length_eq,Yq]
   unfold Nx;rw[if_pos hbt];refine⟨λhi=>?_,λhi=>?_⟩
   ·rw[V7 (by lia)]
    exact⟨_,_,rfl,by simp[hps,hi],trivial⟩
   ·rw[DO (by lia)]
    rfl
 ·have hbf:w.params.followText "set-order"=false:=by simpa using hbt
  have hlt:t.led=true:=by rw[hled,hbf];rfl
  rw[hbf];simp only[C2,C3];by_cases h1:es.size>1
  ·have hz:zs≠ []:=λz=>by rw[z,DE]at hsz;lia
   rw[hpl hz,decide_eq_true h1];simp only[C2,Bool.and_self,if_true];refine X1 (_ma _ _ _ _ (by simp) λjs d hj=>?_)
   obtain⟨ys,hy1,hy2,hy3⟩:=_jz es hj;have hjl:js.length=es.size:=by rw[hj.length_eq,UE]
   refine X1 (wpAny_newTuple ?_ (by rw[Xc];lia))
   refine rest _ _ _ (Xq _ ho) ⟨_,rfl,"set_iterator",_,⟨_,XO _ rfl,rfl⟩,slot_setiter_next.lookup,?_⟩;have hPne:s.heap.objs.size≠(s.heap.push {cls:=.type "tuple",data:=.seq (js.map fun i:Nat=>Y6 i).toArray}).objs.size:=by rw[Zm];lia
   have hSne:S≠(s.heap.push {cls:=.type "tuple",data:=.seq (js.map fun i:Nat=>Y6 i).toArray}).objs.size:=by rw[Zm];exact Xz (ZE hSl)
   have hIle:s.heap.objs.size≤(s.heap.push {cls:=.type "tuple",data:=.seq (js.map fun i:Nat=>Y6 i).toArray}).objs.size:=by rw[Zm];lia
   refine hQ _ _ d ⟨[_,S,s.heap.objs.size],es.size,ys.map (·.2),_,λA' hh=>_oj hh (S:=S) (P:=s.heap.objs.size) (o:=o) (js:=js)
    (op:={cls:=.type "tuple",data:=.seq (js.map fun i:Nat=>Y6 i).toArray}) hSne hPne hd hf rfl rfl hjl ?_,
    ⟨⟨_,XO _ rfl,rfl,rfl⟩,Xq _ (Xq _ ho),Xq _ (XO _ rfl)⟩,?_,?_,?_,λb hb=>?_,?_⟩
    λb o e=>Xq _ (Xq _ e)
   ·intro i j hij;obtain⟨e,he,hy⟩:=hy3 i j hij;exact⟨e,he,by rw[Xr,hy];rfl⟩
   ·rw[Xc,hy2,hjl]
   ·rw[Yp];exact(hy1.map _).trans hp
   ·intro v hv;obtain⟨e,he,rfl⟩:=XN.mp hv;exact hst e (hy1.mem_iff.mp he)
   ·simp only[Xl,XJ,or_false]at hb;rcases hb with rfl|rfl|rfl
    ·exact .inr hIle
    ·exact .inl rfl
    ·exact .inr (Xe _)
   ·exact hIle
  ·rw[decide_eq_false h1];simp only[C1,Yi,if_false];refine X1 (X8 ?_);have hfp:t.place.size=es.size:=by
    simp only[SetTable.fits,XW,beq_iff_eq,decide_eq_true_eq]at hf;exact hf.1
   refine small (λi sl=>(i=0->sl=0)/\(i=1->∃h:0<t.place.size,sl=t.place[0]+1)) (es.toList.map (·.2)) ⟨λ_=>rfl,λz=>absurd z (by lia)⟩ (by simp) ?_ ?_ (.inr ⟨by lia,hlt⟩) ?_ s rfl
   ·rw[Yp];exact hp
   ·intro v hv;obtain⟨e,he,rfl⟩:=XN.mp hv;exact hst e he
   ·intro i sl ⟨g0,g1⟩;unfold Nx;rw[if_neg hbt];refine⟨λhi=>?_,λhi=>?_⟩
    ·have hs1:es.size=1:=by lia
     have hi0:i=0:=by lia
     subst hi0;have hpz:t.place.size=1:=by lia
     rw[g0 rfl,J4 hpz,if_neg (by lia),V7 (by lia),V7 (by lia)]
     refine⟨_,_,rfl,?_,λz=>absurd z (by lia),λ_=>⟨by lia,rfl⟩⟩
     simp[hs1]
    ·have hnone:es[Ch t.place sl]?=none:=by
      by_cases h0:es.size=0
      ·exact DO (by lia)
      ·have hs1:es.size=1:=by lia
       obtain⟨hq,e⟩:=g1 (by lia)
       rw[e,J4 (by lia),if_pos (by lia)]
       exact DO (by lia)
     rw[hnone]
end
section
variable{prog:Xv}{w:Xn}{A:XA}{E:X0->X2->Prop}{s:X2}
theorem _eL(hh:A.handled=none)(ho:s.heap.get? S=some o)(hS:WSet prog w o zs)
  (hQ:∀(vs:List X0) (h':Heap) (d:Drawn) (g:Array GenState) tk,(vs.map txt).Perm zs->(∀v∈vs,∃t,v=XD (txt v) t)->(∀b o,s.heap.get? b=some o->h'.get? b=some o)->g=s.gens->s.heap.objs.size≤h'.objs.size->
   Q vs {s with heap:=h',drawn:=d,gens:=g,toks:=tk}):X3 (X6 prog w) A (collect (.ref S)) Q E s:=by
 obtain⟨hex,es,ep,t,hd,hel,hp,hb,hf,hled,hpl⟩:=id hS;have hSl:S<s.heap.objs.size:=Xu ho;have hsl:sizeLine=16777216:=by decide
 have hsb:scanBound=4096:=rfl;have hsz:es.size=zs.length:=by rw[<- hp.length_eq,Xc,Yq]
 unfold collect;refine X1 (wpAny_runValue (Z6 F.entry_proto_collect ?_));rw[Zo F.plain_proto_collect _];show X3 _ A.in1 (newList [] >>= fun l=>again (.builtin "list.__iadd__" ⟨[l,.ref S],[]⟩)) _ _ s;refine X1 (ZU ?_);refine X8 ⟨Zg F.plain_list_iadd _,Z6 F.entry_list_iadd ?_⟩;rw[Zo F.plain_list_iadd _];show X3 _ A.in1 (Hz (.ref s.heap.objs.size) (.ref S) (.ref s.heap.objs.size)) _ _ _;have hne:s.heap.objs.size≠S:=(Xz hSl).symm;generalize hL:s.heap.objs.size=L at*;have hgL:(s.heap.push {cls:=.type "list",data:=.seq ([]:List X0).toArray}).get? L=some {cls:=.type "list",data:=.seq ([]:List X0).toArray}:=by
  rw[<- hL];exact XO _ rfl
 have hgS:(s.heap.push {cls:=.type "list",data:=.seq ([]:List X0).toArray}).get? S=some o:=Xq _ ho;have hbig:(s.heap.push {cls:=.type "list",data:=.seq ([]:List X0).toArray}).objs.size=L+1:=by rw[Zm,hL]
 have hold:∀b u,s.heap.get? b=some u->b≠L/\(s.heap.push {cls:=.type "list",data:=.seq ([]:List X0).toArray}).get? b=some u:=fun b u e=>
  ⟨by rw[<- hL];exact Xz (Xu e),Xq _ e⟩
 generalize s.heap.push {cls:=.type "list",data:=.seq ([]:List X0).toArray}=h₁ at*;have hT:WN {s with heap:=h₁} (.ref S) "set":=⟨o,hgS,hex.1⟩;unfold Hz;refine X1 (Zy hT ?_);have e1:HA (.ref L) (.ref S)=false:=by simp[HA,hne]
 have e2:(XC "set"==XC "list")=false:=by decide
 have e3:(XC "set"==XC "tuple")=false:=by decide
 simp only[e1,e2,e3,Bool.or_false,Yi,if_false];refine X1 (_hI (s:={s with heap:=h₁}) hgS hS λI h₂ d hW hk=>?_);obtain⟨fp,n,vs,St,hWk,hst,hvn,hvp,hvs,hfp,hI⟩:=hW;have hk':∀b u,h₁.get? b=some u->h₂.get? b=some u:=hk;have hT2:WN {s with heap:=h₂,drawn:=d} (.ref S) "set":=⟨o,hk' _ _ hgS,hex.1⟩;refine X1 (YM ?_);unfold Builtin.List.listLengthHint;refine X1 (wpAny_specialOf hT2 F.slot_set_len.lookup ?_);have hsp:splitId "set.__len__"=some ("set","__len__"):=by decide+kernel
 extract_lets j1 j2
 dsimp -zeta only;rw[hsp];dsimp -zeta only;refine X1 (UC hT2 sub_set_self ?_);simp only[VL,Yi,if_false];show X3 _ _ (ite (_=true) _ _) _ _ _;split
 case isFalse hs=>exact absurd (by rfl) hs
 refine X1 (Zy hT2 ?_);refine X8 ?_;split
 case isFalse hs=>exact absurd (by rfl) hs
 refine X1 (UD ?_);refine X1 ?_;have hS₁:h₂.get? L=some {cls:=.type "list",data:=.seq ([]:List X0).toArray}:=hk' _ _ hgL;show X3 _ A.in1 (updateSeq L (·.push .none)>>= λ_=>updateSeq L (·.pop)) _ _ _;refine X1 (wpAny_updateSeq hS₁ rfl ?_);have hS₂:=V3 (U4 (·.push Xt)) hS₁ rfl;refine wpAny_updateSeq hS₂ rfl ?_;have hS₃:=V3 (U4 (·.pop)) hS₂ rfl;have oth:∀b o,b≠L->h₂.get? b=some o->((h₂.update L (U4 (·.push Xt))).update L (U4 (·.pop))).get? b=some o:=
  λb o hb e=>(VI _ _ (XQ hb)).trans ((VI _ _ (XQ hb)).trans e)
 have hLf:L∉fp:=λz=>by
  rcases hfp L z with e|e
  ·exact hne e
  ·have:L+1≤L:=hbig▸e;lia
 have hin:A.in1.handled=none:=by simp[hh]
 have W:=(hWk A.in1 hin).toS;have hn:n≤sizeLine:=by
  have:n=zs.length:=by rw[<- hvn,<- hvp.length_eq,Xc]
  lia
 refine X8 ⟨Zg F.plain_extend_loop _,codeAny_extend_loopS W hn L hLf _ n 0 _ _ _ rfl (YH _)
  (W.frame 0 ({s with heap:=h₂,drawn:=d}:X2) _ s.toks hst (Xe _) λb hb o e=>oth b o (λz=>hLf (z▸hb)) e) hS₃ (ItemsOf.nil _) λs' acc' c' hm hS' hacc=>?_⟩
 show X3 _ A (load L >>= _) _ _ s';refine X1 (Vr hS' ?_);have hav:acc'.toList=vs:=by
  refine BM λi=>?_;by_cases hi:i<acc'.size
  ·have e:=hacc.2 i acc'[i] (by simp[hi])
   rw[e];simp[hi]
  ·rw[Zi (by simp;lia),Zi (by have:=hacc.1;lia)]
 obtain⟨h',g',d',tk',os'⟩:=s';have eg:g'=s.gens:=hm.gens;have ed:d'=d:=hm.drawn;have eo:os'=s.os:=hm.os;subst ed;subst eo;refine X8 ?_;show Q acc'.toList _;rw[hav];refine hQ vs h' _ g' tk' hvp hvs (λb u e=>?_) eg (BY (Xu hS'));have hbL:=hold b u e;refine hm.heap b u ?_ (oth b u hbL.1 (hk' b u hbL.2));simp only[Xl,XJ,or_false,not_or];refine⟨hbL.1,λz=>?_⟩;have h1:L+1≤I:=Y2 (WG hbig.symm) hI;have h2:b<L:=by rw[<- hL];exact Xu e
 rw[z]at h2;exact absurd h1 (Nat.not_le_of_lt (ZE h2))
theorem _ff(hh:A.handled=none)(ho:s.heap.get? S=some o)(hS:WSet prog w o zs)(h64:zs.length<64)
  (h:∀(p:Addr) (h':Heap) (d:Drawn) tk (out:List X0) (ss:List Str) (e:Nat),s.heap.objs.size≤p->(∀b o,s.heap.get? b=some o->h'.get? b=some o)->h'.get? p=some (seqObj "list" out.toArray e)->
   StrsAre out ss->ss.Perm zs->sortedS ss=true->Q (.ref p) {s with heap:=h',drawn:=d,toks:=tk}):
  X3 (X6 prog w) A (call (.builtin "sorted") [.ref S]) Q E s:=by
 refine Calls.call_function_entry kind_sorted plain_sorted entry_sorted (args_sorted1 _) ?_;unfold Builtin.«sorted»;refine X1 (m:=checkCount "sorted" 1 1 _) (X8 ?_);have hsl:sizeLine=16777216:=by decide
 refine X1 (_eL (by simp[hh]) ho hS λvs h₁ d g tk hp hv hk hg hle=>?_)
 subst hg;have hl:vs.length=zs.length:=by rw[<- hp.length_eq,Xc]
 refine X1 (wpAny_newList ?_ (by lia))
 have hoL:(h₁.push (seqObj "list" vs.toArray 0)).get? h₁.objs.size=some (seqObj "list" vs.toArray 0):=XO _ rfl;have hS':StrsAre vs (vs.map strOf):=strsAre_map vs λv hm=>by obtain⟨t,e⟩:=hv v hm;exact⟨_,t,e⟩
 have hto:vs.map strOf=vs.map txt:=List.map_congr_left λv hm=>by obtain⟨t,e⟩:=hv v hm;rw[e];rfl
 show X3 _ _ _ _ _ {s with heap:=h₁.push (seqObj "list" vs.toArray 0),drawn:=d,toks:=tk};refine X1 (YM (Zf slot_list_sort ⟨_,hoL,rfl⟩ entry_list_sort (list_sort_treeK strKind_oneLt hoL hS'.keysOf (λv₁ v₂ rest e=>keyKind_strs (by rw[<- e];exact hS')) (by lia) λst' a1 a2=>⟨_,rfl,?_⟩) (args_list_sort _)))
 obtain⟨ss',z1,z2,z3⟩:=sorted_out_str hS' a1 a2;refine X8 ⟨_,rfl,?_⟩;obtain⟨e,he⟩:=sortedHeap_at (out:=(arrOf st').map (·.2)) hoL;refine h h₁.objs.size _ d tk ((arrOf st').map (·.2)).toList ss' e hle (λb o hb=>?_) (by rw[Array.toArray_toList];exact he) z1 (by rw[hto]at z2;exact z2.trans hp) z3
 have hb1:=hk b o hb;have hlt:b<h₁.objs.size:=Xu hb1;rw[sortedHeap_old (Xz hlt) (by rw[size_push'];exact ZE hlt)]
 exact Xq _ hb1
end
theorem Inv.drew(I:Inv X pins σ H s)(d:Drawn):Inv X pins σ H {s with drawn:=d}:=
 ⟨I.ok,I.os,I.bare,I.base,I.loc,I.cell,I.free,I.freeC,I.pin,I.hok,I.len⟩
theorem few{zs:List Str}(nd:zs.Nodup):∀(N:List Str),(∀z∈zs,z∈N)->zs.length≤N.length:=by
 induction zs with
 |nil=>intro N _;exact YH _
 |cons z zs ih=>
  intro N h;rw[YG]at nd;have hz:=h z Y8;have hp:=List.perm_cons_erase hz;have:=ih nd.2 (N.erase z) λy hy=>by
   have:=hp.mem_iff.mp (h y (XS _ hy));rcases Xl.mp this with e|e
   ·exact absurd (e▸hy) nd.1
   ·exact e
  have hl:=hp.length_eq;simp only[Yh]at hl ⊢;lia
theorem J5:∀{vs:List X0} {ss:List Str},StrsAre vs ss->Vals (ss.map V.str) vs
 |_,_,.nil=>.nil
 |_,_,.cons x t h=>.cons ⟨t,rfl⟩ (J5 h)
def A3(X:Cx)(f g:X0)(r:V->Hp->VK->Prop):Prop:=
 ∀(pins:List (Addr×Obj)) (s:X2) (σ:St) (H:Hp) (x:V) (u:X0) (Q:VK),Inv X pins σ H s->RelV x u->r x H Q->
  X3 (X6 X.prog X.w) X.A (call g [u]) (λv s1=>X3 (X6 X.prog X.w) X.A (call f [v]) (EP X pins σ Q) X.xe s1) X.xe s
section
variable{X:Cx}
theorem Ef{x y:Str}{id T:String}{r:V->Hp->VK->Prop}{e:Expr}{t:TE}{p p' pos pos':Pos}(hc:A3 X (.builtin id) (.type T) r)
  (hg:Gl X x) (hm:X.mg x=none) (hv:YF x=some (.builtin id)) (hg':Gl X y) (hm':X.mg y=none) (hv':YF y=some (.type T)) (ha:PE X e t)
  (hn:x≠"__name__") (hdb:(x==("__debug__":Str))=false) (hn':y≠"__name__") (hdb':(y==("__debug__":Str))=false)
  (he:XB [e] X.env=(false,eval e X.env)::XB [] X.env):
  PE X (.Call (.Name x p) [.Call (.Name y p') [e] [] pos'] [] pos) (λσ H Q=>t σ H λv H1=>r v H1 Q):=by
 intro pins s σ H Q I h;refine UB (UL I hg hm hv ?_ hn hdb);refine Hd ?_ rfl rfl;show X3 _ _ (spliced ((false,eval (.Call (.Name y p') [e] [] pos') X.env)::XY pos (XB [] X.env))) _ _ s;refine WL ?_;refine UB (UL I hg' hm' hv' ?_ hn' hdb');refine WK ?_ he rfl;rw[he];show X3 _ _ (spliced ((false,eval e X.env)::XY pos' (XB [] X.env))) _ _ s;refine WL (thn (ha pins s σ H _ I h) λu s1 ⟨v,H1,I1,r1,q1⟩=>?_);refine WM ?_;exact thn (hc pins s1 σ H1 v u Q I1 r1 q1) λu2 s2 q2=>WM q2
theorem _jr(hcalm:X.calm=true):A3 X (.builtin "sorted") (.type "set") (fun x H Q=>∃(a:Addr) (xs N:List Str),x=.ref a/\SqL X.K H a (xs.map V.str)/\xs.length+1<scanBound/\(∀z∈xs,z∈N)/\N.length<64/\
  ∀p (ys:List Str),H p=none->ys.Nodup->(∀y,y∈ys↔y∈xs)->sortedS ys=true->Q (.ref p) (upd H p (.lst (ys.map V.str)))):=by
 intro pins s σ H x u Q I rx h;obtain⟨a,xs,N,rfl,ha,hlen,hN,hN64,q⟩:=h;cases rx;obtain⟨its,rv,p,hz⟩:=I.list ha;have hh:=I.ok.hd hcalm;have hil:its.length=xs.length:=by rw[<- rv.length,Xc]
 have hsz:its.toArray.size=xs.length:=by simp[hil]
 have hi:∀(i:Nat) (v:X0),its.toArray[i]?=some v->∃t,v=XD (xs.getD i ⟨#[]⟩) t:=λi v hv=>by
  have hv':its[i]?=some v:=by simpa using hv
  have hlt:i<xs.length:=by rw[<- hil];exact(XG.mp hv').1
  obtain⟨u,hu,ru⟩:=rv.get (i:=i) (x:=V.str xs[i]) (by simp[hlt])
  rw[hv']at hu;cases hu;obtain⟨t,rfl⟩:=ru;exact⟨t,by simp[WC,hlt]⟩
 have hmem:∀y,y∈met (λi=>xs.getD i ⟨#[]⟩) xs.length↔y∈xs:=λy=>by
  rw[IQ,List.mem_iff_getElem];constructor
  ·rintro⟨j,hj,rfl⟩;exact⟨j,hj,by simp[WC,hj]⟩
  ·rintro⟨j,hj,rfl⟩;exact⟨j,hj,by simp[WC,hj]⟩
 refine _js (f:=λi=>xs.getD i ⟨#[]⟩) hh p.isList hi (by rw[hsz];exact hlen) λh1 tk1 o ho hS hk=>?_
 rw[hsz]at hS;have I1:Inv X pins σ H {s with heap:=h1,toks:=tk1}:=I.kept λb u e=>hk b u (Xu e) e;have nd:=IP (λi=>xs.getD i ⟨#[]⟩) xs.length;refine _ff (s:={s with heap:=h1,toks:=tk1}) hh ho hS (Nat.lt_of_le_of_lt (few nd N λz hz=>hN z ((hmem z).mp hz)) hN64) λp2 h2 d tk2 out ss e hp hk2 hp2 ho2 hperm hsort=>?_;have hlen2:ss.length≤sizeLine:=by
  have hsl:sizeLine=16777216:=by decide
  have:=few nd N λz hz=>hN z ((hmem z).mp hz);rw[hperm.length_eq];lia
 have I2:=(I1.laid (a:=p2) (t':=tk2) (h':=h2) (o:=.lst (ss.map V.str)) (λb u e=>hk2 b u e) hp
  ⟨by rw[Xc];exact hlen2,out,e,J5 ho2,hp2⟩).drew d
 exact⟨.ref p2,_,I2,rfl,q p2 ss (I1.hok.fresh hp) (hperm.nodup_iff.mpr nd) (λy=>(hperm.mem_iff).trans (hmem y)) hsort⟩
end
theorem _es:Vt (.type "list") "keys"=pure none:=by rw[Vv,Vw];kernel_rfl
theorem _et:Vt (.type "list") "__getattr__"=pure none:=by rw[Vv,Vw];kernel_rfl
theorem W4:isSubtype (.type "AttributeError") (.type "AttributeError")=pure true:=by rw[isSubtype_type];kernel_rfl
section
variable{prog:Xv}{w:Xn}{A:XA}{E:X0->X2->Prop}{h:Heap}{g:Array GenState}{d:Drawn}{t:Nat}{os:OsState}{a:Addr}{its:Array X0}{n:Nat}
theorem _hc(hx:h.get? a=some (seqObj "list" its n))(hh:A.handled=none)
  (hE:∀e h' t',(∀b o,h.get? b=some o->h'.get? b=some o)->(∃o,h'.get? e=some o/\o.cls=.type "AttributeError")->E (.ref e) ⟨h',g,d,t',os⟩):
  X3 (X6 prog w) A (Builtin.«object.__getattribute__» ⟨[.ref a,.str "keys" tk],[]⟩) Q E ⟨h,g,d,t,os⟩:=by
 have hT:(⟨h,g,d,t,os⟩:X2).TypeIs (.ref a) "list":=⟨_,hx,rfl⟩;have f4:=_es;unfold Builtin.«object.__getattribute__»
 repeat (any_goals (first|assumption|wp_step))
 have hmsg:¬(Ye (toString "'"++toString ((VS "list").elim "list" fun x=>x.tpName)++toString "' object has no attribute '")++Ye "keys"++Ye "'").length>sizeLine:=by decide+kernel
 generalize(Ye (toString "'"++toString ((VS "list").elim "list" fun x=>x.tpName)++toString "' object has no attribute '")++Ye "keys"++Ye "'")=msg at hmsg ⊢;unfold raiseAttrError;refine X1 ?_;unfold mkStr;rw[if_neg hmsg]
 repeat (any_goals (first|assumption|wp_step))
 show X3 _ _ (isSubtype (.type "AttributeError") (.type "AttributeError")) _ _ _;rw[W4];generalize(if((VS "AttributeError").elim false fun t=>t.mro.contains "StopIteration"||t.mro.contains "SystemExit")=true then [XD msg t].headD Xt else Xt)=fm;refine X8 ?_;simp only[VL,Yi,if_false];have hoE:((h.push {cls:=XC "tuple",data:=YW #[XD msg t]}).push {cls:=XC "AttributeError",data:=U3 (#[Xo h.objs.size,Xt,Xt,Xt,Y9 false,fm]++YV (XC "AttributeError") [XD msg t])}).get? (h.push {cls:=XC "tuple",data:=YW #[XD msg t]}).objs.size=some {cls:=XC "AttributeError",data:=U3 (#[Xo h.objs.size,Xt,Xt,Xt,Y9 false,fm]++YV (XC "AttributeError") [XD msg t])}:=XO _ rfl;have e6:(#[Xo h.objs.size,Xt,Xt,Xt,Y9 false,fm]++YV (XC "AttributeError") [XD msg t])[6]?=some (.int 0 0):=rfl;have e7:(#[Xo h.objs.size,Xt,Xt,Xt,Y9 false,fm]++YV (XC "AttributeError") [XD msg t])[7]?=some (.int 0 0):=rfl;have old:∀b o,h.get? b=some o->((h.push {cls:=XC "tuple",data:=YW #[XD msg t]}).push {cls:=XC "AttributeError",data:=U3 (#[Xo h.objs.size,Xt,Xt,Xt,Y9 false,fm]++YV (XC "AttributeError") [XD msg t])}).get? b=some o/\b<(h.push {cls:=XC "tuple",data:=YW #[XD msg t]}).objs.size:=fun b o e=>
  ⟨Xq _ (Xq _ e),by rw[Zm];exact ZE (Xu e)⟩
 generalize(h.push {cls:=XC "tuple",data:=YW #[XD msg t]}).objs.size=ea at*;generalize((h.push {cls:=XC "tuple",data:=YW #[XD msg t]}).push {cls:=XC "AttributeError",data:=U3 (#[Xo h.objs.size,Xt,Xt,Xt,Y9 false,fm]++YV (XC "AttributeError") [XD msg t])})=h2 at*;generalize hvs:#[Xo h.objs.size,Xt,Xt,Xt,Y9 false,fm]++YV (XC "AttributeError") [XD msg t]=vs at*;refine X1 (Vr hoE ?_);dsimp only;rw[e6,e7];simp only[VM,Yi,if_false];rw[if_neg (by decide)]
 refine X8 ?_;simp only[if_true];have hT2:(⟨h2,g,d,t+1+1,os⟩:X2).TypeIs (.ref ea) "AttributeError":=⟨_,hoE,rfl⟩;refine X1 (UD ?_);refine X1 (Zy hT2 ?_);dsimp only;unfold layMembers;refine X1 (Vr hoE ?_);dsimp only;refine wpAny_update hoE ?_;unfold raiseNew;refine X1 (wpAny_handled ?_);rw[hh];show X3 _ _ (throw (Xo ea)) _ _ _;have hup:=V3 (DX fun vs=>vs.extract 0 6++#[XD (Ye "keys") (t+1),Xo a]) hoE (DV (Ci rfl _));refine wpAny_throw (hE ea _ _ (λb o e=>?_) ⟨_,hup,DW ..⟩);have:=old b o e;exact(VI _ _ (V5 this.2)).trans this.1
theorem _no(hx:h.get? a=some (seqObj "list" its n))(hh:A.handled=none)
  (hE:∀e h' t',(∀b o,h.get? b=some o->h'.get? b=some o)->(∃o,h'.get? e=some o/\o.cls=.type "AttributeError")->E (.ref e) ⟨h',g,d,t',os⟩):
  X3 (X6 prog w) A (getAttrBy (.ref a) (.str "keys" tk) false) Q E ⟨h,g,d,t,os⟩:=by
 have hT:(⟨h,g,d,t,os⟩:X2).TypeIs (.ref a) "list":=⟨_,hx,rfl⟩;have f2:=Ce.lookup;have f3:=Ce.bind (.ref a)
 repeat (any_goals (first|assumption|wp_step))
 refine Wq Ce.plain F.entry_list_ga (Ce.check _ _ _ _ _ _ _ _ hT (F.args_list_getattribute_2 _ _) (_hc hx (by simp[hh]) λe h' t' k ho=>?_))
 have hTe:(⟨h',g,d,t',os⟩:X2).TypeIs (.ref e) "AttributeError":=ho;show X3 _ _ (BG _ _ _ _ _ _ _) _ _ _;unfold BG;refine X1 (UC hTe W4 ?_);simp only[if_true];unfold hookBehind onTheHeap;simp only[Yi,if_false];rw[_et];refine X1 (X8 ?_);unfold hookOrError attributeErrorLeaves;simp only[C2,if_true];exact X1 (wpAny_throw (hE e h' t' k ho))
theorem _iw(hx:s.heap.get? a=some (seqObj "list" its n))(hh:A.handled=none)
  (hQ:∀h' t',(∀b o,s.heap.get? b=some o->h'.get? b=some o)->Q none {s with heap:=h',toks:=t'}):X3 (X6 prog w) A (getAttr? (.ref a) "keys") Q E s:=by
 obtain⟨h,g,d,t,os⟩:=s;unfold getAttr? getAttrBy? mkText;refine X1 (X1 (wpAny_fresh (X8 ?_)));refine X1 (wpAny_attempt (_no hx hh λe h' t' k ho=>?_));have hTe:(⟨h',g,d,t',os⟩:X2).TypeIs (.ref e) "AttributeError":=ho;refine X1 (UC hTe W4 ?_);simp only[if_true];exact X8 (hQ h' t' k)
end
theorem J7:entryFor table "dict.update.loop"=some Builtin.«dict.update.loop»:=entryFor_of_tree (by kernel_rfl)
theorem A4:plainId "dict.update.loop"=true:=by decide+kernel
section
variable{prog:Xv}{w:Xn}{A:XA}{E:X0->X2->Prop}{s:X2}{K:Type} [DecidableEq K] {knd:KeyKind prog w K}
noncomputable def stTo(ks:Nat->K)(vs:Nat->X0):Nat->List (K×X0)
 |0=>[]
 |i+1=>stored (stTo ks vs i) (ks i) (vs i)
theorem _f8(kvs:List (K×X0))(k:K)(v:X0):(stored kvs k v).length≤kvs.length+1:=by
 unfold stored;split<;>simp
theorem CA(ks:Nat->K)(vs:Nat->X0):∀i,(stTo ks vs i).length≤i
 |0=>Xe _
 |i+1=>Y2 (_f8 _ _ _) (Nat.succ_le_succ (CA ks vs i))
theorem J8{St:Nat->X2->Prop}
  (W:WalksS prog w A.in1 I fp wr G n P St) (D:Addr) (hDf:D∉fp) (ks:Nat->K) (vs:Nat->X0) (hb:n≤sizeLine):
  ∀(k i:Nat) (s:X2),n - i=k->i≤n->St i s->s.heap.DictOf knd D (stTo ks vs i)->
   (∀j v,P j v->∃q uk np oq,v=.ref q/\q≠D/\q∉wr/\s.heap.get? q=some oq/\oq.cls=.type "tuple"/\oq.data=.seq #[uk,vs j] np/\knd.is (ks j) uk=true)->
   (∀s',Moved (D::wr) G s s'->s'.heap.DictOf knd D (stTo ks vs n)->R (.ok (.ret .none)) s')->
   YU (X6 prog w) A (.builtin "dict.update.loop" ⟨[.ref D,.ref I,Y6 (i:Nat),.none],[]⟩) R s:=by
 have hDw:D∉wr:=λh=>hDf (W.sub _ h);have hsub:∀b∈wr,b∈D::wr:=λb hb=>XS _ hb;intro k
 induction k with
 |zero=>
  intro i s hk hi hst hd ht hR;have hin:i=n:=by lia
  subst hin;refine Z6 J7 ?_;rw[Zo A4 _];show X3 _ A.in1 (pyNext (.ref I)>>= _) _ _ s;refine X1 (W.done s _ _ hst λs' hm=>?_);refine X1 (m:=Builtin.Dict.addKeywords D []) (X8 ?_);refine X8 (hR s' (hm.mono hsub) ?_);obtain⟨o,es,ep,ho,r⟩:=hd;exact⟨o,es,ep,hm.heap D _ hDw ho,r⟩
 |succ k ih=>
  intro i s hk hi hst hd ht hR;have hlt:i<n:=by lia
  refine Z6 J7 ?_;rw[Zo A4 _];show X3 _ A.in1 (pyNext (.ref I)>>= _) _ _ s;refine X1 (W.item i s _ _ hlt hst λv s' hP hst' hm=>?_);obtain⟨q,uk,np,oq,rfl,hqD,hqw,hq,hqc,hqd,hkey⟩:=ht i v hP;have hq':=hm.heap q _ hqw hq;have hd':s'.heap.DictOf knd D (stTo ks vs i):=by
   obtain⟨o,es,ep,ho,r⟩:=hd;exact⟨o,es,ep,hm.heap D _ hDw ho,r⟩
  have hT:s'.TypeIs (.ref q) "tuple":=⟨_,hq',hqc⟩;show X3 _ A.in1 (Z3 [Xo q] _ >>= _) _ _ s';refine X1 (YM ?_);refine X1 (wpAny_tryCatch ?_);unfold Builtin.Dict.pairItems;refine X1 (Zy hT ?_);have e2:(XC "tuple"==XC "tuple")=true:=rfl;rw[e2,Bool.or_true,if_pos rfl];refine X1 (wpAny_seqItems hq' hqd (X8 ?_));show X3 _ A.in1 (Z3 [uk,vs i] (dictSet D uk (vs i))) _ _ s';refine YM ?_;have hl:=CA ks vs i;refine wpAny_dictSet_pairs (knd:=knd) hkey hd' (λh' hd2 hsb=>?_) (by lia)
  refine X8 ⟨Zg A4 _,?_⟩;have:=ih (i+1) {s' with heap:=h',toks:=s'.toks+1} (by lia) hlt (W.frame _ s' _ _ hst' (UI _) λb hb o e=>?_) hd2 (λj v hPj=>?_) λs'' hm'' hd''=>?_
  ·exact this
  ·rw[hsb.2 b (λz:b=D=>hDf (by rw[<- z];exact hb))];exact e
  ·obtain⟨q,uk,np,oq,rfl,a1,a2,a3,a4⟩:=ht j v hPj;exact⟨q,uk,np,oq,rfl,a1,a2,(hsb.2 q a1).trans (hm.heap q _ a2 a3),a4⟩
  ·refine hR s'' (Moved.trans W.gtrans ((hm.mono hsub).then_heap (UI _) λb o hb e=>?_) hm'') hd'';rw[hsb.2 b (λz:b=D=>hb (by rw[z];exact Y8))];exact e
theorem _hx{items:Array X0}(hh:A.handled=none)(hl:s.heap.get? l=some (seqObj "list" items nl))(hn:items.size≤sizeLine)
  (ht:∀(j:Nat) v,items[j]?=some v->∃q uk np oq,v=.ref q/\s.heap.get? q=some oq/\oq.cls=.type "tuple"/\oq.data=.seq #[uk,vs j] np/\knd.is (ks j) uk=true)
  (h:∀h' tk,h'.DictOf knd s.heap.objs.size (stTo ks vs items.size)->(∀b o,b<s.heap.objs.size->s.heap.get? b=some o->h'.get? b=some o)->Q (.ref s.heap.objs.size) {s with heap:=h',toks:=tk}):
  X3 (X6 prog w) A (call (.type "dict") [.ref l]) Q E s:=by
 refine callType_codes (Q₁:=fun obj s₁=>obj=.ref s.heap.objs.size/\s₁={s with heap:=s.heap.push {cls:=.type "dict",data:=.dict #[]} }) F.kt_called_dict (F.kt_typeCall_dict_1 _) F.entry_dict_init (kt_code_dict_new _ ⟨rfl,rfl⟩) ?_;rintro obj s₁ ⟨rfl,rfl⟩;have hnew:(s.heap.push {cls:=.type "dict",data:=.dict #[]}).DictOf knd s.heap.objs.size []:=E2 s.heap;have hl':(s.heap.push {cls:=.type "dict",data:=.dict #[]}).get? l=some (seqObj "list" items nl):=Xq _ hl;have hT:WN {s with heap:=s.heap.push {cls:=.type "dict",data:=.dict #[]} } (.ref l) "list":=⟨_,hl',rfl⟩;refine⟨hnew.typeIs,F.args_dict_init_2 _ _,?_⟩;unfold Builtin.«dict.__init__»;refine X1 ?_;unfold Hm;refine X1 (BE hnew.typeIs ?_);show X3 _ _ (pure (s.heap.objs.size,[Xo l])) _ _ _;refine X8 ?_;show X3 _ _ (Cc "dict.__init__" s.heap.objs.size (.ref l) [] .none) _ _ _;unfold Cc;refine X1 (Zy hT ?_);rw[if_pos (by decide)]
 refine X1 (_iw (s:={s with heap:=s.heap.push {cls:=.type "dict",data:=.dict #[]} }) hl' (by simp[hh]) fun h1 t1 hk1=>?_)
 simp only[Option.isNone_none,if_true];refine X1 (UD ?_);have hl1:h1.get? l=some (seqObj "list" items nl):=hk1 _ _ hl';have hL1:h1.IsList l items:=⟨_,hl1,rfl,nl,rfl⟩;have hlS:l<s.heap.objs.size:=Xu hl;have hbig:s.heap.objs.size<h1.objs.size:=by
  obtain⟨o,es,ep,ho,_⟩:=hnew;exact Xu (hk1 _ _ ho)
 refine X1 (BF (s:={s with heap:=h1,toks:=t1}) hL1 ?_);have hneI:l≠h1.objs.size:=Xz (V6 hlS hbig);refine X8 ⟨Zg A4 _,?_⟩;refine J8 (knd:=knd) (n:=items.size) ((Walks.list (A:=A.in1.in1) (by simp[hh]) h1.objs.size l hneI items).toS) s.heap.objs.size ?_ ks vs hn items.size 0 _ rfl (YH _)
  ⟨⟨_,XO _ rfl,rfl,rfl⟩,hL1.push _⟩ ?_ ?_ ?_
 ·simp only[Xl,XJ,or_false,not_or];exact⟨Xz hbig,V5 hlS⟩
 ·obtain⟨o,es,ep,ho,r⟩:=hnew;exact⟨o,es,ep,Xq _ (hk1 _ _ ho),r⟩
 ·intro j v hv;obtain⟨q,uk,np,oq,rfl,a1,a2⟩:=ht j v hv;have hqS:q<s.heap.objs.size:=Xu a1;refine⟨q,uk,np,oq,rfl,Xz hqS,?_,Xq _ (hk1 _ _ (Xq _ a1)),a2⟩;simp only[XX];exact Xz (V6 hqS hbig)
 ·intro s' hm hd;obtain⟨h',g',d',tk',os'⟩:=s';have eg:g'=s.gens:=hm.gens;have ed:d'=s.drawn:=hm.drawn;have eo:os'=s.os:=hm.os;subst eg;subst ed;subst eo;refine⟨rfl,h h' tk' hd λb o hb e=>?_⟩;refine hm.heap b o ?_ (Xq _ (hk1 _ _ (Xq _ e)));simp only[Xl,XJ,or_false,not_or];exact⟨Xz hb,Xz (V6 hb hbig)⟩
end
def Eg(H:Hp):List (Key×V)->List V->Prop:=Paired fun(p:Key×V) (v:V)=>∃q,v=.ref q/\H q=some (.tup [kV p.1,p.2])
def ZK(ps:List (Key×V)):List (Key×V):=ps.foldl (λc z=>putK c z.1 z.2) []
theorem Paired.at{α β:Type}{R:α->β->Prop}:∀{xs:List α} {ys:List β},Paired R xs ys->∀(i:Nat) (y:β),ys[i]?=some y->∃x,xs[i]?=some x/\R x y
 |_,_,.nil,i,y,h=>by simp at h
 |_,_,.cons r _,0,y,h=>by simp at h;subst h;exact⟨_,rfl,r⟩
 |_,_,.cons _ t,i+1,y,h=>by simp at h;obtain⟨x,hx,r⟩:=Paired.at t i y h;exact⟨x,by simpa using hx,r⟩
section
variable{X:Cx}
theorem _hw(hcalm:X.calm=true):YA X (.type "dict") (fun xs H Q=>∃(a:Addr) (ps:List (Key×V)) (qs:List V),xs=[.ref a]/\H a=some (.lst qs)/\Eg H ps qs/\∀p,H p=none->Q (.ref p) (upd H p (.dK (ZK ps)))):=by
 intro pins s σ H xs us Q I r h;obtain⟨a,ps,qs,rfl,ha,hp,q⟩:=h;obtain⟨u,rfl,ru⟩:=_p r;cases ru;obtain⟨hz,its,nl,rv,hl⟩:=(show ObjOk X.prog X.w H s.heap a (.lst qs)from I.hok a _ ha);have hh:=I.ok.hd hcalm;have hlen:its.length=ps.length:=by rw[<- rv.length,hp.length]
 have hpair:∀(j:Nat) v,its.toArray[j]?=some v->∃q uk uv np oq,v=.ref q/\s.heap.get? q=some oq/\oq.cls=.type "tuple"/\oq.data=.seq #[uk,uv] np/\∃p,ps[j]?=some p/\RelV (kV p.1) uk/\RelV p.2 uv:=fun j v hv=>by
  have hv':its[j]?=some v:=by simpa using hv
  obtain⟨y,hy,ry⟩:=Paired.at rv j v hv';obtain⟨p,hpj,q,rfl,hq⟩:=Paired.at hp j y hy;cases ry;obtain⟨_,ts,rt,ht⟩:=(show ObjOk X.prog X.w H s.heap q (.tup [kV p.1,p.2])from I.hok q _ hq);obtain⟨uk,uv,rfl,r1,r2⟩:=VX rt;obtain⟨oq,ho,hc,n,hd⟩:=ht.1;exact⟨q,uk,uv,n,oq,rfl,ho,hc,hd,p,hpj,r1,r2⟩
 obtain⟨vs,hvs⟩:∃vs:Nat->X0,∀(j:Nat) v,its.toArray[j]?=some v->∃q uk np oq,v=.ref q/\s.heap.get? q=some oq/\oq.cls=.type "tuple"/\oq.data=.seq #[uk,vs j] np/\∃p,ps[j]?=some p/\RelV (kV p.1) uk/\RelV p.2 (vs j):=by
  refine⟨λj=>if h:j<its.length then(hpair j its[j] (by simp[h])).choose_spec.choose_spec.choose else .none,λj v hv=>?_⟩
  have hv':its[j]?=some v:=by simpa using hv
  obtain⟨hj,rfl⟩:=XG.mp hv';dsimp only;rw[dif_pos hj];have z:=(hpair j its[j] (by simp[hj]))
  exact⟨z.choose,z.choose_spec.choose,z.choose_spec.choose_spec.choose_spec⟩
 refine _hx (knd:=Yz X.prog X.w) (ks:=λj=>(ps.getD j (.inl 0,.non)).1) (vs:=vs) hh hl (by simpa [<- rv.length]using hz) (λj v hv=>?_) λh' tk hd hk=>?_
 ·obtain⟨q,uk,np,oq,e1,e2,e3,e4,p,hpj,r1,r2⟩:=hvs j v hv;refine⟨q,uk,np,oq,e1,e2,e3,e4,UM ?_⟩;rw[Ym,hpj];exact r1
 have kv:∀i,i≤ps.length->KV ((ps.take i).foldl (λc z=>putK c z.1 z.2) []) (stTo (λj=>(ps.getD j (.inl 0,.non)).1) vs i):=by
  intro i
  induction i with
  |zero=>intro _;exact .nil
  |succ i ih=>
   intro hi;have hlt:i<its.length:=by lia
   obtain⟨q,uk,np,oq,e1,e2,e3,e4,p,hpj,r1,r2⟩:=hvs i its[i] (by simp[hlt])
   rw[ZC,hpj,DZ,Dy];show KV (putK _ p.1 p.2) (stored _ (ps.getD i (.inl 0,.non)).1 _);have ek:(ps.getD i (.inl 0,.non)).1=p.1:=by rw[Ym,hpj];rfl
   rw[ek];exact(ih (by lia)).put p.1 r2
 have kvn:=kv ps.length (Xe _);rw[Dz]at kvn;have hsz:its.toArray.size=ps.length:=by simp[hlen]
 rw[hsz]at hd;have hpl:ps.length≤sizeLine:=by rw[hp.length];exact hz
 have zl:(ZK ps).length≤sizeLine:=by
  have:=kvn.length;have l2:=CA (λj=>(ps.getD j (.inl 0,.non)).1) vs ps.length;unfold ZK;lia
 exact⟨.ref s.heap.objs.size,_,I.laid (a:=s.heap.objs.size) (o:=.dK (ZK ps)) (t':=tk) (λb u e=>hk b u (Xu e) e) (Xe _) (WX zl (beq_eq_false_iff_ne.mpr (XQ (Xz I.big))) kvn hd),rfl,q _ (I.hok.fresh (Xe _))⟩
end
section
variable{X:Cx}
theorem _jA:∀(bs:List Bool),((Xs bs.length).all λi=>bs.getD i true)=bs.all id:=by
 intro bs;have e:(Xs bs.length).map (λi=>bs.getD i true)=bs:=by
  refine BP (by simp) λi h1 h2=>?_
  simp[WC,h2]
 conv=>rhs;rw[<- e]
 rw[List.all_map]
 rfl
theorem _jy(hcalm:X.calm=true):YA X (.builtin "all") (fun xs H Q=>∃(a:Addr) (bs:List Bool),xs=[.ref a]/\SqL X.K H a (bs.map V.bl)/\Q (.bl (bs.all id)) H):=by
 intro pins s σ H xs us Q I r h;obtain⟨a,bs,rfl,ha,q⟩:=h;obtain⟨u,rfl,ru⟩:=_p r;cases ru;obtain⟨its,rv,p,hz⟩:=I.list ha;have hh:=I.ok.hd hcalm;have hil:its.length=bs.length:=by rw[<- rv.length,Xc]
 have hit:∀(i:Nat) (v:X0),its.toArray[i]?=some v->v=.bool (bs.getD i true):=λi v hv=>by
  have hv':its[i]?=some v:=by simpa using hv
  have hlt:i<bs.length:=by rw[<- hil];exact(XG.mp hv').1
  obtain⟨u,hu,ru⟩:=rv.get (i:=i) (x:=V.bl bs[i]) (by simp[hlt])
  rw[hv']at hu;cases hu;rw[show v=.bool bs[i]from ru];simp[WC,hlt]
 have hlS:a<s.heap.objs.size:=by obtain⟨o,n,e,_⟩:=p;exact Xu e
 refine PySem.call_all_walk (BF p.isList ⟨_,_,_,_,_,_,λi=>bs.getD i true,rfl,Walks.list (by simp[hh]) _ a (Xz hlS) its.toArray,⟨⟨_,XO _ rfl,rfl,rfl⟩,p.isList.push _⟩,?_,λh' tk hk=>?_⟩)
 ·intro i v s Q E hP hQ;rw[hit i v hP];exact Zv hQ
 ·have hsz:its.toArray.size=bs.length:=by simp[hil]
  rw[hsz,_jA];refine⟨.bl _,H,I.kept (t':=tk) λb o e=>?_,rfl,q⟩;exact hk b o (by simp only[XX];exact Xz (Xu e)) (Xq _ e)
end
noncomputable def Its(x:Str):It:=⟨λi _=>i<x.cps.size,λi H v H'=>H'=H/\∃c,x.cps[i]?=some c/\v=.str ⟨#[c]⟩,λi _=>x.cps.size≤i⟩
theorem _hE{K:X4}(it:Addr)(x:Str)(t:Tok):Turn P w K tg (Its x) [it] it (fun i h=>h.IsStrIter it "str_ascii_iterator" x t i)where
 mem:=by simp
 obj:=λi h st b hb=>by
  have e:b=it:=by simpa using hb
  subst e;obtain⟨o,e,c,d⟩:=st;exact⟨o,e,λv z=>by rw[d]at z;cases z⟩
 keep:=λi h h' st k=>by
  obtain⟨o,e,c,d⟩:=st;exact⟨o,k it (by simp) o e,c,d⟩
 item:=by
  intro X hP hw hK hc i pins s σ H E I hf st hg;subst hP hw hK;have hg:i<x.cps.size:=hg;obtain⟨f0,f1,f2,f3,f4,f5⟩:=hf it (by simp)
  refine wpAny_pyNext_ascii_item st (c:=x.cps[i]) (by simp[hg]) λh' st' sb=>?_
  have I1:Inv X pins σ H {s with heap:=h',toks:=s.toks+1}:=I.turned (λb o hb e=>(sb.2 b hb).trans e) f0 f1 f3 f4 f5;obtain⟨o,e,c,d⟩:=id st';exact⟨_,rfl,WP (s:={s with heap:=h',toks:=s.toks+1}) e c d (by decide) ⟨.str ⟨#[x.cps[i]]⟩,H,I1,⟨_,rfl⟩,⟨rfl,_,by simp[hg],rfl⟩,st',λb hb=>(hf b hb).1⟩⟩
 done:=by
  intro X hP hw hK hc i pins s σ H E I hf st hg;subst hP hw hK;have hg:x.cps.size≤i:=hg;obtain⟨f0,f1,f2,f3,f4,f5⟩:=hf it (by simp)
  exact wpAny_pyNext_ascii_end (I.ok.hd hc) st (by simp[hg]) λh' eb=>⟨rfl,I.turned (t':=s.toks) (λb o hb e=>eb b o hb e) f0 f1 f3 f4 f5⟩
 self:=λ_ _ _ _ _ st h=>wpAny_pyIter_striter_ascii st h
theorem _hD{K:X4}(it:Addr)(x:Str)(t:Tok):Turn P w K tg (Its x) [it] it (fun i h=>h.IsStrIter it "str_iterator" x t i)where
 mem:=by simp
 obj:=λi h st b hb=>by
  have e:b=it:=by simpa using hb
  subst e;obtain⟨o,e,c,d⟩:=st;exact⟨o,e,λv z=>by rw[d]at z;cases z⟩
 keep:=λi h h' st k=>by
  obtain⟨o,e,c,d⟩:=st;exact⟨o,k it (by simp) o e,c,d⟩
 item:=by
  intro X hP hw hK hc i pins s σ H E I hf st hg;subst hP hw hK;have hg:i<x.cps.size:=hg;obtain⟨f0,f1,f2,f3,f4,f5⟩:=hf it (by simp)
  refine wpAny_pyNext_wide_item st (c:=x.cps[i]) (by simp[hg]) λh' st' sb=>?_
  have I1:Inv X pins σ H {s with heap:=h',toks:=s.toks+1}:=I.turned (λb o hb e=>(sb.2 b hb).trans e) f0 f1 f3 f4 f5;obtain⟨o,e,c,d⟩:=id st';exact⟨_,rfl,WP (s:={s with heap:=h',toks:=s.toks+1}) e c d (by decide) ⟨.str ⟨#[x.cps[i]]⟩,H,I1,⟨_,rfl⟩,⟨rfl,_,by simp[hg],rfl⟩,st',λb hb=>(hf b hb).1⟩⟩
 done:=by
  intro X hP hw hK hc i pins s σ H E I hf st hg;subst hP hw hK;have hg:x.cps.size≤i:=hg;obtain⟨f0,f1,f2,f3,f4,f5⟩:=hf it (by simp)
  exact wpAny_pyNext_wide_end (I.ok.hd hc) st (by simp[hg]) λh' eb=>⟨rfl,I.turned (t':=s.toks) (λb o hb e=>eb b o hb e) f0 f1 f3 f4 f5⟩
 self:=λ_ _ _ _ _ st h=>wpAny_pyIter_striter_wide st h
section
variable{X:Cx}{pins:List (Addr×Obj)}{σ:St}{H:Hp}{s:X2}
theorem _mK{t:Tok}(I:Inv X pins σ H s)(q:R (Its x) H):X3 (X6 X.prog X.w) X.A (pyIter (.str x t)) (PIE X pins σ tg R) E s:=by
 have fp:∀b∈ [s.heap.objs.size],FpOk X pins H b:=λb hb=>by
  have e:b=s.heap.objs.size:=by simpa using hb
  subst e;exact I.fpOk (Xe _) (I.hok.fresh (Xe _))
 cases ha:x.cps.all (·<128)
 ·exact wpAny_pyIter_wide ha ⟨s.heap.objs.size,[s.heap.objs.size],_,_,H,rfl,I.kept (t':=s.toks) λb o e=>Xq _ e,_hD _ x t,⟨_,XO _ rfl,rfl,rfl⟩,fp,q⟩
 ·exact wpAny_pyIter_ascii ha ⟨s.heap.objs.size,[s.heap.objs.size],_,_,H,rfl,I.kept (t':=s.toks) λb o e=>Xq _ e,_hE _ x t,⟨_,XO _ rfl,rfl,rfl⟩,fp,q⟩
def Zrw(X:Cx)(tl:TE):TI:=λσ H R=>tl σ H λx H1=>(∃a,x=.ref a/\((∃xs,SqL X.K H1 a xs/\R (Itl X.K a) H1)\/(∃xs,SqT X.K H1 a xs/\R (Itt X.K a) H1)\/False))\/
 ∃z,x=.str z/\R (Its z) H1
theorem _mL{tg l:Expr}{tl:TE}(hl:PE X l tl):PI X tg l (Zrw X tl):=by
 intro pins s σ H R I h;refine thn (hl pins s σ H _ I h) λv s1 ⟨x,H1,I1,r1,q1⟩=>?_;rcases q1 with⟨a,e,q⟩|⟨z,e,q⟩
 ·subst e;cases r1;rcases q with⟨xs,hq,q⟩|⟨xs,hq,q⟩|q
  ·obtain⟨its,rv,p,hz⟩:=I1.list hq;refine BF p.isList ?_;refine⟨s1.heap.objs.size,[s1.heap.objs.size],_,_,H1,rfl,I1.kept (t':=s1.toks) λb o e=>Xq _ e,Sx a _,⟨_,XO _ rfl,rfl,rfl⟩,λb hb=>?_,q⟩;have e:b=s1.heap.objs.size:=by simpa using hb
   subst e;exact I1.fpOk (Xe _) (I1.hok.fresh (Xe _))
  ·obtain⟨its,rv,p,hz⟩:=I1.tuple hq;refine wpAny_pyIter_tuple (show s1.heap.IsTuple a its.toArray from p) ?_;refine⟨s1.heap.objs.size,[s1.heap.objs.size],_,_,H1,rfl,I1.kept (t':=s1.toks) λb o e=>Xq _ e,Sy a _,⟨_,XO _ rfl,rfl,rfl⟩,λb hb=>?_,q⟩;have e:b=s1.heap.objs.size:=by simpa using hb
   subst e;exact I1.fpOk (Xe _) (I1.hok.fresh (Xe _))
  ·exact q.elim
 ·subst e;obtain⟨t,rfl⟩:=r1;exact _mK I1 q
theorem _fC(hv:∀i,v≠.builtin i)(h:Q (.bool (v==.bool b)) s):X3 M A (Y0 .Is v (.bool b)) Q E s:=by
 cases v<;>first|exact X8 h|exact absurd rfl (hv _)
theorem _c5(hv:∀i,v≠.builtin i)(h:Q (.bool (!(v==.bool b))) s):X3 M A (Y0 .IsNot v (.bool b)) Q E s:=by
 cases v<;>first|exact X8 h|exact absurd rfl (hv _)
theorem J9(r:RelV x v):∀i,v≠.builtin i:=λi e=>by
 subst e;cases x<;>first|(cases r;done)|(obtain⟨t,e⟩:=r;cases e)
set_option tactic.hygienic true in
theorem Ja(r:RelV x v):decide (x=.bl b)=(v==Y9 b):=by
 cases x<;>first
  |(cases r;rename_i c;cases b<;>cases c<;>rfl)
  |(cases r;rfl)
  |(obtain⟨t,rfl⟩:=r;rfl)
theorem _mZ:OpR X (Y0 .Is) (λx y H Q=>∃b,y=.bl b/\Q (.bl (decide (x=.bl b))) H):=by
 intro pins s σ H x y v u Q I rx ry h;obtain⟨b,rfl,q⟩:=h;cases ry;exact _fC (J9 rx) (XH I q (Ja rx))
theorem _kv:OpR X (Y0 .IsNot) (λx y H Q=>∃b,y=.bl b/\Q (.bl (!decide (x=.bl b))) H):=by
 intro pins s σ H x y v u Q I rx ry h;obtain⟨b,rfl,q⟩:=h;cases ry;exact _c5 (J9 rx) (XH I q (by rw[Ja rx]))
theorem _hf{t:X0}(I:Inv X pins σ H s)(rx:RelV x u)(ty:TyOf X.K H x t)(e:V2 X.K t c=some b)(e':V2 X.K t d=some b')
  (htp:s.heap.get? tp=some ⟨.type "tuple",dd,.seq [c,d].toArray n,sl⟩) (h:∀tk,Q (.bool (b||b')) {s with toks:=tk}):X3 (X6 X.prog X.w) A (call (.builtin "isinstance") [u,.ref tp]) Q E s:=by
 have ea:BV X.K t [c,d]=some (b||b'):=by
  unfold BV;rw[e];cases b with
  |true=>rfl
  |false=>
   show BV X.K t [d]=some b';unfold BV;rw[e'];cases b'<;>rfl
 cases ty with
 |non=>cases(show u=Xt from rx);exact Zl PySem.W.kitx_none I.kIn Yr htp ea (λz=>nomatch z) h
 |bl y=>cases(show u=Y9 y from rx);exact Zl PySem.W.kitx_bool I.kIn Yr htp ea (λz=>nomatch z) h
 |int i=>obtain⟨t,q⟩:=(show∃t,u=VN i t from rx);cases q;exact Zl PySem.W.kitx_int I.kIn Yr htp ea (λz=>nomatch z) h
 |str y=>obtain⟨t,q⟩:=(show∃t,u=XD y t from rx);cases q;exact Zl PySem.W.kitx_str I.kIn Yr htp ea (λz=>nomatch z) h
 |flt y=>obtain⟨t,q⟩:=(show∃t,u=C4 y t from rx);cases q;exact Zl PySem.W.kitx_float I.kIn Yr htp ea (λz=>nomatch z) h
 | @lst a xs ea'=>
  cases(show u=Xo a from rx);obtain⟨_,_,n,_,h1⟩:=(show ObjOk X.prog X.w H s.heap a (.lst xs)from I.hok a _ ea');exact Zl BS I.kIn ⟨_,h1,rfl⟩ htp ea (λz=>nomatch z) h
 | @frz a ob xs ea'=>
  cases(show u=Xo a from rx);obtain⟨_,_,_,n,_,h1⟩:=(show ObjOk X.prog X.w H s.heap a (.frz ob (.lst xs))from I.hok a _ ea');exact Zl BS I.kIn ⟨_,h1,rfl⟩ htp ea (λz=>nomatch z) h
 | @tup a xs ea'=>
  cases(show u=Xo a from rx);obtain⟨_,_,_,p⟩:=(show ObjOk X.prog X.w H s.heap a (.tup xs)from I.hok a _ ea');obtain⟨o,h1,h2,_⟩:=p.1;exact Zl PySem.W.kitx_tuple I.kIn ⟨o,h1,h2⟩ htp ea (λz=>nomatch z) h
 | @dK a kvs ea'=>
  cases(show u=Xo a from rx);obtain⟨_,_,vs,_,p⟩:=(show ObjOk X.prog X.w H s.heap a (.dK kvs)from I.hok a _ ea');obtain⟨o,es,ep,h1,h2,_⟩:=p;exact Zl BT I.kIn ⟨o,h1,h2.1⟩ htp ea (λz=>nomatch z) h
 | @dT a kvs ea'=>
  cases(show u=Xo a from rx);obtain⟨_,_,xs,_,o,es,ep,h1,h2,_⟩:=(show ObjOk X.prog X.w H s.heap a (.dT kvs)from I.hok a _ ea');exact Zl BT I.kIn ⟨o,h1,h2.1⟩ htp ea (λz=>nomatch z) h
 | @ins a C dx fs ea' cl ha hn htk hm=>
  cases(show u=Xo a from rx);obtain⟨mA,O,_⟩:=WQ I.hok ea';obtain⟨od,J,_⟩:=O.look;exact Zl (PySem.W.kitx_own (cl.get _) cl.hd ha hn htk hm) I.kIn J htp ea (λz=>nomatch z) h
theorem _eW:YA X (.builtin "isinstance") (fun xs H Q=>∃x a c d t b b',xs=[x,.ref a]/\H a=some (.tup [.ty c,.ty d])/\TyOf X.K H x t/\V2 X.K t (.type c)=some b/\V2 X.K t (.type d)=some b'/\Q (.bl (b||b')) H):=by
 intro pins s σ H xs us Q I r h;obtain⟨x,a,c,d,t,b,b',rfl,ha,ty,e,e',q⟩:=h;obtain⟨u,w',rfl,ru,rw'⟩:=VX r;cases rw';obtain⟨its,rv,p,_⟩:=I.tuple (SqT.of (K:=X.K) ha);obtain⟨⟨cls,dd,data,sl⟩,ho,hc,n,hd⟩:=id p;simp only at hc hd;subst hc hd;cases rv with
 |cons r1 r2=>
  cases r2 with
  |cons r3 r4=>
   cases r4;cases r1;cases r3;exact _hf I ru ty e e' ho λtk=>⟨.bl (b||b'),H,I.tok tk,rfl,q⟩
end
section
variable{X:Cx}
end
theorem _dk:Vt (.type "tuple") "keys"=pure none:=by rw[Vv,Vw];kernel_rfl
theorem _dl:Vt (.type "tuple") "__getattr__"=pure none:=by rw[Vv,Vw];kernel_rfl
section
variable{prog:Xv}{w:Xn}{A:XA}{E:X0->X2->Prop}{h:Heap}{g:Array GenState}{d:Drawn}{t:Nat}{os:OsState}{a:Addr}{its:Array X0}{n:Nat}{sl:Array (Option X0)}
theorem _fw(hx:h.get? a=some (⟨.type "tuple",none,.seq its n,sl⟩))(hh:A.handled=none)
  (hE:∀e h' t',(∀b o,h.get? b=some o->h'.get? b=some o)->(∃o,h'.get? e=some o/\o.cls=.type "AttributeError")->E (.ref e) ⟨h',g,d,t',os⟩):
  X3 (X6 prog w) A (Builtin.«object.__getattribute__» ⟨[.ref a,.str "keys" tk],[]⟩) Q E ⟨h,g,d,t,os⟩:=by
 have hT:(⟨h,g,d,t,os⟩:X2).TypeIs (.ref a) "tuple":=⟨_,hx,rfl⟩;have f4:=_dk;unfold Builtin.«object.__getattribute__»
 repeat (any_goals (first|assumption|wp_step))
 have hmsg:¬(Ye (toString "'"++toString ((VS "tuple").elim "tuple" fun x=>x.tpName)++toString "' object has no attribute '")++Ye "keys"++Ye "'").length>sizeLine:=by decide+kernel
 generalize(Ye (toString "'"++toString ((VS "tuple").elim "tuple" fun x=>x.tpName)++toString "' object has no attribute '")++Ye "keys"++Ye "'")=msg at hmsg ⊢;unfold raiseAttrError;refine X1 ?_;unfold mkStr;rw[if_neg hmsg]
 repeat (any_goals (first|assumption|wp_step))
 show X3 _ _ (isSubtype (.type "AttributeError") (.type "AttributeError")) _ _ _;rw[W4];generalize(if((VS "AttributeError").elim false fun t=>t.mro.contains "StopIteration"||t.mro.contains "SystemExit")=true then [XD msg t].headD Xt else Xt)=fm;refine X8 ?_;simp only[VL,Yi,if_false];have hoE:((h.push {cls:=XC "tuple",data:=YW #[XD msg t]}).push {cls:=XC "AttributeError",data:=U3 (#[Xo h.objs.size,Xt,Xt,Xt,Y9 false,fm]++YV (XC "AttributeError") [XD msg t])}).get? (h.push {cls:=XC "tuple",data:=YW #[XD msg t]}).objs.size=some {cls:=XC "AttributeError",data:=U3 (#[Xo h.objs.size,Xt,Xt,Xt,Y9 false,fm]++YV (XC "AttributeError") [XD msg t])}:=XO _ rfl;have e6:(#[Xo h.objs.size,Xt,Xt,Xt,Y9 false,fm]++YV (XC "AttributeError") [XD msg t])[6]?=some (.int 0 0):=rfl;have e7:(#[Xo h.objs.size,Xt,Xt,Xt,Y9 false,fm]++YV (XC "AttributeError") [XD msg t])[7]?=some (.int 0 0):=rfl;have old:∀b o,h.get? b=some o->((h.push {cls:=XC "tuple",data:=YW #[XD msg t]}).push {cls:=XC "AttributeError",data:=U3 (#[Xo h.objs.size,Xt,Xt,Xt,Y9 false,fm]++YV (XC "AttributeError") [XD msg t])}).get? b=some o/\b<(h.push {cls:=XC "tuple",data:=YW #[XD msg t]}).objs.size:=fun b o e=>
  ⟨Xq _ (Xq _ e),by rw[Zm];exact ZE (Xu e)⟩
 generalize(h.push {cls:=XC "tuple",data:=YW #[XD msg t]}).objs.size=ea at*;generalize((h.push {cls:=XC "tuple",data:=YW #[XD msg t]}).push {cls:=XC "AttributeError",data:=U3 (#[Xo h.objs.size,Xt,Xt,Xt,Y9 false,fm]++YV (XC "AttributeError") [XD msg t])})=h2 at*;generalize hvs:#[Xo h.objs.size,Xt,Xt,Xt,Y9 false,fm]++YV (XC "AttributeError") [XD msg t]=vs at*;refine X1 (Vr hoE ?_);dsimp only;rw[e6,e7];simp only[VM,Yi,if_false];rw[if_neg (by decide)]
 refine X8 ?_;simp only[if_true];have hT2:(⟨h2,g,d,t+1+1,os⟩:X2).TypeIs (.ref ea) "AttributeError":=⟨_,hoE,rfl⟩;refine X1 (UD ?_);refine X1 (Zy hT2 ?_);dsimp only;unfold layMembers;refine X1 (Vr hoE ?_);dsimp only;refine wpAny_update hoE ?_;unfold raiseNew;refine X1 (wpAny_handled ?_);rw[hh];show X3 _ _ (throw (Xo ea)) _ _ _;have hup:=V3 (DX fun vs=>vs.extract 0 6++#[XD (Ye "keys") (t+1),Xo a]) hoE (DV (Ci rfl _));refine wpAny_throw (hE ea _ _ (λb o e=>?_) ⟨_,hup,DW ..⟩);have:=old b o e;exact(VI _ _ (V5 this.2)).trans this.1
theorem _kJ(hx:h.get? a=some (⟨.type "tuple",none,.seq its n,sl⟩))(hh:A.handled=none)
  (hE:∀e h' t',(∀b o,h.get? b=some o->h'.get? b=some o)->(∃o,h'.get? e=some o/\o.cls=.type "AttributeError")->E (.ref e) ⟨h',g,d,t',os⟩):
  X3 (X6 prog w) A (getAttrBy (.ref a) (.str "keys" tk) false) Q E ⟨h,g,d,t,os⟩:=by
 have hT:(⟨h,g,d,t,os⟩:X2).TypeIs (.ref a) "tuple":=⟨_,hx,rfl⟩;have f2:=Cd.lookup;have f3:=Cd.bind (.ref a)
 repeat (any_goals (first|assumption|wp_step))
 refine Wq Cd.plain F.entry_tuple_ga (Cd.check _ _ _ _ _ _ _ _ hT (F.args_tuple_getattribute_2 _ _) (_fw hx (by simp[hh]) λe h' t' k ho=>?_))
 have hTe:(⟨h',g,d,t',os⟩:X2).TypeIs (.ref e) "AttributeError":=ho;show X3 _ _ (BG _ _ _ _ _ _ _) _ _ _;unfold BG;refine X1 (UC hTe W4 ?_);simp only[if_true];unfold hookBehind onTheHeap;simp only[Yi,if_false];rw[_dl];refine X1 (X8 ?_);unfold hookOrError attributeErrorLeaves;simp only[C2,if_true];exact X1 (wpAny_throw (hE e h' t' k ho))
theorem _hd(hx:s.heap.get? a=some (⟨.type "tuple",none,.seq its n,sl⟩))(hh:A.handled=none)
  (hQ:∀h' t',(∀b o,s.heap.get? b=some o->h'.get? b=some o)->Q none {s with heap:=h',toks:=t'}):X3 (X6 prog w) A (getAttr? (.ref a) "keys") Q E s:=by
 obtain⟨h,g,d,t,os⟩:=s;unfold getAttr? getAttrBy? mkText;refine X1 (X1 (wpAny_fresh (X8 ?_)));refine X1 (wpAny_attempt (_kJ hx hh λe h' t' k ho=>?_));have hTe:(⟨h',g,d,t',os⟩:X2).TypeIs (.ref e) "AttributeError":=ho;refine X1 (UC hTe W4 ?_);simp only[if_true];exact X8 (hQ h' t' k)
end
section
variable{prog:Xv}{w:Xn}{A:XA}{E:X0->X2->Prop}{s:X2}{K:Type} [DecidableEq K] {knd:KeyKind prog w K}
theorem _hv{items:Array X0}(hh:A.handled=none)(hl:s.heap.get? l=some (⟨.type "tuple",none,.seq items nl,sl⟩))(hn:items.size≤sizeLine)
  (ht:∀(j:Nat) v,items[j]?=some v->∃q uk np oq,v=.ref q/\s.heap.get? q=some oq/\oq.cls=.type "tuple"/\oq.data=.seq #[uk,vs j] np/\knd.is (ks j) uk=true)
  (h:∀h' tk,h'.DictOf knd s.heap.objs.size (stTo ks vs items.size)->(∀b o,b<s.heap.objs.size->s.heap.get? b=some o->h'.get? b=some o)->Q (.ref s.heap.objs.size) {s with heap:=h',toks:=tk}):
  X3 (X6 prog w) A (call (.type "dict") [.ref l]) Q E s:=by
 refine callType_codes (Q₁:=fun obj s₁=>obj=.ref s.heap.objs.size/\s₁={s with heap:=s.heap.push {cls:=.type "dict",data:=.dict #[]} }) F.kt_called_dict (F.kt_typeCall_dict_1 _) F.entry_dict_init (kt_code_dict_new _ ⟨rfl,rfl⟩) ?_;rintro obj s₁ ⟨rfl,rfl⟩;have hnew:(s.heap.push {cls:=.type "dict",data:=.dict #[]}).DictOf knd s.heap.objs.size []:=E2 s.heap;have hl':(s.heap.push {cls:=.type "dict",data:=.dict #[]}).get? l=some (⟨.type "tuple",none,.seq items nl,sl⟩):=Xq _ hl;have hT:WN {s with heap:=s.heap.push {cls:=.type "dict",data:=.dict #[]} } (.ref l) "tuple":=⟨_,hl',rfl⟩;refine⟨hnew.typeIs,F.args_dict_init_2 _ _,?_⟩;unfold Builtin.«dict.__init__»;refine X1 ?_;unfold Hm;refine X1 (BE hnew.typeIs ?_);show X3 _ _ (pure (s.heap.objs.size,[Xo l])) _ _ _;refine X8 ?_;show X3 _ _ (Cc "dict.__init__" s.heap.objs.size (.ref l) [] .none) _ _ _;unfold Cc;refine X1 (Zy hT ?_);rw[if_pos (by decide)]
 refine X1 (_hd (s:={s with heap:=s.heap.push {cls:=.type "dict",data:=.dict #[]} }) hl' (by simp[hh]) fun h1 t1 hk1=>?_)
 simp only[Option.isNone_none,if_true];refine X1 (UD ?_);have hl1:h1.get? l=some (⟨.type "tuple",none,.seq items nl,sl⟩):=hk1 _ _ hl';have hL1:h1.IsTuple l items:=⟨_,hl1,rfl,nl,rfl⟩;have hlS:l<s.heap.objs.size:=Xu hl;have hbig:s.heap.objs.size<h1.objs.size:=by
  obtain⟨o,es,ep,ho,_⟩:=hnew;exact Xu (hk1 _ _ ho)
 refine X1 (wpAny_pyIter_tuple (s:={s with heap:=h1,toks:=t1}) hL1 ?_);have hneI:l≠h1.objs.size:=Xz (V6 hlS hbig);refine X8 ⟨Zg A4 _,?_⟩;refine J8 (knd:=knd) (n:=items.size) ((Walks.tuple (A:=A.in1.in1) (by simp[hh]) h1.objs.size l hneI items).toS) s.heap.objs.size ?_ ks vs hn items.size 0 _ rfl (YH _)
  ⟨⟨_,XO _ rfl,rfl,rfl⟩,hL1.push _⟩ ?_ ?_ ?_
 ·simp only[Xl,XJ,or_false,not_or];exact⟨Xz hbig,V5 hlS⟩
 ·obtain⟨o,es,ep,ho,r⟩:=hnew;exact⟨o,es,ep,Xq _ (hk1 _ _ ho),r⟩
 ·intro j v hv;obtain⟨q,uk,np,oq,rfl,a1,a2⟩:=ht j v hv;have hqS:q<s.heap.objs.size:=Xu a1;refine⟨q,uk,np,oq,rfl,Xz hqS,?_,Xq _ (hk1 _ _ (Xq _ a1)),a2⟩;simp only[XX];exact Xz (V6 hqS hbig)
 ·intro s' hm hd;obtain⟨h',g',d',tk',os'⟩:=s';have eg:g'=s.gens:=hm.gens;have ed:d'=s.drawn:=hm.drawn;have eo:os'=s.os:=hm.os;subst eg;subst ed;subst eo;refine⟨rfl,h h' tk' hd λb o hb e=>?_⟩;refine hm.heap b o ?_ (Xq _ (hk1 _ _ (Xq _ e)));simp only[Xl,XJ,or_false,not_or];exact⟨Xz hb,Xz (V6 hb hbig)⟩
end
section
variable{X:Cx}
theorem _fU(hcalm:X.calm=true):YA X (.type "dict") (fun xs H Q=>∃(a:Addr) (ps:List (Key×V)) (qs:List V),xs=[.ref a]/\H a=some (.tup qs)/\Eg H ps qs/\∀p,H p=none->Q (.ref p) (upd H p (.dK (ZK ps)))):=by
 intro pins s σ H xs us Q I r h;obtain⟨a,ps,qs,rfl,ha,hp,q⟩:=h;obtain⟨u,rfl,ru⟩:=_p r;cases ru;obtain⟨hz,its,rv,⟨ol,hl,hlc,nl,hld⟩,ol2,hl2,hdn⟩:=(show ObjOk X.prog X.w H s.heap a (.tup qs)from I.hok a _ ha);have hh:=I.ok.hd hcalm;rw[hl]at hl2;cases hl2;obtain⟨lc,ldc,ld,lsl⟩:=ol;cases hlc;cases hld;cases hdn;have hlen:its.length=ps.length:=by rw[<- rv.length,hp.length]
 have hpair:∀(j:Nat) v,its.toArray[j]?=some v->∃q uk uv np oq,v=.ref q/\s.heap.get? q=some oq/\oq.cls=.type "tuple"/\oq.data=.seq #[uk,uv] np/\∃p,ps[j]?=some p/\RelV (kV p.1) uk/\RelV p.2 uv:=fun j v hv=>by
  have hv':its[j]?=some v:=by simpa using hv
  obtain⟨y,hy,ry⟩:=Paired.at rv j v hv';obtain⟨p,hpj,q,rfl,hq⟩:=Paired.at hp j y hy;cases ry;obtain⟨_,ts,rt,ht⟩:=(show ObjOk X.prog X.w H s.heap q (.tup [kV p.1,p.2])from I.hok q _ hq);obtain⟨uk,uv,rfl,r1,r2⟩:=VX rt;obtain⟨oq,ho,hc,n,hd⟩:=ht.1;exact⟨q,uk,uv,n,oq,rfl,ho,hc,hd,p,hpj,r1,r2⟩
 obtain⟨vs,hvs⟩:∃vs:Nat->X0,∀(j:Nat) v,its.toArray[j]?=some v->∃q uk np oq,v=.ref q/\s.heap.get? q=some oq/\oq.cls=.type "tuple"/\oq.data=.seq #[uk,vs j] np/\∃p,ps[j]?=some p/\RelV (kV p.1) uk/\RelV p.2 (vs j):=by
  refine⟨λj=>if h:j<its.length then(hpair j its[j] (by simp[h])).choose_spec.choose_spec.choose else .none,λj v hv=>?_⟩
  have hv':its[j]?=some v:=by simpa using hv
  obtain⟨hj,rfl⟩:=XG.mp hv';dsimp only;rw[dif_pos hj];have z:=(hpair j its[j] (by simp[hj]))
  exact⟨z.choose,z.choose_spec.choose,z.choose_spec.choose_spec.choose_spec⟩
 refine _hv (knd:=Yz X.prog X.w) (ks:=λj=>(ps.getD j (.inl 0,.non)).1) (vs:=vs) hh hl (by simpa [<- rv.length]using hz) (λj v hv=>?_) λh' tk hd hk=>?_
 ·obtain⟨q,uk,np,oq,e1,e2,e3,e4,p,hpj,r1,r2⟩:=hvs j v hv;refine⟨q,uk,np,oq,e1,e2,e3,e4,UM ?_⟩;rw[Ym,hpj];exact r1
 have kv:∀i,i≤ps.length->KV ((ps.take i).foldl (λc z=>putK c z.1 z.2) []) (stTo (λj=>(ps.getD j (.inl 0,.non)).1) vs i):=by
  intro i
  induction i with
  |zero=>intro _;exact .nil
  |succ i ih=>
   intro hi;have hlt:i<its.length:=by lia
   obtain⟨q,uk,np,oq,e1,e2,e3,e4,p,hpj,r1,r2⟩:=hvs i its[i] (by simp[hlt])
   rw[ZC,hpj,DZ,Dy];show KV (putK _ p.1 p.2) (stored _ (ps.getD i (.inl 0,.non)).1 _);have ek:(ps.getD i (.inl 0,.non)).1=p.1:=by rw[Ym,hpj];rfl
   rw[ek];exact(ih (by lia)).put p.1 r2
 have kvn:=kv ps.length (Xe _);rw[Dz]at kvn;have hsz:its.toArray.size=ps.length:=by simp[hlen]
 rw[hsz]at hd;have hpl:ps.length≤sizeLine:=by rw[hp.length];exact hz
 have zl:(ZK ps).length≤sizeLine:=by
  have:=kvn.length;have l2:=CA (λj=>(ps.getD j (.inl 0,.non)).1) vs ps.length;unfold ZK;lia
 exact⟨.ref s.heap.objs.size,_,I.laid (a:=s.heap.objs.size) (o:=.dK (ZK ps)) (t':=tk) (λb u e=>hk b u (Xu e) e) (Xe _) (WX zl (beq_eq_false_iff_ne.mpr (XQ (Xz I.big))) kvn hd),rfl,q _ (I.hok.fresh (Xe _))⟩
end
section
variable{X:Cx}
end
theorem Jb:∀{xs:List V} {vs:List X0},xs.length=vs.length->(∀(j:Nat) x v,xs[j]?=some x->vs[j]?=some v->RelV x v)->Vals xs vs
 |[],[],_,_=>.nil
 |[],_::_,h,_=>by cases h
 |_::_,[],h,_=>by cases h
 |x::xs,v::vs,h,r=>.cons (r 0 x v rfl rfl) (Jb (by simpa using h) λj a b ha hb=>r (j+1) a b (by simpa using ha) (by simpa using hb))
theorem _fB(h:ItemsOf (λi v=>∃t,v=.int (0+i*1) t) acc n):Vals ((Xs n).map λi=>V.int (i:Nat)) acc.toList:=by
 refine Jb (by rw[Xc,UE,Yq];exact h.1.symm) λj x v hx hv=>?_
 obtain⟨t,rfl⟩:=h.2 j v (by simpa using hv)
 rw[Xr]at hx;cases e:(Xs n)[j]? with
 |none=>rw[e]at hx;cases hx
 |some k=>
  rw[e]at hx;have hk:k=j:=by
   have:=XG.mp e;obtain⟨_,z⟩:=this
   simpa using z.symm
  subst hk;cases hx;exact⟨t,by rw[WJ,Int.mul_one]⟩
section
variable{X:Cx}{tg:Expr}
theorem _jv(hcalm:X.calm=true):A3 X (.type "list") (.type "range") (fun x H Q=>∃n:Nat,x=.int n/\n≤1000000/\∀p,H p=none->Q (.ref p) (upd H p (.lst ((Xs n).map fun i=>V.int (i:Nat))))):=by
 intro pins s σ H x u Q I rx h;obtain⟨n,rfl,hn,q⟩:=h;obtain⟨t,rfl⟩:=rx;refine call_range_1 ?_;have hl:((Xs n).map λi=>V.int (i:Nat)).length≤sizeLine:=by rw[Xc,UE];exact Y2 hn (by decide)
 have hh:=I.ok.hd hcalm;refine call_list_range (n:=n) hh (IsRange.new ..) ?_ ?_ (by lia) λh' tk acc' c' kp e it=>?_
 ·exact small_one (by decide) (by decide) (by lia) (by lia)
 ·rw[rangeSize_one];split<;>lia
 have I1:=I.kept (h':=s.heap.push {cls:=.type "range",data:=.fields #[.int 0 s.toks,.int (n:Int) t,.int 1 (s.toks+1)]}) (t':=s.toks+1+1) fun b o e=>Xq _ e;exact⟨.ref _,_,I1.laid (t':=tk) kp (Xe _) (show ObjOk X.prog X.w _ h' _ (.lst ((Xs n).map λi=>V.int (i:Nat)))from⟨hl,acc'.toList,c',_fB it,by simpa using e⟩),rfl,q _ (I1.hok.fresh (Xe _))⟩
theorem _ih{x y:Str}{id T:String}{r:V->Hp->VK->Prop}{e:Expr}{t:TE}{p p' pos pos':Pos}(hc:A3 X (.type id) (.type T) r)
  (hg:Gl X x) (hm:X.mg x=none) (hv:YF x=some (.type id)) (hg':Gl X y) (hm':X.mg y=none) (hv':YF y=some (.type T)) (ha:PE X e t)
  (hn:x≠"__name__") (hdb:(x==("__debug__":Str))=false) (hn':y≠"__name__") (hdb':(y==("__debug__":Str))=false)
  (he:XB [e] X.env=(false,eval e X.env)::XB [] X.env):
  PE X (.Call (.Name x p) [.Call (.Name y p') [e] [] pos'] [] pos) (λσ H Q=>t σ H λv H1=>r v H1 Q):=by
 intro pins s σ H Q I h;refine UB (UL I hg hm hv ?_ hn hdb);refine WK ?_ rfl rfl;show X3 _ _ (spliced ((false,eval (.Call (.Name y p') [e] [] pos') X.env)::XY pos (XB [] X.env))) _ _ s;refine WL ?_;refine UB (UL I hg' hm' hv' ?_ hn' hdb');refine WK ?_ he rfl;rw[he];show X3 _ _ (spliced ((false,eval e X.env)::XY pos' (XB [] X.env))) _ _ s;refine WL (thn (ha pins s σ H _ I h) λu s1 ⟨v,H1,I1,r1,q1⟩=>?_);refine WM ?_;exact thn (hc pins s1 σ H1 v u Q I1 r1 q1) λu2 s2 q2=>WM q2
end
section
variable{prog:Xv}{w:Xn}{A:XA}{R:Result->X2->Prop}{I:Addr}{fp wr:List Addr}{n:Nat}{P:Nat->X0->Prop}{St:Nat->Heap->Prop}
end
section
variable{prog:Xv}{w:Xn}{A:XA}{E:X0->X2->Prop}{s:X2}
end
section
variable{X:Cx}{x k:Str}{p pos kp:Pos}{e e0:Expr}{te:TE}
end
end L2
namespace HT
open PySem PySem.Spec PyProof.Rows
section
variable{prog:Xv}{w:Xn}{A:XA}{E:X0->X2->Prop}{s:X2}
theorem tup_whole{t:Addr}{items:Array X0}{lo:Option Int}(ht:IsTup s.heap t items)(hs:s.heap.IsSliceOf sl vl vu .none)(pl:IsPart vl lo)(pu:IsPart vu hi)
  (h0:sIx items.size 0 lo=0) (h1:sIx items.size items.size hi=items.size) (h:Q (.ref t) s):X3 (X6 prog w) A (getItem (.ref t) (.ref sl)) Q E s:=by
 obtain⟨os,hos,hcs,hds⟩:=id hs;have hTs:s.TypeIs (.ref sl) "slice":=⟨os,hos,hcs⟩;have hT:=ht.typeIs;unfold getItem
 try with_reducible refine YM ?_
 first|refine X1 (X8 ?_)|skip
 refine X1 (wpAny_sequenceKey hT (by decide) ?_)
 refine X1 (BB (name:=Ye "__getitem__") hT VQ (Zf VQ hT entry_tuple_getitem ?_ (args_tuple_getitem _ _)));show X3 _ _ (Hf (.ref t)>>= _) _ _ s;refine X1 (tupleItemsOf_ ht ?_);refine X1 (Zy hTs ?_);rw[if_pos (by decide)]
 refine X1 (Il hs pl pu ?_);rw[h0,h1];show X3 _ _ (if(((0:Nat):Int)==0&&(1:Int)==1&&(items.size - 0)==items.size)=true then _ else _) _ _ s;rw[if_pos (by simp)]
 refine X1 ?_;show X3 _ _ (Hh (.ref t)) _ _ s;unfold Hh;refine X1 (Zy hT (X8 ?_));rw[if_pos (by decide)]
 exact X1 (UD (X8 ⟨_,rfl,X8 h⟩))
end
end HT
namespace L2
open PySem PySem.Spec PyProof.Rows
section
variable{X:Cx}
def rSlW(K:X4):V->Option Int->Option Int->Hp->VK->Prop:=λx lo hi H Q=>∃a xs,x=.ref a/\SqT K H a xs/\HT.sIx xs.length 0 lo=0/\HT.sIx xs.length xs.length hi=xs.length/\Q (.ref a) H
theorem _mf:SlR X (rSlW X.K):=by
 intro pins s σ H x v vl vu lo hi sl Q I rx hs pl pu h;obtain⟨a,xs,rfl,hx,h0,h1,q⟩:=h;cases rx;obtain⟨its,r,ht,hz⟩:=I.tuple hx;have hlen:its.toArray.size=xs.length:=by rw[XR];exact r.length.symm
 refine⟨"tuple",_,VQ.lookup,ht.typeIs,?_⟩;exact HT.tup_whole ht hs pl pu (by rw[hlen];exact h0) (by rw[hlen];exact h1) ⟨.ref a,H,I,rfl,q⟩
end
def st3{α:Type}(xs:List α):List α:=(Xs ((xs.length+2)/3)).filterMap λk=>xs[3*k]?
section
variable{X:Cx}{e e3:Expr}{te:TE}{p2 pos:Pos}
end
section
variable{X:Cx}
end
inductive Ty7 where|int|bool|str|list|tuple|dict|none
  deriving DecidableEq
noncomputable def Ty7.name:Ty7->String
 |.int=>"int"|.bool=>"bool"|.str=>"str"|.list=>"list"|.tuple=>"tuple"|.dict=>"dict"|.none=>"NoneType"
inductive MV where
 |non|bl (b:Bool)|int (i:Int)|str (x:Str)|tup (xs:List MV)|frl (xs:List MV)|ref (a:Addr)|ty (n:Ty7)
def Jc:HO->Bool
 |.tup _=>true
 |.frz _ (.lst _)=>true
 |_=>false
def Kp(H H':Hp):Prop:=∀a o,H a=some o->Jc o=true->H' a=some o
theorem Kp.refl(H:Hp):Kp H H:=λ_ _ h _=>h
theorem Kp.trans(a:Kp H H1)(b:Kp H1 H2):Kp H H2:=λc o h f=>b c o (a c o h f) f
theorem Kp.new{H:Hp}{p:Addr}(h:H p=none)(o:HO):Kp H (upd H p o):=λa u e _=>by rw[XM (Vc e h)];exact e
theorem Kp.upd{H:Hp}{p:Addr}{o:HO}(h:H p=some o)(f:Jc o=false)(o':HO):Kp H (upd H p o'):=λa u e g=>by
 rw[XM (HJ e h (by intro z;rw[z,f]at g;cases g))];exact e
def FrL(K:X4)(H:Hp)(a:Addr)(vs:List V):Prop:=(∃o,H a=some (.frz o (.lst vs)))\/
 ∃(o:Obj) (its:Array X0) (n:Nat),K.lookup a=some o/\o.cls=.type "list"/\o.dict=none/\o.data=.seq its n/\its.size≤sizeLine/\Vals vs its.toList
theorem FrL.sq{K:X4}(h:FrL K H a vs):SqL K H a vs:=by
 rcases h with⟨o,h⟩|h
 ·exact .inl (.inr ⟨o,h⟩)
 ·exact .inr h
mutual
inductive RM (K:X4) (H:Hp):MV->V->Prop
 |non:RM K H .non .non
 |bl (b:Bool):RM K H (.bl b) (.bl b)
 |int (i:Int):RM K H (.int i) (.int i)
 |str (x:Str):RM K H (.str x) (.str x)
 |ref (a:Addr):RM K H (.ref a) (.ref a)
 |ty (n:Ty7):RM K H (.ty n) (.ty n.name)
 |tup {a:Addr} {xs:List MV} {vs:List V}:H a=some (.tup vs)->RMs K H xs vs->RM K H (.tup xs) (.ref a)
 |frl {a:Addr} {xs:List MV} {vs:List V}:FrL K H a vs->RMs K H xs vs->RM K H (.frl xs) (.ref a)
inductive RMs (K:X4) (H:Hp):List MV->List V->Prop
 |nil:RMs K H [] []
 |cons {x:MV} {v:V} {xs:List MV} {vs:List V}:RM K H x v->RMs K H xs vs->RMs K H (x::xs) (v::vs)
end
mutual
theorem RM.mono{K:X4}(k:Kp H H'):∀{m:MV} {v:V},RM K H m v->RM K H' m v
 |_,_,.non=>.non
 |_,_,.bl b=>.bl b
 |_,_,.int i=>.int i
 |_,_,.str x=>.str x
 |_,_,.ref a=>.ref a
 |_,_,.ty n=>.ty n
 |_,_,.tup h r=>.tup (k _ _ h rfl) (RMs.mono k r)
 |_,_,.frl h r=>.frl (by
   rcases h with⟨o,h⟩|h
   ·exact .inl ⟨o,k _ _ h rfl⟩
   ·exact .inr h) (RMs.mono k r)
theorem RMs.mono{K:X4}(k:Kp H H'):∀{m:List MV} {v:List V},RMs K H m v->RMs K H' m v
 |_,_,.nil=>.nil
 |_,_,.cons a b=>.cons (RM.mono k a) (RMs.mono k b)
end
def ZrU(K:X4)(H:Hp)(v:V):MV->Prop
 |.non=>v=.non
 |.bl b=>v=.bl b
 |.int i=>v=.int i
 |.str x=>v=.str x
 |.tup xs=>∃a vs,v=.ref a/\H a=some (.tup vs)/\RMs K H xs vs
 |.frl xs=>∃a vs,v=.ref a/\FrL K H a vs/\RMs K H xs vs
 |.ref a=>v=.ref a
 |.ty n=>v=.ty n.name
theorem RM.inv{K:X4}{H:Hp}{m:MV}{v:V}(r:RM K H m v):ZrU K H v m:=by
 cases r with
 |tup h q=>exact⟨_,_,rfl,h,q⟩
 |frl h q=>exact⟨_,_,rfl,h,q⟩
 |_=>rfl
def Zqf(K:X4)(H:Hp)(vs:List V):List MV->Prop
 |[]=>vs=[]
 |x::xs=>∃v us,vs=v::us/\RM K H x v/\RMs K H xs us
theorem RMs.inv{K:X4}{H:Hp}{m:List MV}{v:List V}(r:RMs K H m v):Zqf K H v m:=by
 cases r with
 |nil=>rfl
 |cons a b=>exact⟨_,_,rfl,a,b⟩
theorem RMs.length{K:X4}:∀{m:List MV} {v:List V},RMs K H m v->m.length=v.length
 |_,_,.nil=>rfl
 |_,_,.cons _ b=>by rw[Yh,Yh,b.length]
theorem RMs.get{K:X4}:∀{m:List MV} {v:List V} {i:Nat} {x:MV},RMs K H m v->m[i]?=some x->∃u,v[i]?=some u/\RM K H x u
 |_,_,_,_,.nil,e=>by simp at e
 |_,_,0,_,.cons r _,e=>by simp at e;subst e;exact⟨_,rfl,r⟩
 |_,_,i+1,x,.cons _ t,e=>by
  obtain⟨u,h1,h2⟩:=RMs.get (i:=i) (x:=x) t (by simpa using e)
  exact⟨u,by simpa using h1,h2⟩
theorem RMs.get'{K:X4}:∀{m:List MV} {v:List V} {i:Nat} {u:V},RMs K H m v->v[i]?=some u->∃x,m[i]?=some x/\RM K H x u
 |_,_,_,_,.nil,e=>by simp at e
 |_,_,0,_,.cons r _,e=>by simp at e;subst e;exact⟨_,rfl,r⟩
 |_,_,i+1,x,.cons _ t,e=>by
  obtain⟨u,h1,h2⟩:=RMs.get' (i:=i) (u:=x) t (by simpa using e)
  exact⟨u,by simpa using h1,h2⟩
theorem RMs.append{K:X4}:∀{m m':List MV} {v v':List V},RMs K H m v->RMs K H m' v'->RMs K H (m++m') (v++v')
 |_,_,_,_,.nil,s=>s
 |_,_,_,_,.cons r t,s=>.cons r (t.append s)
theorem RMs.take{K:X4}:∀{m:List MV} {v:List V} (n:Nat),RMs K H m v->RMs K H (m.take n) (v.take n)
 |_,_,0,_=>.nil
 |_,_,_+1,.nil=>.nil
 |_,_,n+1,.cons r t=>.cons r (t.take n)
theorem RMs.drop{K:X4}:∀{m:List MV} {v:List V} (n:Nat),RMs K H m v->RMs K H (m.drop n) (v.drop n)
 |_,_,0,r=>r
 |_,_,_+1,.nil=>.nil
 |_,_,n+1,.cons _ t=>t.drop n
theorem RMs.set{K:X4}(r:RM K H x u):∀{m:List MV} {v:List V} (i:Nat),RMs K H m v->RMs K H (m.set i x) (v.set i u)
 |_,_,_,.nil=>.nil
 |_,_,0,.cons _ t=>.cons r t
 |_,_,i+1,.cons q t=>.cons q (t.set r i)
theorem RMs.ints{K:X4}:∀ns:List Int,RMs K H (ns.map MV.int) (ns.map V.int)
 |[]=>.nil
 |n::r=>.cons (.int n) (RMs.ints r)
theorem RMs.map_of{K:X4}{H:Hp}{α:Type}{f:α->MV}{g:α->V}(hf:∀a v,RM K H (f a) v->v=g a):∀{ns:List α} {vs:List V},RMs K H (ns.map f) vs->vs=ns.map g:=by
 intro ns
 induction ns with
 |nil=>intro vs h;cases h;rfl
 |cons n r ih=>
  intro vs h;have h:RMs K H (f n::r.map f) vs:=h;cases h with
  |cons x t=>rw[ih t,hf _ _ x];rfl
inductive MO where
 |lst (xs:List MV)|dic (kvs:List (Key×MV))|ins (c:Str) (fs:List (Str×MV))
 |fdic (o:Obj) (kvs:List (Key×MV))
abbrev MH:=Addr->Option MO
def updM(M:MH)(a:Addr)(o:MO):MH:=λb=>if b=a then some o else M b
theorem Xb:updM M a o a=some o:=by unfold updM;rw[if_pos rfl]
theorem X7(h:b≠a):updM M a o b=M b:=by unfold updM;rw[if_neg h]
theorem YC:updM (updM M a o) a u=updM M a u:=by funext b;unfold updM;split<;>rfl
inductive RKs {κ:Type} (K:X4) (H:Hp):List (κ×MV)->List (κ×V)->Prop
 |nil:RKs K H [] []
 |cons {k:κ} {x:MV} {v:V} {xs:List (κ×MV)} {vs:List (κ×V)}:RM K H x v->RKs K H xs vs->RKs K H ((k,x)::xs) ((k,v)::vs)
theorem RKs.mono{κ:Type}{K:X4}(k:Kp H H'):∀{m:List (κ×MV)} {v:List (κ×V)},RKs K H m v->RKs K H' m v
 |_,_,.nil=>.nil
 |_,_,.cons a b=>.cons (a.mono k) (b.mono k)
def Zqg{κ:Type}(K:X4)(H:Hp)(vs:List (κ×V)):List (κ×MV)->Prop
 |[]=>vs=[]
 |x::xs=>∃v us,vs=(x.1,v)::us/\RM K H x.2 v/\RKs K H xs us
theorem RKs.inv{κ:Type}{K:X4}{H:Hp}{m:List (κ×MV)}{v:List (κ×V)}(r:RKs K H m v):Zqg K H v m:=by
 cases r with
 |nil=>rfl
 |cons a b=>exact⟨_,_,rfl,a,b⟩
theorem RKs.length{κ:Type}{K:X4}:∀{m:List (κ×MV)} {v:List (κ×V)},RKs K H m v->m.length=v.length
 |_,_,.nil=>rfl
 |_,_,.cons _ b=>by rw[Yh,Yh,b.length]
section
variable{κ:Type} [DecidableEq κ]
noncomputable def valM(kvs:List (κ×MV))(k:κ):Option MV:=match kvs with
 |[]=>none
 |(j,v)::r=>if j=k then some v else valM r k
noncomputable def putM(kvs:List (κ×MV))(k:κ)(v:MV):List (κ×MV):=match kvs with
 |[]=>[(k,v)]
 |(j,u)::r=>if j=k then(j,v)::r else(j,u)::putM r k v
end
def RO(K:X4)(H:Hp):MO->HO->Prop
 |.lst xs,.lst vs=>RMs K H xs vs
 |.dic kvs,.dK vs=>RKs K H kvs vs/\(kvs.map (·.1)).Nodup
 |.ins c fs,.ins C _ vs=>Xy K Xp c=some (some (.ref C))/\RKs K H fs vs
 |.fdic o kvs,.frz o' (.dK vs)=>o=o'/\RKs K H kvs vs/\(kvs.map (·.1)).Nodup
 |_,_=>False
theorem RO.mono{K:X4}(k:Kp H H')(h:RO K H o u):RO K H' o u:=by
 cases o with
 |lst xs=>cases u<;>first|exact RMs.mono k h|exact h.elim
 |dic kvs=>cases u<;>first|exact⟨h.1.mono k,h.2⟩|exact h.elim
 |ins c fs=>cases u<;>first|exact⟨h.1,h.2.mono k⟩|exact h.elim
 |fdic ob kvs=>
  cases u with
  |frz o' u=>cases u<;>first|exact⟨h.1,h.2.1.mono k,h.2.2⟩|exact h.elim
  |_=>exact h.elim
def RH(K:X4)(M:MH)(H:Hp):Prop:=∀a o,M a=some o->∃u,H a=some u/\RO K H o u
theorem RH.free{K:X4}(r:RH K M H)(h:H p=none):M p=none:=by
 cases e:M p with
 |none=>rfl
 |some o=>obtain⟨u,hu,_⟩:=r p o e;rw[hu]at h;cases h
theorem RH.lst{K:X4}(r:RH K M H)(h:M p=some (.lst xs)):∃vs,H p=some (.lst vs)/\RMs K H xs vs:=by
 obtain⟨u,hu,ro⟩:=r p _ h;cases u<;>try exact ro.elim
 exact⟨_,hu,ro⟩
theorem RH.dic{K:X4}(r:RH K M H)(h:M p=some (.dic xs)):∃vs,H p=some (.dK vs)/\RKs K H xs vs/\(xs.map (·.1)).Nodup:=by
 obtain⟨u,hu,ro⟩:=r p _ h;cases u<;>try exact ro.elim
 exact⟨_,hu,ro.1,ro.2⟩
theorem RH.fdic{K:X4}(r:RH K M H)(h:M p=some (.fdic o xs)):∃vs,H p=some (.frz o (.dK vs))/\RKs K H xs vs/\(xs.map (·.1)).Nodup:=by
 obtain⟨u,hu,ro⟩:=r p _ h;cases u with
 |frz o' u=>
  cases u<;>try exact ro.elim
  obtain⟨rfl,r1,r2⟩:=ro;exact⟨_,hu,r1,r2⟩
 |_=>exact ro.elim
theorem RH.ins{K:X4}(r:RH K M H){fs:List (Str×MV)}(h:M p=some (.ins c fs)):∃C dx vs,H p=some (.ins C dx vs)/\Xy K Xp c=some (some (.ref C))/\RKs K H fs vs:=by
 obtain⟨u,hu,ro⟩:=r p _ h;cases u<;>try exact ro.elim
 exact⟨_,_,_,hu,ro.1,ro.2⟩
theorem CB{K:X4}{H:Hp}{f:Str}:∀{m:List (Str×MV)} {v:List (Str×V)},RKs K H m v->(valM m f=none/\v.lookup f=none)\/∃x u,valM m f=some x/\v.lookup f=some u/\RM K H x u
 |_,_,.nil=>.inl ⟨rfl,rfl⟩
 |_,_,.cons (k:=j) (x:=x) (v:=u) r t=>by
  by_cases e:j=f
  ·refine .inr ⟨x,u,?_,?_,r⟩
   ·unfold valM;rw[if_pos e]
   ·subst e;simp
  ·have:=CB (f:=f) t;have e2:(f==j)=false:=by simpa using λz=>e z.symm
   unfold valM;rw[if_neg e,Zj,e2];exact this
theorem Jd{K:X4}{H:Hp}{f:Str}{x:MV}{u:V}(r:RM K H x u):∀{m:List (Str×MV)} {v:List (Str×V)},RKs K H m v->RKs K H (putM m f x) (putF f u v)
 |_,_,.nil=>.cons r .nil
 |_,_,.cons (k:=j) q t=>by
  unfold putM putF;by_cases e:j=f
  ·rw[if_pos e,if_pos e];exact .cons r t
  ·rw[if_neg e,if_neg e];exact .cons q (Jd r t)
theorem RH.put{K:X4}(r:RH K M H)(k:Kp H (upd H p u))(ro:RO K (upd H p u) o u):RH K (updM M p o) (upd H p u):=by
 intro a o' e;by_cases h:a=p
 ·subst h;rw[Xb]at e;cases e;exact⟨u,_G,ro⟩
 ·rw[X7 h]at e;obtain⟨v,hv,rv⟩:=r a o' e;exact⟨v,by rw[XM h];exact hv,rv.mono k⟩
theorem RH.kept{K:X4}{M:MH}{H:Hp}(r:RH K M H){p:Addr}(hp:H p=none)(u:HO):RH K M (upd H p u):=by
 intro a o' e;obtain⟨v,hv,rv⟩:=r a o' e;exact⟨v,by rw[XM (Vc hv hp)];exact hv,rv.mono (Kp.new hp u)⟩
abbrev Sm:=List (Option MV)
abbrev QM:=MV->MH->Prop
abbrev TEm:=Sm->MH->QM->Prop
abbrev TAm:=Sm->MH->(List MV->MH->Prop)->Prop
def RS(K:X4)(H:Hp)(σm:Sm)(σ:St):Prop:=σm.length=σ.length/\∀(i:Nat) (m:MV),σm[i]?=some (some m)->∃v,σ[i]?=some (some v)/\RM K H m v
theorem RS.mono{K:X4}(k:Kp H H')(h:RS K H σm σ):RS K H' σm σ:=⟨h.1,λi m e=>by
 obtain⟨v,hv,r⟩:=h.2 i m e;exact⟨v,hv,r.mono k⟩⟩
theorem RS.set{K:X4}(h:RS K H σm σ)(r:RM K H m v)(i:Nat):RS K H (σm.set i (some m)) (σ.set i (some v)):=by
 refine⟨by simp[h.1],λj x e=>?_⟩
 rw[VA]at e;by_cases hij:i=j
 ·subst hij;rw[if_pos rfl]at e;split at e
  ·cases e;exact⟨v,by rw[VA,if_pos rfl,if_pos (by rw[<- h.1];assumption)],r⟩
  ·cases e
 ·rw[if_neg hij]at e;obtain⟨u,hu,ru⟩:=h.2 j x e;exact⟨u,by rw[VA,if_neg hij];exact hu,ru⟩
def Dn(K:X4)(H:Hp)(Q:VK):QM:=λm M=>∀v H',Kp H H'->RM K H' m v->RH K M H'->Q v H'
theorem Dn.on{K:X4}(k:Kp H H1)(h:Dn K H Q m M):Dn K H1 Q m M:=λv H' k' r rh=>h v H' (k.trans k') r rh
def liE(K:X4)(t:TEm):TE:=λσ H Q=>∃σm M,RS K H σm σ/\RH K M H/\t σm M (Dn K H Q)
def liA(K:X4)(t:TAm):TA:=λσ H Q=>∃σm M,RS K H σm σ/\RH K M H/\t σm M (λms M'=>∀vs H',Kp H H'->RMs K H' ms vs->RH K M' H'->Q vs H')
def MonE(t:TEm):Prop:=∀{σ M} {Q Q':QM},(∀m M',Q m M'->Q' m M')->t σ M Q->t σ M Q'
def MonA(t:TAm):Prop:=∀{σ M} {Q Q':List MV->MH->Prop},(∀m M',Q m M'->Q' m M')->t σ M Q->t σ M Q'
abbrev W1:=MV->MH->QM->Prop
abbrev W2:=MV->MV->MH->QM->Prop
abbrev WA:=List MV->MH->QM->Prop
def Mon1(w:W1):Prop:=∀{x M} {Q Q':QM},(∀m M',Q m M'->Q' m M')->w x M Q->w x M Q'
def Mon2(w:W2):Prop:=∀{x y M} {Q Q':QM},(∀m M',Q m M'->Q' m M')->w x y M Q->w x y M Q'
def MonW(w:WA):Prop:=∀{xs M} {Q Q':QM},(∀m M',Q m M'->Q' m M')->w xs M Q->w xs M Q'
def li1(K:X4)(w:W1):V->Hp->VK->Prop:=λx H Q=>∃mx M,RM K H mx x/\RH K M H/\w mx M (Dn K H Q)
def li2(K:X4)(w:W2):R2:=λx y H Q=>∃mx my M,RM K H mx x/\RM K H my y/\RH K M H/\w mx my M (Dn K H Q)
def liW(K:X4)(w:WA):List V->Hp->VK->Prop:=λxs H Q=>∃ms M,RMs K H ms xs/\RH K M H/\w ms M (Dn K H Q)
section
variable{K:X4}
theorem Eh{ta tb:TEm}{w:W2}(ma:MonE ta)(mb:MonE tb)(mw:Mon2 w){σ:St}{H:Hp}{Q:VK}
  (h:liE K (λσ M Q=>ta σ M λx M1=>tb σ M1 λy M2=>w x y M2 Q) σ H Q):tOp (li2 K w) (liE K ta) (liE K tb) σ H Q:=by
 obtain⟨σm,M,rs,rh,h⟩:=h;refine⟨σm,M,rs,rh,ma (λx M1 h1=>?_) h⟩;intro v H1 k1 r1 rh1;refine⟨σm,M1,rs.mono k1,rh1,mb (λy M2 h2=>?_) h1⟩;intro u H2 k2 r2 rh2;exact⟨x,y,M2,r1.mono k2,r2,rh2,mw (λm M' hq=>hq.on (k1.trans k2)) h2⟩
end
theorem PE.weak{t:TE}(h:PE X e t)(i:∀σ H Q,t' σ H Q->t σ H Q):PE X e t':=λpins s σ H Q I q=>h pins s σ H Q I (i _ _ _ q)
theorem PT.weak{t:TT}(h:PT X e t)(i:∀σ H Q,t' σ H Q->t σ H Q):PT X e t':=λpins s σ H Q I q=>h pins s σ H Q I (i _ _ _ q)
theorem PW.weak{t:TT}(h:PW X e t)(i:∀σ H Q,t' σ H Q->t σ H Q):PW X e t':=λwh pins s σ H Q I q=>h wh pins s σ H Q I (i _ _ _ q)
theorem PA.weak{t:TA}(h:PA X e t)(i:∀σ H Q,t' σ H Q->t σ H Q):PA X e t':=λpos pins s σ H Q I q=>h pos pins s σ H Q I (i _ _ _ q)
theorem PS.weak{t:TS}(h:PS X e t)(i:∀D σ H,t' D σ H->t D σ H):PS X e t':=λpins s σ H D I q=>h pins s σ H D I (i _ _ _ q)
theorem PSs.weak{t:TS}(h:PSs X e t)(i:∀D σ H,t' D σ H->t D σ H):PSs X e t':=λpins s σ H D I q=>h pins s σ H D I (i _ _ _ q)
def intsM(k:Int->Int->Prop)(x y:MV):Prop:=match x,y with
 |.int i,.int j=>k i j
 |_,_=>False
theorem intsM.of{k:Int->Int->Prop}{x y:MV}(h:intsM k x y):∃i j,x=.int i/\y=.int j/\k i j:=by
 unfold intsM at h;split at h
 ·exact⟨_,_,rfl,rfl,h⟩
 ·exact h.elim
def addM(x y:MV)(M:MH)(Q:QM):Prop:=match x,y with
 |.int i,.int j=>Q (.int (i+j)) M
 |.str i,.str j=>i.length+j.length≤sizeLine/\Q (.str (i++j)) M
 |.tup xs,.tup ys=>xs≠ []/\xs.length+ys.length≤sizeLine/\Q (.tup (xs++ys)) M
 |_,_=>False
def mulM(x y:MV)(M:MH)(Q:QM):Prop:=match x,y with
 |.int i,.int j=>CMul i j/\Q (.int (i*j)) M
 |.str z,.int i=>z.length≤16/\ -1000≤i/\i≤1000/\Q (.str (Txt.mul z i)) M
 |.tup xs,.int k=>xs≠ []/\1≤k/\xs.length*k.toNat≤1000000/\Q (.tup (Xj k.toNat xs).flatten) M
 |.ref a,.int k=>∃xs,M a=some (.lst xs)/\ -(2^63)≤k/\k<2^63/\xs.length*k.toNat≤sizeLine/\∀p,M p=none->Q (.ref p) (updM M p (.lst (Xj k.toNat xs).flatten))
 |_,_=>False
def wBin(op:Uz)(x y:MV)(M:MH)(Q:QM):Prop:=match op with
 |.Add=>addM x y M Q
 |.Mult=>mulM x y M Q
 |.Sub=>intsM (λi j=>Q (.int (i - j)) M) x y
 |.FloorDiv=>intsM (λi j=>WY i j/\Q (.int (i/j)) M) x y
 |.Mod=>intsM (λi j=>0<j/\Q (.int (i%j)) M) x y
 |.Pow=>intsM (λi j=>CPow i j/\Q (.int (i^j.toNat)) M) x y
 |.LShift=>intsM (λi j=>CPow i j/\Q (.int (i*2^j.toNat)) M) x y
 |.BitAnd=>intsM (λi j=>Q (.int (Cl i j)) M) x y
 |.BitXor=>intsM (λi j=>Q (.int (Cm i j)) M) x y
 |_=>False
theorem _nj:Mon2 addM:=by
 intro x y M Q Q' hq h;unfold addM at h ⊢;split at h
 all_goals first
  |exact hq _ _ h
  |exact h.elim
  |exact⟨h.1,hq _ _ h.2⟩
  |exact⟨h.1,h.2.1,hq _ _ h.2.2⟩
  |(obtain⟨xs,ys,h1,h2,h3,h4⟩:=h
    exact⟨xs,ys,h1,h2,h3,λp hp=>hq _ _ (h4 p hp)⟩)
  |(obtain⟨ys,h2,h3,h4⟩:=h
    exact⟨ys,h2,h3,λp hp=>hq _ _ (h4 p hp)⟩)
theorem _nh:Mon2 mulM:=by
 intro x y M Q Q' hq h;unfold mulM at h ⊢;split at h
 all_goals first
  |exact h.elim
  |exact⟨h.1,hq _ _ h.2⟩
  |exact⟨h.1,h.2.1,h.2.2.1,hq _ _ h.2.2.2⟩
  |(obtain⟨ys,h2,h3,h4,h5,h6⟩:=h
    exact⟨ys,h2,h3,h4,h5,λp hp=>hq _ _ (h6 p hp)⟩)
theorem Je(op:Uz):Mon2 (wBin op):=by
 intro x y M Q Q' hq h;cases op
 all_goals first
  |exact Y3 h
  |exact _nj hq h
  |exact _nh hq h
  |(obtain⟨i,j,rfl,rfl,h⟩:=intsM.of h
    exact hq _ _ h)
  |(obtain⟨i,j,rfl,rfl,h⟩:=intsM.of h
    exact⟨h.1,hq _ _ h.2⟩)
theorem RMs.rep{K:X4}(q:RMs K H xs vs):∀k:Nat,RMs K H (Xj k xs).flatten (Xj k vs).flatten
 |0=>.nil
 |k+1=>by
  rw[Z8,Z8,ZB,ZB];exact q.append (q.rep k)
section
variable{X:Cx}
set_option tactic.hygienic true in
theorem _n1:OpR X (Yg .Add) (li2 X.K addM):=by
 intro pins s σ H x y v u Q I rx ry h;obtain⟨mx,my,M,r1,r2,rh,h⟩:=h;unfold addM at h;split at h
 ·obtain rfl:=r1.inv;obtain rfl:=r2.inv;exact SI pins s σ H _ _ v u Q I rx ry ⟨_,_,rfl,rfl,h _ _ (Kp.refl _) (.int _) rh⟩
 ·obtain rfl:=r1.inv;obtain rfl:=r2.inv;exact T4 pins s σ H _ _ v u Q I rx ry ⟨_,_,rfl,rfl,h.1,h.2 _ _ (Kp.refl _) (.str _) rh⟩
 ·rename_i xs ys
  obtain⟨_,_,rfl,h1,q1⟩:=r1.inv
  rename_i a vs
  cases r2 with
  |tup h2 q2=>
   rename_i b us
   obtain⟨h3,h4,h5⟩:=h;refine TR pins s σ H _ _ v u Q I rx ry ⟨_,_,vs,us,rfl,rfl,SqT.of h1,SqT.of h2,λz=>h3 ?_,by rw[<- q1.length,<- q2.length];exact h4,λz=>?_,λz p hp=>?_⟩
   ·subst z;cases q1;rfl
   ·subst z;cases q2;rw[VD]at h5;exact h5 _ _ (Kp.refl _) (.tup h1 q1) rh
   ·have k:=Kp.new hp (.tup (vs++us));exact h5 _ _ k (.tup _G ((q1.append q2).mono k)) (rh.kept hp _)
 ·exact h.elim
set_option tactic.hygienic true in
theorem _mY:OpR X (Yg .Mult) (li2 X.K mulM):=by
 intro pins s σ H x y v u Q I rx ry h;obtain⟨mx,my,M,r1,r2,rh,h⟩:=h;unfold mulM at h;split at h
 ·obtain rfl:=r1.inv;obtain rfl:=r2.inv;exact SK pins s σ H _ _ v u Q I rx ry ⟨_,_,rfl,rfl,h.1,h.2 _ _ (Kp.refl _) (.int _) rh⟩
 ·obtain rfl:=r1.inv;obtain rfl:=r2.inv;exact _mX pins s σ H _ _ v u Q I rx ry ⟨_,_,rfl,rfl,h.1,h.2.1,h.2.2.1,h.2.2.2 _ _ (Kp.refl _) (.str _) rh⟩
 ·rename_i xs k
  obtain rfl:=r2.inv;obtain⟨_,_,rfl,h1,q1⟩:=r1.inv
  rename_i a vs
  obtain⟨h3,h4,h5,h6⟩:=h;refine _mW pins s σ H _ _ v u Q I rx ry ⟨_,_,vs,rfl,rfl,SqT.of h1,λz=>h3 ?_,h4,by rw[<- q1.length];exact h5,λz=>?_,λz p hp=>?_⟩
  ·subst z;cases q1;rfl
  ·subst z;have e:(Xj (1:Int).toNat xs).flatten=xs:=by simp
   rw[e]at h6;exact h6 _ _ (Kp.refl _) (.tup h1 q1) rh
  ·have kk:=Kp.new hp (.tup (Xj k.toNat vs).flatten);exact h6 _ _ kk (.tup _G ((q1.rep k.toNat).mono kk)) (rh.kept hp _)
 ·rename_i a k
  obtain rfl:=r1.inv;obtain rfl:=r2.inv;obtain⟨xs,h1,h2,h3,h4,h5⟩:=h;obtain⟨vs,e1,q1⟩:=rh.lst h1;refine _pn pins s σ H _ _ v u Q I rx ry ⟨_,_,vs,rfl,rfl,e1,h2,h3,by rw[<- q1.length];exact h4,λp hp=>?_⟩
  have kk:=Kp.new hp (.lst (Xj k.toNat vs).flatten);exact h5 p (rh.free hp) _ _ kk (.ref p) (rh.put kk ((q1.rep k.toNat).mono kk))
 ·exact h.elim
theorem _ps(op:Uz):OpR X (Yg op) (li2 X.K (wBin op)):=by
 cases op with
 |Add=>exact _n1
 |Mult=>exact _mY
 |Sub=>
  intro pins s σ H x y v u Q I rx ry h;obtain⟨mx,my,M,r1,r2,rh,h⟩:=h;obtain⟨i,j,rfl,rfl,h⟩:=intsM.of h;obtain rfl:=r1.inv;obtain rfl:=r2.inv;exact SJ pins s σ H _ _ v u Q I rx ry ⟨_,_,rfl,rfl,h _ _ (Kp.refl _) (.int _) rh⟩
 |FloorDiv=>
  intro pins s σ H x y v u Q I rx ry h;obtain⟨mx,my,M,r1,r2,rh,h⟩:=h;obtain⟨i,j,rfl,rfl,h⟩:=intsM.of h;obtain rfl:=r1.inv;obtain rfl:=r2.inv;exact _kx pins s σ H _ _ v u Q I rx ry ⟨_,_,rfl,rfl,h.1,h.2 _ _ (Kp.refl _) (.int _) rh⟩
 |Mod=>
  intro pins s σ H x y v u Q I rx ry h;obtain⟨mx,my,M,r1,r2,rh,h⟩:=h;obtain⟨i,j,rfl,rfl,h⟩:=intsM.of h;obtain rfl:=r1.inv;obtain rfl:=r2.inv;exact SL pins s σ H _ _ v u Q I rx ry ⟨_,_,rfl,rfl,h.1,h.2 _ _ (Kp.refl _) (.int _) rh⟩
 |Pow=>
  intro pins s σ H x y v u Q I rx ry h;obtain⟨mx,my,M,r1,r2,rh,h⟩:=h;obtain⟨i,j,rfl,rfl,h⟩:=intsM.of h;obtain rfl:=r1.inv;obtain rfl:=r2.inv;exact SM pins s σ H _ _ v u Q I rx ry ⟨_,_,rfl,rfl,h.1,h.2 _ _ (Kp.refl _) (.int _) rh⟩
 |LShift=>
  intro pins s σ H x y v u Q I rx ry h;obtain⟨mx,my,M,r1,r2,rh,h⟩:=h;obtain⟨i,j,rfl,rfl,h⟩:=intsM.of h;obtain rfl:=r1.inv;obtain rfl:=r2.inv;exact SN pins s σ H _ _ v u Q I rx ry ⟨_,_,rfl,rfl,h.1,h.2 _ _ (Kp.refl _) (.int _) rh⟩
 |BitAnd=>
  intro pins s σ H x y v u Q I rx ry h;obtain⟨mx,my,M,r1,r2,rh,h⟩:=h;obtain⟨i,j,rfl,rfl,h⟩:=intsM.of h;obtain rfl:=r1.inv;obtain rfl:=r2.inv;exact SO pins s σ H _ _ v u Q I rx ry ⟨_,_,rfl,rfl,h _ _ (Kp.refl _) (.int _) rh⟩
 |BitXor=>
  intro pins s σ H x y v u Q I rx ry h;obtain⟨mx,my,M,r1,r2,rh,h⟩:=h;obtain⟨i,j,rfl,rfl,h⟩:=intsM.of h;obtain rfl:=r1.inv;obtain rfl:=r2.inv;exact SQ pins s σ H _ _ v u Q I rx ry ⟨_,_,rfl,rfl,h _ _ (Kp.refl _) (.int _) rh⟩
 |_=>
  intro pins s σ H x y v u Q I rx ry h;obtain⟨_,_,_,_,_,_,h⟩:=h;exact Y3 h
end
noncomputable def eqS(x y:MV):Option Bool:=match x with
 |.int i=>(match y with|.int j=>some (decide (i=j))|.non=>some false|.str _=>some false|_=>none)
 |.str i=>(match y with|.str j=>some (decide (i=j))|.non=>some false|.int _=>some false|.bl _=>some false|_=>none)
 |.bl i=>(match y with|.bl j=>some (decide (i=j))|.non=>some false|.str _=>some false|_=>none)
 |.non=>(match y with|.non=>some true|.int _=>some false|.bl _=>some false|.str _=>some false|_=>none)
 |_=>none
theorem Jf{K:X4}(h:eqS x y=some b)(r:RM K H x u)(q:RM K H y v):scal u v=true/\decide (u=v)=b:=by
 cases r
 all_goals first
  |exact nomatch (show none=some b from h)
  |skip
 all_goals
  cases q
  all_goals first
   |exact nomatch (show none=some b from h)
   |(obtain rfl:=Y7 (show some false=some b from h);exact⟨rfl,rfl⟩)
   |(obtain rfl:=Y7 (show some true=some b from h);exact⟨rfl,rfl⟩)
   |(obtain rfl:=Y7 h;exact⟨rfl,decide_eq_decide.mpr ⟨V.int.inj,λe=>by rw[e]⟩⟩)
   |(obtain rfl:=Y7 h;exact⟨rfl,decide_eq_decide.mpr ⟨V.str.inj,λe=>by rw[e]⟩⟩)
   |(obtain rfl:=Y7 h;exact⟨rfl,decide_eq_decide.mpr ⟨V.bl.inj,λe=>by rw[e]⟩⟩)
def LstM(M:MH)(x:MV)(xs:List MV):Prop:=x=.frl xs\/∃a,x=.ref a/\M a=some (.lst xs)
def YJ:MV->Bool
 |.non=>true|.bl _=>true|.int _=>true|.str _=>true|_=>false
def Alike(M:MH):Nat->MV->MV->Prop
 |0,x,y=>YJ x=true/\x=y
 |n+1,x,y=>(YJ x=true/\x=y)\/(∃xs ys,x=.tup xs/\y=.tup ys/\xs.length=ys.length/\∀(i:Nat) u v,xs[i]?=some u->ys[i]?=some v->Alike M n u v)\/
  (∃xs ys,LstM M x xs/\LstM M y ys/\xs.length=ys.length/\∀(i:Nat) u v,xs[i]?=some u->ys[i]?=some v->Alike M n u v)\/
  ∃a b ka kb,x=.ref a/\y=.ref b/\M a=some (.dic ka)/\M b=some (.dic kb)/\ka.length=kb.length/\∀k u,(k,u)∈ka->∃v,valM kb k=some v/\Alike M n u v
def wEq(x y:MV)(M:MH)(k:Bool->Prop):Prop:=match eqS x y with
 |some b=>k b
 |none=>(∃n≤60,Alike M n x y/\k true)\/(∃a b xs,x=.ref a/\y=.ref b/\M a=some (.lst xs)/\M b=some (.lst [])/\k xs.isEmpty)\/False\/False
def toV:MV->V
 |.non=>.non|.bl b=>.bl b|.int i=>.int i|.str x=>.str x|_=>.non
theorem U6{K:X4}(f:YJ m=true)(r:RM K H m v):v=toV m/\ZI v=true:=by
 cases r<;>first|exact⟨rfl,rfl⟩|cases f
theorem Vf{K:X4}:∀{m:List MV} {v:List V},m.all YJ=true->RMs K H m v->v=m.map toV/\v.all ZI=true
 |_,_,_,.nil=>⟨rfl,rfl⟩
 |_,_,f,.cons r t=>by
  rw[UG,XW]at f;obtain⟨e,g⟩:=U6 f.1 r;obtain⟨e2,g2⟩:=Vf f.2 t;subst e e2;exact⟨rfl,by rw[UG,g,g2];rfl⟩
def keyM:MV->Option Key
 |.int i=>some (.inl i)
 |.str x=>some (.inr x)
 |_=>none
theorem W5{K:X4}{k:Key}(e:keyM m=some k)(r:RM K H m v):v=kV k:=by
 cases r<;>cases e<;>rfl
theorem W6{K:X4}{k:Key}:∀{m:List (Key×MV)} {v:List (Key×V)},RKs K H m v->(valM m k=none/\valV v k=none)\/∃x u,valM m k=some x/\valV v k=some u/\RM K H x u
 |_,_,.nil=>.inl ⟨rfl,rfl⟩
 |_,_,.cons (k:=j) (x:=x) (v:=u) r t=>by
  by_cases e:j=k
  ·refine .inr ⟨x,u,?_,Cq (p:=(j,u)) e,r⟩;unfold valM;rw[if_pos e]
  ·have:=W6 (k:=k) t;unfold valM;rw[if_neg e,Cr (p:=(j,u)) e];exact this
theorem Jg{K:X4}{k:Key}:∀{m:List (Key×MV)} {v:List (Key×V)},RKs K H m v->(v.any λkv=>decide (kv.1=k))=(m.any λkv=>decide (kv.1=k))
 |_,_,.nil=>rfl
 |_,_,.cons r t=>by rw[ZD,ZD,Jg t]
theorem Ei{K:X4}{k:Key}(r:RM K H x u):∀{m:List (Key×MV)} {v:List (Key×V)},RKs K H m v->
  RKs K H (m.map λkv=>if kv.1=k then(kv.1,x)else kv) (v.map λkv=>if kv.1=k then(kv.1,u)else kv)
 |_,_,.nil=>.nil
 |_,_,.cons (k:=j) q t=>by
  rw[Xx,Xx];by_cases e:j=k
  ·rw[if_pos e,if_pos e];exact .cons r (Ei r t)
  ·rw[if_neg e,if_neg e];exact .cons q (Ei r t)
theorem Jh{κ:Type}{K:X4}:∀{m m':List (κ×MV)} {v v':List (κ×V)},RKs K H m v->RKs K H m' v'->RKs K H (m++m') (v++v')
 |_,_,_,_,.nil,s=>s
 |_,_,_,_,.cons r t,s=>.cons r (Jh t s)
theorem Ji{κ:Type} [DecidableEq κ] {k:κ}:∀{m:List (κ×MV)},¬k∈m.map (·.1)->(m.map λkv=>if kv.1=k then(kv.1,x)else kv)=m
 |[],_=>rfl
 |(j,y)::r,h=>by
  rw[Xx,if_neg (λe=>h (by simp[show j=k from e])),Ji (λe=>h (by simp[e]))]
theorem Jj{κ:Type} [DecidableEq κ] {k:κ}:∀{m:List (κ×MV)},(m.map (·.1)).Nodup->putM m k x=if(m.any λkv=>decide (kv.1=k))=true then m.map (λkv=>if kv.1=k then(kv.1,x)else kv)else m++[(k,x)]
 |[],_=>rfl
 |(j,y)::r,h=>by
  rw[Xx,YG]at h;unfold putM;rw[ZD];by_cases e:j=k
  ·subst e;rw[if_pos rfl,if_pos (by simp),Xx,if_pos rfl,Ji h.1]
  ·rw[if_neg e,Jj h.2,show decide ((j,y).1=k)=false from decide_eq_false e,DM,Xx,if_neg (show¬(j,y).1=k from e)];split<;>rfl
theorem Jk{κ:Type} [DecidableEq κ] {k:κ}:∀(m:List (κ×MV)),((putM m k x).map (·.1))=if k∈m.map (·.1)then m.map (·.1)else m.map (·.1)++[k]
 |[]=>rfl
 |(j,y)::r=>by
  unfold putM;by_cases e:j=k
  ·subst e;simp
  ·rw[if_neg e,Xx,Jk r,Xx];have e':k≠j:=λz=>e z.symm;by_cases m:k∈r.map (·.1)
   ·rw[if_pos m,if_pos (Xl.mpr (.inr m))]
   ·rw[if_neg m,if_neg (λz=>(Xl.mp z).elim e' m)];rfl
theorem Jl{K:X4}{k:Key}(r:RM K H x u)(nd:(m.map (·.1)).Nodup)(h:RKs K H m v):
  RKs K H (putM m k x) (putK v k u)/\((putM m k x).map (·.1)).Nodup:=by
 refine⟨?_,?_⟩
 ·rw[Jj nd];unfold putK;rw[Jg h];split
  ·exact Ei r h
  ·exact Jh h (.cons r .nil)
 ·rw[Jk];split
  ·exact nd
  ·exact II nd (by assumption)
def wIn(x y:MV)(M:MH)(k:Bool->Prop):Prop:=match y with
 |.tup xs=>YJ x=true/\xs.all YJ=true/\k (inV (toV x) (xs.map toV))
 |.frl xs=>YJ x=true/\xs.all YJ=true/\k (inV (toV x) (xs.map toV))
 |.ref a=>(∃xs,M a=some (.lst xs)/\YJ x=true/\xs.all YJ=true/\k (inV (toV x) (xs.map toV)))\/∃kvs kk,M a=some (.dic kvs)/\keyM x=some kk/\k (valM kvs kk).isSome
 |_=>False
def UN:MV->Bool
 |.non=>true|_=>false
def isBl(b:Bool):MV->Bool
 |.bl c=>decide (c=b)
 |_=>false
def wCmp(op:CmpOp)(x y:MV)(M:MH)(Q:QM):Prop:=match op with
 |.Lt=>∃i j,x=.int i/\y=.int j/\Q (.bl (decide (i<j))) M
 |.LtE=>(∃i j,x=.int i/\y=.int j/\Q (.bl (decide (i≤j))) M)\/∃i j,x=.str i/\y=.str j/\Q (.bl (!decide (j.cps.toList<i.cps.toList))) M
 |.Gt=>∃i j,x=.int i/\y=.int j/\Q (.bl (decide (j<i))) M
 |.GtE=>∃i j,x=.int i/\y=.int j/\Q (.bl (decide (j≤i))) M
 |.Eq=>wEq x y M λb=>Q (.bl b) M
 |.NotEq=>wEq x y M λb=>Q (.bl (!b)) M
 |.In=>wIn x y M λb=>Q (.bl b) M
 |.NotIn=>wIn x y M λb=>Q (.bl (!b)) M
 |.Is=>(y=.non/\Q (.bl (UN x)) M)\/∃b,y=.bl b/\Q (.bl (isBl b x)) M
 |.IsNot=>(y=.non/\Q (.bl (!UN x)) M)\/∃b,y=.bl b/\Q (.bl (!isBl b x)) M
set_option tactic.hygienic true in
theorem Jn{k:Bool->Prop}(hk:∀b,k b->k' b)(h:wEq x y M k):wEq x y M k':=by
 unfold wEq at h ⊢;split
 ·rename_i b e;rw[e]at h;exact hk _ h
 ·rename_i e;rw[e]at h;rcases h with⟨n,h1,h2,h3⟩|⟨a,b,xs,h1,h2,h3,h4,h5⟩|h|h
  ·exact .inl ⟨n,h1,h2,hk _ h3⟩
  ·exact .inr (.inl ⟨a,b,xs,h1,h2,h3,h4,hk _ h5⟩)
  ·exact h.elim
  ·exact h.elim
theorem Jo{k:Bool->Prop}(hk:∀b,k b->k' b)(h:wIn x y M k):wIn x y M k':=by
 unfold wIn at h ⊢;split at h
 ·exact⟨h.1,h.2.1,hk _ h.2.2⟩
 ·exact⟨h.1,h.2.1,hk _ h.2.2⟩
 ·rcases h with⟨xs,h1,h2,h3,h4⟩|⟨kvs,kk,h1,h2,h3⟩
  ·exact .inl ⟨xs,h1,h2,h3,hk _ h4⟩
  ·exact .inr ⟨kvs,kk,h1,h2,hk _ h3⟩
 ·exact h.elim
theorem W7(op:CmpOp):Mon2 (wCmp op):=by
 intro x y M Q Q' hq h;cases op
 ·exact Jn (k:=λb=>Q (.bl b) M) (k':=λb=>Q' (.bl b) M) (λb h=>hq _ _ h) h
 ·exact Jn (k:=λb=>Q (.bl (!b)) M) (k':=λb=>Q' (.bl (!b)) M) (λb h=>hq _ _ h) h
 ·obtain⟨i,j,h1,h2,h3⟩:=h;exact⟨i,j,h1,h2,hq _ _ h3⟩
 ·rcases h with⟨i,j,h1,h2,h3⟩|⟨i,j,h1,h2,h3⟩
  ·exact .inl ⟨i,j,h1,h2,hq _ _ h3⟩
  ·exact .inr ⟨i,j,h1,h2,hq _ _ h3⟩
 ·obtain⟨i,j,h1,h2,h3⟩:=h;exact⟨i,j,h1,h2,hq _ _ h3⟩
 ·obtain⟨i,j,h1,h2,h3⟩:=h;exact⟨i,j,h1,h2,hq _ _ h3⟩
 ·rcases h with h|⟨b,e,h⟩
  ·exact .inl ⟨h.1,hq _ _ h.2⟩
  ·exact .inr ⟨b,e,hq _ _ h⟩
 ·rcases h with h|⟨b,e,h⟩
  ·exact .inl ⟨h.1,hq _ _ h.2⟩
  ·exact .inr ⟨b,e,hq _ _ h⟩
 ·exact Jo (k:=λb=>Q (.bl b) M) (k':=λb=>Q' (.bl b) M) (λb h=>hq _ _ h) h
 ·exact Jo (k:=λb=>Q (.bl (!b)) M) (k':=λb=>Q' (.bl (!b)) M) (λb h=>hq _ _ h) h
section
variable{X:Cx}
set_option tactic.hygienic true in
theorem Jp{K:X4}(r:RM K H m v):decide (v=.bl b)=isBl b m:=by
 cases r<;>first|rfl|(rename_i c;cases b<;>cases c<;>rfl)
theorem Jq{K:X4}(r:RM K H m v):decide (v=.non)=UN m:=by cases r<;>rfl
theorem _rv{k:Key}(r:KV kvs vs)(h:valV kvs k=some v):∃u,Z1 vs k=some u/\RelV v u:=by
 have q:=r.val k;rw[h]at q;exact RelO.some_of q
theorem LstM.sq(rh:RH X.K M H)(h:LstM M x xs)(r:RM X.K H x u):∃a vs,u=.ref a/\SqL X.K H a vs/\RMs X.K H xs vs:=by
 rcases h with rfl|⟨a,rfl,h⟩
 ·obtain⟨_,_,rfl,h1,q1⟩:=r.inv;exact⟨_,_,rfl,h1.sq,q1⟩
 ·obtain rfl:=r.inv;obtain⟨vs,e,q⟩:=rh.lst h;exact⟨a,vs,rfl,SqL.of e,q⟩
theorem CC{xs:List V}{us:List X0}(r:Vals xs us){i:Nat}{u:X0}(h:us[i]?=some u):∃x,xs[i]?=some x/\RelV x u:=by
 induction r generalizing i with
 |nil=>cases h
 |cons q _ ih=>
  cases i with
  |zero=>cases h;exact⟨_,rfl,q⟩
  |succ i=>exact ih (i:=i) h
theorem _pF(r:KV kvs vs){k:Key}(h:(k,u)∈vs):∃x,(k,x)∈kvs/\RelV x u:=by
 induction r with
 |nil=>cases h
 | @cons p p' _ _ q _ ih=>
  obtain⟨k1,x1⟩:=p;obtain⟨k2,x2⟩:=p';rcases Xl.mp h with e|h
  ·cases e;have e1:k1=k:=q.1;subst e1;exact⟨x1,Y8,q.2⟩
  ·obtain⟨x,m,rx⟩:=ih h;exact⟨x,XS _ m,rx⟩
theorem Jr{K:X4}{k:Key}:∀{m:List (Key×MV)} {vs:List (Key×V)},RKs K H m vs->(k,v)∈vs->∃x,(k,x)∈m/\RM K H x v
 |_,_,.nil,h=>by cases h
 |_,_,.cons r t,h=>by
  rcases Xl.mp h with e|h
  ·cases e;exact⟨_,Y8,r⟩
  ·obtain⟨x,m,q⟩:=Jr t h;exact⟨x,XS _ m,q⟩
set_option tactic.hygienic true in
theorem Alike.inn{pins:List (Addr×Obj)}{s:X2}{σ:St}{H:Hp}{M:MH}(I:Inv X pins σ H s)(rh:RH X.K M H){n:Nat}{A:XA}(hu:A.units<cLine)
  (ih:∀{x y:MV} {u v:V} {u' v':X0},Alike M n x y->RM X.K H x u->RM X.K H y v->RelV u u'->RelV v v'->AliP X.prog X.w A.in1 s u' v')
  {x y:MV} {u v:V} {u' v':X0} (h:Alike M (n+1) x y) (r1:RM X.K H x u) (r2:RM X.K H y v) (q1:RelV u u') (q2:RelV v v'):
  (YJ x=true/\x=y)\/∃a b,u'=.ref a/\v'=.ref b/\RcP X.prog X.w A s (.ref a) (.ref b)/\RnP X.prog X.w A s (.ref a) (.ref b):=by
 rw[Alike]at h;rcases h with h|⟨xs,ys,rfl,rfl,e,h⟩|⟨xs,ys,h1,h2,e,h⟩|⟨a,b,ka,kb,rfl,rfl,h1,h2,e,h⟩
 ·exact .inl h
 ·obtain⟨_,_,rfl,g1,w1⟩:=r1.inv;cases r2 with
  |tup g2 w2=>
   rename_i a vs b us
   obtain rfl:u'=Xo a:=q1;obtain rfl:v'=Xo b:=q2;obtain⟨i1,p1,t1,_⟩:=I.tuple (SqT.of g1);obtain⟨i2,p2,t2,_⟩:=I.tuple (SqT.of g2);have z:i1.toArray.size=i2.toArray.size:=by rw[XR,XR,<- p1.length,<- p2.length,<- w1.length,<- w2.length];exact e
   have he:∀p∈i1.toArray.toList.zip i2.toArray.toList,AliP X.prog X.w A.in1 s p.1 p.2:=by
    intro p hp;obtain⟨i,hi⟩:=List.mem_iff_getElem?.mp hp;rw[List.getElem?_zip_eq_some]at hi;obtain⟨x1,c1,d1⟩:=CC p1 hi.1;obtain⟨x2,c2,d2⟩:=CC p2 hi.2;obtain⟨m1,c3,d3⟩:=w1.get' c1;obtain⟨m2,c4,d4⟩:=w2.get' c2;exact ih (h i m1 m2 c3 c4) d3 d4 d1 d2
   exact .inr ⟨_,_,rfl,rfl,_oD t1 t2 z hu he,_n8 t1 t2 z hu he⟩
 ·obtain⟨a,vs,rfl,g1,w1⟩:=h1.sq rh r1;obtain⟨b,us,rfl,g2,w2⟩:=h2.sq rh r2;obtain rfl:u'=Xo a:=q1;obtain rfl:v'=Xo b:=q2;obtain⟨i1,p1,⟨o1,n1,t1,t2,_,t3⟩,_⟩:=I.list g1;obtain⟨i2,p2,⟨o2,n2,t4,t5,_,t6⟩,_⟩:=I.list g2;have z:i1.toArray.size=i2.toArray.size:=by rw[XR,XR,<- p1.length,<- p2.length,<- w1.length,<- w2.length];exact e
  have he:∀j (h1:j<i1.toArray.size) (h2:j<i2.toArray.size),AliP X.prog X.w A.in1 s i1.toArray[j] i2.toArray[j]:=by
   intro i l1 l2;obtain⟨x1,c1,d1⟩:=CC p1 (i:=i) (u:=i1.toArray[i]) (by simp[Xa (show i<i1.length by simpa using l1)])
   obtain⟨x2,c2,d2⟩:=CC p2 (i:=i) (u:=i2.toArray[i]) (by simp[Xa (show i<i2.length by simpa using l2)])
   obtain⟨m1,c3,d3⟩:=w1.get' c1;obtain⟨m2,c4,d4⟩:=w2.get' c2;exact ih (h i m1 m2 c3 c4) d3 d4 d1 d2
  exact .inr ⟨_,_,rfl,rfl,_oE ⟨o1,t1,t2,n1,t3⟩ ⟨o2,t4,t5,n2,t6⟩ z hu he,_n9 ⟨o1,t1,t2,n1,t3⟩ ⟨o2,t4,t5,n2,t6⟩ z hu he⟩
 ·obtain rfl:=r1.inv;obtain rfl:=r2.inv;obtain rfl:u'=Xo a:=q1;obtain rfl:v'=Xo b:=q2;obtain⟨va,ea,wa,_⟩:=rh.dic h1;obtain⟨vb,eb,wb,_⟩:=rh.dic h2;obtain⟨_,na,ua,pa,da⟩:=Cs I.hok ea;obtain⟨_,nb,ub,pb,db⟩:=Cs I.hok eb;have z:ua.length=ub.length:=by rw[<- Paired.length pa,<- wa.length,<- Paired.length pb,<- wb.length];exact e
  have he:∀p∈ua,∃y,Z1 ub p.1=some y/\AliP X.prog X.w A.in1 s p.2 y:=by
   rintro⟨k,u1⟩ hp;obtain⟨x1,c1,d1⟩:=_pF pa hp;obtain⟨m1,c2,d2⟩:=Jr wa c1;obtain⟨m2,c3,c4⟩:=h k m1 c2;rcases W6 (k:=k) wb with⟨z1,z2⟩|⟨x',u2,z1,z2,r3⟩
   ·rw[c3]at z1;cases z1
   ·rw[c3]at z1;cases z1;obtain⟨w',hw,rw'⟩:=_rv pb z2;exact⟨w',hw,ih c4 d2 r3 d1 rw'⟩
  exact .inr ⟨_,_,rfl,rfl,_oF na nb da db hu z he,_na na nb da db hu z he⟩
theorem Js{K:X4}(f:YJ x=true)(r1:RM K H x u)(r2:RM K H x v)(q1:RelV u u')(q2:RelV v v'):AliP P w A s u' v':=by
 obtain⟨rfl,f1⟩:=U6 f r1;obtain⟨rfl,f2⟩:=U6 f r2;have h:=Ir (A:=A) (s:=s) q1 q2 f1 f2;have e:eqV (toV x) (toV x)=true:=by cases x<;>first|(cases f;done)|simp[toV,eqV]
 rw[e]at h;exact .of_at h
theorem Alike.ok(I:Inv X pins σ H s)(rh:RH X.K M H):∀(n:Nat) {A:XA} {x y:MV} {u v:V} {u' v':X0},A.units+n<cLine->Alike M n x y->RM X.K H x u->RM X.K H y v->RelV u u'->RelV v v'->AliP X.prog X.w A s u' v'
 |0,A,x,y,u,v,u',v',hu,h,r1,r2,q1,q2=>by
  rw[Alike]at h;obtain⟨f,rfl⟩:=h;exact Js f r1 r2 q1 q2
 |n+1,A,x,y,u,v,u',v',hu,h,r1,r2,q1,q2=>by
  rcases Alike.inn I rh (A:=A) (by lia) (λh r1 r2 q1 q2=>Alike.ok I rh n (show A.units+1+n<cLine by lia) h r1 r2 q1 q2) h r1 r2 q1 q2 with⟨f,rfl⟩|⟨a,b,rfl,rfl,h,_⟩
  ·exact Js f r1 r2 q1 q2
  ·exact .refs h
theorem Alike.top(I:Inv X pins σ H s)(rh:RH X.K M H)(h:Alike M n x y)(hu:X.A.units+n<cLine)(ns:eqS x y=none)(r1:RM X.K H x u)(r2:RM X.K H y v)(q1:RelV u u')(q2:RelV v v'):
  RcP X.prog X.w X.A s u' v'/\RnP X.prog X.w X.A s u' v':=by
 have no:¬(YJ x=true/\x=y):=by
  rintro⟨f,rfl⟩;cases x<;>first|(cases f;done)|(cases ns;done)
 cases n with
 |zero=>rw[Alike]at h;exact(no h).elim
 |succ n=>
  rcases Alike.inn I rh (A:=X.A) (by lia) (λh r1 r2 q1 q2=>Alike.ok I rh n (show X.A.units+1+n<cLine by lia) h r1 r2 q1 q2) h r1 r2 q1 q2 with f|⟨a,b,rfl,rfl,h,h'⟩
  ·exact(no f).elim
  ·exact⟨h,h'⟩
set_option tactic.hygienic true in
theorem W8(hu:X.A.units+70<cLine)(op:CmpOp):OpR X (Y0 op) (li2 X.K (wCmp op)):=by
 intro pins s σ H x y v u Q I rx ry h;obtain⟨mx,my,M,r1,r2,rh,h⟩:=h;have hb:∀b,Dn X.K H Q (.bl b) M->Q (.bl b) H:=λb h=>h _ _ (Kp.refl _) (.bl b) rh;have hu1:X.A.units+1<cLine:=by lia
 have hu64:X.A.units+64<cLine:=by lia
 have huI:X.A.in1.units+64<cLine:=by show X.A.units+1+64<cLine;lia
 have hu0:X.A.units<cLine:=by lia
 cases op with
 |Lt=>obtain⟨i,j,rfl,rfl,h⟩:=h;obtain rfl:=r1.inv;obtain rfl:=r2.inv;exact SU pins s σ H _ _ v u Q I rx ry ⟨_,_,rfl,rfl,hb _ h⟩
 |LtE=>
  rcases h with⟨i,j,rfl,rfl,h⟩|⟨i,j,rfl,rfl,h⟩
  ·obtain rfl:=r1.inv;obtain rfl:=r2.inv;exact SV pins s σ H _ _ v u Q I rx ry ⟨_,_,rfl,rfl,hb _ h⟩
  ·obtain rfl:=r1.inv;obtain rfl:=r2.inv;obtain⟨t1,rfl⟩:=rx;obtain⟨t2,rfl⟩:=ry;exact PySem.P.le_str ⟨.bl _,H,I,rfl,hb _ h⟩
 |Gt=>obtain⟨i,j,rfl,rfl,h⟩:=h;obtain rfl:=r1.inv;obtain rfl:=r2.inv;exact SW pins s σ H _ _ v u Q I rx ry ⟨_,_,rfl,rfl,hb _ h⟩
 |GtE=>obtain⟨i,j,rfl,rfl,h⟩:=h;obtain rfl:=r1.inv;obtain rfl:=r2.inv;exact SX pins s σ H _ _ v u Q I rx ry ⟨_,_,rfl,rfl,hb _ h⟩
 |Is=>
  rcases h with⟨rfl,h⟩|⟨b,rfl,h⟩
  ·obtain rfl:=r2.inv;exact SY pins s σ H _ _ v u Q I rx ry ⟨rfl,by rw[Jq r1];exact hb _ h⟩
  ·obtain rfl:=r2.inv;exact _mZ pins s σ H _ _ v u Q I rx ry ⟨b,rfl,by rw[Jp r1];exact hb _ h⟩
 |IsNot=>
  rcases h with⟨rfl,h⟩|⟨b,rfl,h⟩
  ·obtain rfl:=r2.inv;exact SZ pins s σ H _ _ v u Q I rx ry ⟨rfl,by rw[Jq r1];exact hb _ h⟩
  ·obtain rfl:=r2.inv;exact _kv pins s σ H _ _ v u Q I rx ry ⟨b,rfl,by rw[Jp r1];exact hb _ h⟩
 |Eq=>
  have h:wEq mx my M λb=>Dn X.K H Q (.bl b) M:=h;unfold wEq at h;split at h
  ·rename_i b e
   obtain⟨e1,e2⟩:=Jf e r1 r2;exact SS pins s σ H _ _ v u Q I rx ry ⟨e1,by rw[e2];exact hb _ h⟩
  ·rcases h with⟨n,h1,h2,h3⟩|⟨a,b,xs,rfl,rfl,h3,h4,h5⟩|h|h
   ·exact(h2.top I rh (by lia) (by assumption) r1 r2 rx ry).1 _ _ ⟨.bl true,H,I,rfl,hb _ h3⟩
   ·obtain rfl:=r1.inv;obtain rfl:=r2.inv;obtain⟨vs,e1,q1⟩:=rh.lst h3;obtain⟨us,e2,q2⟩:=rh.lst h4;obtain rfl:=q2.inv;refine _ky hu0 pins s σ H _ _ v u Q I rx ry ⟨_,_,vs,rfl,rfl,SqL.of e1,SqL.of e2,?_⟩;have:vs.isEmpty=xs.isEmpty:=by cases q1<;>rfl
    rw[this];exact hb _ h5
   ·exact h.elim
   ·exact h.elim
 |NotEq=>
  have h:wEq mx my M λb=>Dn X.K H Q (.bl (!b)) M:=h;unfold wEq at h;split at h
  ·rename_i b e
   obtain⟨e1,e2⟩:=Jf e r1 r2;exact ST pins s σ H _ _ v u Q I rx ry ⟨e1,by rw[e2];exact hb _ h⟩
  ·rcases h with⟨n,h1,h2,h3⟩|⟨a,b,xs,rfl,rfl,h3,h4,h5⟩|h|h
   ·exact(h2.top I rh (by lia) (by assumption) r1 r2 rx ry).2 _ _ ⟨.bl false,H,I,rfl,hb _ h3⟩
   ·obtain rfl:=r1.inv;obtain rfl:=r2.inv;obtain⟨vs,e1,q1⟩:=rh.lst h3;obtain⟨us,e2,q2⟩:=rh.lst h4;obtain rfl:=q2.inv;refine _kw hu0 pins s σ H _ _ v u Q I rx ry ⟨_,_,vs,rfl,rfl,SqL.of e1,SqL.of e2,?_⟩;have:vs.isEmpty=xs.isEmpty:=by cases q1<;>rfl
    rw[this];exact hb _ h5
   ·exact h.elim
   ·exact h.elim
 |In=>
  have h:wIn mx my M λb=>Dn X.K H Q (.bl b) M:=h;unfold wIn at h;split at h
  ·obtain⟨_,_,rfl,h1,q1⟩:=r2.inv;obtain⟨f1,f2,h⟩:=h;obtain⟨e1,g1⟩:=U6 f1 r1;obtain⟨e2,g2⟩:=Vf f2 q1;exact E8 pins s σ H _ _ v u Q I rx ry ⟨_,_,rfl,.inr (SqT.of h1),g1,g2,by rw[e1,e2];exact hb _ h⟩
  ·obtain⟨_,_,rfl,h1,q1⟩:=r2.inv;obtain⟨f1,f2,h⟩:=h;obtain⟨e1,g1⟩:=U6 f1 r1;obtain⟨e2,g2⟩:=Vf f2 q1;exact E8 pins s σ H _ _ v u Q I rx ry ⟨_,_,rfl,.inl h1.sq,g1,g2,by rw[e1,e2];exact hb _ h⟩
  ·obtain rfl:=r2.inv;rcases h with⟨xs,h1,f1,f2,h⟩|⟨kvs,kk,h1,h2,h⟩
   ·obtain⟨vs,e,q1⟩:=rh.lst h1;obtain⟨e1,g1⟩:=U6 f1 r1;obtain⟨e2,g2⟩:=Vf f2 q1;exact E8 pins s σ H _ _ v u Q I rx ry ⟨_,_,rfl,.inl (SqL.of e),g1,g2,by rw[e1,e2];exact hb _ h⟩
   ·obtain⟨vs,e,q1,_⟩:=rh.dic h1;have:=W5 h2 r1;subst this;obtain rfl:u=Xo _:=ry;refine d_in hu1 I (DGet.k (k:=kk) e) rx λs3 I3=>⟨.bl _,H,I3,rfl,?_⟩;rcases W6 (k:=kk) q1 with⟨z1,z2⟩|⟨x',u',z1,z2,_⟩
    ·rw[z2];rw[z1]at h;exact hb _ h
    ·rw[z2];rw[z1]at h;exact hb _ h
  ·exact h.elim
 |NotIn=>
  have h:wIn mx my M λb=>Dn X.K H Q (.bl (!b)) M:=h;unfold wIn at h;split at h
  ·obtain⟨_,_,rfl,h1,q1⟩:=r2.inv;obtain⟨f1,f2,h⟩:=h;obtain⟨e1,g1⟩:=U6 f1 r1;obtain⟨e2,g2⟩:=Vf f2 q1;exact E9 pins s σ H _ _ v u Q I rx ry ⟨_,_,rfl,.inr (SqT.of h1),g1,g2,by rw[e1,e2];exact hb _ h⟩
  ·obtain⟨_,_,rfl,h1,q1⟩:=r2.inv;obtain⟨f1,f2,h⟩:=h;obtain⟨e1,g1⟩:=U6 f1 r1;obtain⟨e2,g2⟩:=Vf f2 q1;exact E9 pins s σ H _ _ v u Q I rx ry ⟨_,_,rfl,.inl h1.sq,g1,g2,by rw[e1,e2];exact hb _ h⟩
  ·obtain rfl:=r2.inv;rcases h with⟨xs,h1,f1,f2,h⟩|⟨kvs,kk,h1,h2,h⟩
   ·obtain⟨vs,e,q1⟩:=rh.lst h1;obtain⟨e1,g1⟩:=U6 f1 r1;obtain⟨e2,g2⟩:=Vf f2 q1;exact E9 pins s σ H _ _ v u Q I rx ry ⟨_,_,rfl,.inl (SqL.of e),g1,g2,by rw[e1,e2];exact hb _ h⟩
   ·obtain⟨vs,e,q1,_⟩:=rh.dic h1;have:=W5 h2 r1;subst this;obtain rfl:u=Xo _:=ry;refine _nT hu1 I (DGet.k (k:=kk) e) rx λs3 I3=>⟨.bl _,H,I3,rfl,?_⟩;rcases W6 (k:=kk) q1 with⟨z1,z2⟩|⟨x',u',z1,z2,_⟩
    ·rw[z2];rw[z1]at h;exact hb _ h
    ·rw[z2];rw[z1]at h;exact hb _ h
  ·exact h.elim
end
def wIx(x y:MV)(M:MH)(Q:QM):Prop:=match x with
 |.tup xs=>∃i v,y=.int i/\atI xs i=some v/\Q v M
 |.frl xs=>∃i v,y=.int i/\atI xs i=some v/\Q v M
 |.str z=>∃i c,y=.int i/\z.length≤sizeLine/\atI z.cps.toList i=some c/\Q (.str ⟨#[c]⟩) M
 |.ref a=>(∃xs i v,M a=some (.lst xs)/\y=.int i/\atI xs i=some v/\Q v M)\/(∃kvs kk v,M a=some (.dic kvs)/\keyM y=some kk/\valM kvs kk=some v/\Q v M)\/∃o kvs kk v,M a=some (.fdic o kvs)/\keyM y=some kk/\valM kvs kk=some v/\Q v M
 |_=>False
theorem Jt:Mon2 wIx:=by
 intro x y M Q Q' hq h;unfold wIx at h ⊢;split at h
 ·obtain⟨i,v,h1,h2,h3⟩:=h;exact⟨i,v,h1,h2,hq _ _ h3⟩
 ·obtain⟨i,v,h1,h2,h3⟩:=h;exact⟨i,v,h1,h2,hq _ _ h3⟩
 ·obtain⟨i,v,h1,h2,h3,h4⟩:=h;exact⟨i,v,h1,h2,h3,hq _ _ h4⟩
 ·rcases h with⟨xs,i,v,h1,h2,h3,h4⟩|⟨kvs,kk,v,h1,h2,h3,h4⟩|⟨o,kvs,kk,v,h1,h2,h3,h4⟩
  ·exact .inl ⟨xs,i,v,h1,h2,h3,hq _ _ h4⟩
  ·exact .inr (.inl ⟨kvs,kk,v,h1,h2,h3,hq _ _ h4⟩)
  ·exact .inr (.inr ⟨o,kvs,kk,v,h1,h2,h3,hq _ _ h4⟩)
 ·exact h.elim
theorem RMs.atI{K:X4}(r:RMs K H m v)(e:atI m i=some x):∃u,atI v i=some u/\RM K H x u:=by
 unfold L2.atI at e ⊢;rw[<- r.length];cases q:ixN m.length i with
 |none=>rw[q]at e;cases e
 |some j=>rw[q]at e;exact r.get e
section
variable{X:Cx}
theorem Ju(hu:X.A.units+1<cLine):IxR X (λx y H Q=>∃a v,x=.ref a/\DGet H a y (some v)/\Q v H):=by
 intro value slice pins s σ H x y v u Q I rx ry h hs;obtain⟨a,w',rfl,g,q⟩:=h;obtain rfl:v=Xo a:=rx;exact tail_any (_fN I g) PySem.F.slot_dict_getitem.lookup (_jn hu I g ry λw2 s3 I3 rw'=>⟨w',H,I3,rw',q⟩) hs
theorem _pM(hu:X.A.units+1<cLine):IxR X (li2 X.K wIx):=by
 intro value slice pins s σ H x y v u Q I rx ry h hs;obtain⟨mx,my,M,r1,r2,rh,h⟩:=h;unfold wIx at h;split at h
 ·obtain⟨i,v',rfl,h2,h3⟩:=h;obtain rfl:=r2.inv;obtain⟨_,_,rfl,h1,q1⟩:=r1.inv;obtain⟨u',e,r⟩:=q1.atI h2;exact TV value slice pins s σ H _ _ v u Q I rx ry ⟨_,_,_,u',rfl,rfl,SqT.of h1,e,h3 _ _ (Kp.refl _) r rh⟩ hs
 ·obtain⟨i,v',rfl,h2,h3⟩:=h;obtain rfl:=r2.inv;obtain⟨_,_,rfl,h1,q1⟩:=r1.inv;obtain⟨u',e,r⟩:=q1.atI h2;exact Iq value slice pins s σ H _ _ v u Q I rx ry ⟨_,_,_,u',rfl,rfl,h1.sq,e,h3 _ _ (Kp.refl _) r rh⟩ hs
 ·obtain⟨i,c,rfl,h2,h3,h4⟩:=h;obtain rfl:=r1.inv;obtain rfl:=r2.inv;exact TW value slice pins s σ H _ _ v u Q I rx ry ⟨_,_,c,rfl,rfl,h2,h3,h4 _ _ (Kp.refl _) (.str _) rh⟩ hs
 ·obtain rfl:=r1.inv;rcases h with⟨xs,i,v',h1,rfl,h3,h4⟩|⟨kvs,kk,v',h1,h2,h3,h4⟩|⟨o,kvs,kk,v',h1,h2,h3,h4⟩
  ·obtain rfl:=r2.inv;obtain⟨vs,e,q1⟩:=rh.lst h1;obtain⟨u',e2,r⟩:=q1.atI h3;exact Iq value slice pins s σ H _ _ v u Q I rx ry ⟨_,_,_,u',rfl,rfl,SqL.of e,e2,h4 _ _ (Kp.refl _) r rh⟩ hs
  ·obtain⟨vs,e,q1,_⟩:=rh.dic h1;have ek:=W5 h2 r2;rcases W6 (k:=kk) q1 with⟨z1,z2⟩|⟨x',u',z1,z2,r'⟩
   ·rw[z1]at h3;cases h3
   ·rw[z1]at h3;cases h3;have g:=DGet.k (k:=kk) e;rw[z2]at g;subst ek;exact Ju hu value slice pins s σ H _ _ v u Q I rx ry ⟨_,u',rfl,g,h4 _ _ (Kp.refl _) r' rh⟩ hs
  ·obtain⟨vs,e,q1,_⟩:=rh.fdic h1;have ek:=W5 h2 r2;rcases W6 (k:=kk) q1 with⟨z1,z2⟩|⟨x',u',z1,z2,r'⟩
   ·rw[z1]at h3;cases h3
   ·rw[z1]at h3;cases h3;have g:DGet H _ (kV kk) (valV vs kk):=.inl ⟨vs,kk,.inr ⟨o,e⟩,rfl,rfl⟩;rw[z2]at g;subst ek;exact Ju hu value slice pins s σ H _ _ v u Q I rx ry ⟨_,u',rfl,g,h4 _ _ (Kp.refl _) r' rh⟩ hs
 ·exact h.elim
end
noncomputable def cutM(xs:List MV)(lo hi:Option Int):List MV:=(xs.drop (HT.sIx xs.length 0 lo)).take (HT.sIx xs.length xs.length hi - HT.sIx xs.length 0 lo)
theorem RMs.cut{K:X4}(r:RMs K H m v)(lo hi:Option Int):RMs K H (cutM m lo hi) (cutV v lo hi):=by
 unfold cutM cutV;rw[<- r.length];exact(r.drop _).take _
abbrev WS:=MV->Option Int->Option Int->MH->QM->Prop
def wSl:WS:=λx lo hi M Q=>match x with
 |.tup xs=>Q (.tup (cutM xs lo hi)) M
 |.frl xs=>∀p,M p=none->Q (.ref p) (updM M p (.lst (cutM xs lo hi)))
 |_=>False
theorem Jv{x:MV}{lo hi:Option Int}{M:MH}{Q Q':QM}(hq:∀m M',Q m M'->Q' m M')(h:wSl x lo hi M Q):wSl x lo hi M Q':=by
 unfold wSl at h ⊢;split at h
 ·exact hq _ _ h
 ·exact λp hp=>hq _ _ (h p hp)
 ·exact h.elim
def liS(K:X4)(w:WS):V->Option Int->Option Int->Hp->VK->Prop:=λx lo hi H Q=>∃mx M,RM K H mx x/\RH K M H/\w mx lo hi M (Dn K H Q)
section
variable{X:Cx}
set_option tactic.hygienic true in
theorem _ou:SlR X (liS X.K wSl):=by
 intro pins s σ H x v vl vu lo hi sl Q I rx hs pl pu h;obtain⟨mx,M,r1,rh,h⟩:=h;unfold wSl at h;split at h
 ·rename_i ms
  obtain⟨_,_,rfl,h1,q1⟩:=r1.inv
  rename_i vs
  by_cases hw:HT.sIx ms.length 0 lo=0/\HT.sIx ms.length ms.length hi=ms.length
  ·have e:cutM ms lo hi=ms:=by unfold cutM;rw[hw.1,hw.2,List.drop_zero,Nat.sub_zero,Dz]
   rw[e]at h;refine _mf pins s σ H _ v vl vu lo hi sl Q I rx hs pl pu ⟨_,_,rfl,SqT.of h1,by rw[<- q1.length];exact hw.1,by rw[<- q1.length];exact hw.2,?_⟩
   exact h _ _ (Kp.refl _) (.tup h1 q1) rh
  refine TN pins s σ H _ v vl vu lo hi sl Q I rx hs pl pu ⟨_,_,rfl,SqT.of h1,by rw[<- q1.length];exact hw,λp hp=>?_⟩
  have k:=Kp.new hp (.tup (cutV vs lo hi));exact h _ _ k (.tup _G ((q1.cut lo hi).mono k)) (rh.kept hp _)
 ·obtain⟨_,_,rfl,h1,q1⟩:=r1.inv
  rename_i vs
  refine _mg pins s σ H _ v vl vu lo hi sl Q I rx hs pl pu ⟨_,_,rfl,h1.sq,λp hp=>?_⟩;have k:=Kp.new hp (.lst (cutV vs lo hi));exact h p (rh.free hp) _ _ k (.ref p) (rh.put k ((q1.cut lo hi).mono k))
 ·exact h.elim
end
def tyM(M:MH):MV->Option Ty7
 |.non=>some .none|.bl _=>some .bool|.int _=>some .int|.str _=>some .str|.tup _=>some .tuple
 |.ref a=>match M a with|some (.lst _)=>some .list|some (.dic _)=>some .dict|_=>none
 |_=>none
def isTy:Ty7->Ty7->Bool
 |.bool,.int=>true
 |a,b=>decide (a=b)
theorem Ej(K:X4)(T c:Ty7)(hc:c≠.none):V2 K (.type T.name) (.type c.name)=some (isTy T c):=by
 cases T<;>cases c<;>first|exact absurd rfl hc|with_unfolding_all rfl
theorem Jw{K:X4}(rh:RH K M H)(r:RM K H m v)(e:tyM M m=some T):TyOf K H v (.type T.name):=by
 cases r with
 |non=>cases e;exact .non
 |bl b=>cases e;exact .bl b
 |int i=>cases e;exact .int i
 |str x=>cases e;exact .str x
 |tup h _=>cases e;exact .tup h
 |frl _ _=>cases e
 |ty _=>cases e
 |ref a=>
  unfold tyM at e;dsimp only at e;cases q:M a with
  |none=>rw[q]at e;cases e
  |some o=>
   rw[q]at e;cases o with
   |lst xs=>cases e;obtain⟨vs,h,_⟩:=rh.lst q;exact .lst h
   |dic kvs=>cases e;obtain⟨vs,h,_⟩:=rh.dic q;exact .dK h
   |ins _ _=>cases e
   |fdic _ _=>cases e
inductive BI where|len|isinst|max|min|sum|abs|int|list|tuple|dict|sorted|dictL|all
  deriving DecidableEq
def bLen(vs:List MV)(M:MH)(Q:QM):Prop:=match vs with
 |[.tup xs]=>Q (.int xs.length) M
 |[.frl xs]=>Q (.int xs.length) M
 |[.str z]=>z.length≤sizeLine/\Q (.int z.length) M
 |[.ref a]=>(∃xs,M a=some (.lst xs)/\Q (.int xs.length) M)\/∃kvs,M a=some (.dic kvs)/\Q (.int kvs.length) M
 |_=>False
def bIsi(vs:List MV)(M:MH)(Q:QM):Prop:=match vs with
 |[x,.ty c]=>∃T,tyM M x=some T/\c≠.none/\Q (.bl (isTy T c)) M
 |[x,.tup [.ty c,.ty d]]=>∃T,tyM M x=some T/\c≠.none/\d≠.none/\Q (.bl (isTy T c||isTy T d)) M
 |_=>False
def bMax(vs:List MV)(M:MH)(Q:QM):Prop:=match vs with
 |[.int i,.int j]=>Q (.int (if j>i then j else i)) M
 |_=>False
def bMin(vs:List MV)(M:MH)(Q:QM):Prop:=match vs with
 |[.int i,.int j]=>Q (.int (if j<i then j else i)) M
 |_=>False
def bInt(vs:List MV)(M:MH)(Q:QM):Prop:=match vs with
 |[.bl k]=>Q (.int (if k then 1 else 0)) M
 |_=>False
def bLst(vs:List MV)(M:MH)(Q:QM):Prop:=match vs with
 |[.tup xs]=>∀p,M p=none->Q (.ref p) (updM M p (.lst xs))
 |[.ref a]=>∃xs,M a=some (.lst xs)/\∀p,M p=none->Q (.ref p) (updM M p (.lst xs))
 |_=>False
def bTup(vs:List MV)(M:MH)(Q:QM):Prop:=match vs with
 |[.ref a]=>∃xs,M a=some (.lst xs)/\Q (.tup xs) M
 |_=>False
def prM(p:Key×MV):MV:=.tup [match p.1 with|.inl i=>.int i|.inr x=>.str x,p.2]
def Yk(ps:List (Key×MV)):List (Key×MV):=ps.foldl (λc z=>putM c z.1 z.2) []
def bDic(vs:List MV)(M:MH)(Q:QM):Prop:=match vs with
 |[.ref a]=>∃kvs,M a=some (.dic kvs)/\∀p,M p=none->Q (.ref p) (updM M p (.dic kvs))
 |[.tup xs]=>∃ps:List (Key×MV),xs=ps.map prM/\∀p,M p=none->Q (.ref p) (updM M p (.dic (Yk ps)))
 |_=>False
def bDcl(vs:List MV)(M:MH)(Q:QM):Prop:=match vs with
 |[.ref a]=>∃ps:List (Key×MV),M a=some (.lst (ps.map prM))/\∀p,M p=none->Q (.ref p) (updM M p (.dic (Yk ps)))
 |_=>False
set_option tactic.hygienic true in
theorem Jx{K:X4}:∀{ps:List (Key×MV)} {vs:List V},RMs K H (ps.map prM) vs->∃ps':List (Key×V),Eg H ps' vs/\RKs K H ps ps':=by
 intro ps
 induction ps with
 |nil=>intro vs h;cases h;exact⟨[],.nil,.nil⟩
 |cons p r ih=>
  obtain⟨k,x⟩:=p;intro vs h;have h:RMs K H (prM (k,x)::r.map prM) vs:=h;cases h with
  |cons a u=>
   obtain⟨ps',h1,h2⟩:=ih u;obtain⟨_,_,rfl,e,t⟩:=a.inv;cases t with
   |cons t1 t2=>
    cases t2 with
    |cons t3 t4=>
     cases t4
     rename_i v1 v2
     refine⟨(k,v2)::ps',.cons ⟨_,rfl,?_⟩ h1,.cons t3 h2⟩;rw[e];cases k<;>cases t1<;>rfl
theorem CD{K:X4}:∀{ps:List (Key×MV)} {ps':List (Key×V)} {c:List (Key×MV)} {c':List (Key×V)},RKs K H ps ps'->RKs K H c c'->(c.map (·.1)).Nodup->
  RKs K H (ps.foldl (λc z=>putM c z.1 z.2) c) (ps'.foldl (λc z=>putK c z.1 z.2) c')/\((ps.foldl (λc z=>putM c z.1 z.2) c).map (·.1)).Nodup
 |_,_,_,_,.nil,h,nd=>⟨h,nd⟩
 |_,_,_,_,.cons r t,h,nd=>by
  obtain⟨a,b⟩:=Jl r nd h;have z:=CD t a b;exact z
def bAll(vs:List MV)(M:MH)(Q:QM):Prop:=match vs with
 |[.ref a]=>∃bs:List Bool,M a=some (.lst (bs.map MV.bl))/\Q (.bl (bs.all id)) M
 |_=>False
theorem RMs.bls_of{K:X4}{H:Hp}{bs:List Bool}{vs:List V}(h:RMs K H (bs.map MV.bl) vs):vs=bs.map V.bl:=h.map_of λ_ _ x=>by cases x;rfl
def wBi(f:BI)(vs:List MV)(M:MH)(Q:QM):Prop:=match f with
 |.len=>bLen vs M Q
 |.isinst=>bIsi vs M Q
 |.max=>bMax vs M Q
 |.min=>bMin vs M Q
 |.sum=>False
 |.abs=>False
 |.int=>bInt vs M Q
 |.list=>bLst vs M Q
 |.tuple=>bTup vs M Q
 |.dict=>bDic vs M Q
 |.sorted=>False
 |.dictL=>bDcl vs M Q
 |.all=>bAll vs M Q
theorem _ni:MonW bLen:=by
 intro vs M Q Q' hq h;unfold bLen at h ⊢;split at h
 ·exact hq _ _ h
 ·exact hq _ _ h
 ·exact⟨h.1,hq _ _ h.2⟩
 ·rcases h with⟨xs,h1,h2⟩|⟨xs,h1,h2⟩
  ·exact .inl ⟨xs,h1,hq _ _ h2⟩
  ·exact .inr ⟨xs,h1,hq _ _ h2⟩
 ·exact h.elim
theorem Jy(f:BI):MonW (wBi f):=by
 intro vs M Q Q' hq h;cases f
 ·exact _ni hq h
 ·have h:bIsi vs M Q:=h;show bIsi vs M Q';unfold bIsi at h ⊢;split at h
  ·obtain⟨T,h1,h2,h3⟩:=h;exact⟨T,h1,h2,hq _ _ h3⟩
  ·obtain⟨T,h1,h2,h3,h4⟩:=h;exact⟨T,h1,h2,h3,hq _ _ h4⟩
  ·exact h.elim
 ·have h:bMax vs M Q:=h;show bMax vs M Q';unfold bMax at h ⊢;split at h
  ·exact hq _ _ h
  ·exact h.elim
 ·have h:bMin vs M Q:=h;show bMin vs M Q';unfold bMin at h ⊢;split at h
  ·exact hq _ _ h
  ·exact h.elim
 ·exact Y3 h
 ·exact Y3 h
 ·have h:bInt vs M Q:=h;show bInt vs M Q';unfold bInt at h ⊢;split at h
  ·exact hq _ _ h
  ·exact h.elim
 ·have h:bLst vs M Q:=h;show bLst vs M Q';unfold bLst at h ⊢;split at h
  ·exact λp hp=>hq _ _ (h p hp)
  ·obtain⟨xs,h1,h2⟩:=h;exact⟨xs,h1,λp hp=>hq _ _ (h2 p hp)⟩
  ·exact h.elim
 ·have h:bTup vs M Q:=h;show bTup vs M Q';unfold bTup at h ⊢;split at h
  ·obtain⟨xs,h1,h2⟩:=h;exact⟨xs,h1,hq _ _ h2⟩
  ·exact h.elim
 ·have h:bDic vs M Q:=h;show bDic vs M Q';unfold bDic at h ⊢;split at h
  ·obtain⟨xs,h1,h2⟩:=h;exact⟨xs,h1,λp hp=>hq _ _ (h2 p hp)⟩
  ·obtain⟨xs,h1,h2⟩:=h;exact⟨xs,h1,λp hp=>hq _ _ (h2 p hp)⟩
  ·exact h.elim
 ·exact Y3 h
 ·have h:bDcl vs M Q:=h;show bDcl vs M Q';unfold bDcl at h ⊢;split at h
  ·obtain⟨ps,h1,h2⟩:=h;exact⟨ps,h1,λp hp=>hq _ _ (h2 p hp)⟩
  ·exact h.elim
 ·have h:bAll vs M Q:=h;show bAll vs M Q';unfold bAll at h ⊢;split at h
  ·obtain⟨bs,h1,h2⟩:=h;exact⟨bs,h1,hq _ _ h2⟩
  ·exact h.elim
noncomputable def BI.val:BI->X0
 |.len=>.builtin "len"|.isinst=>.builtin "isinstance"|.max=>.builtin "max"|.min=>.builtin "min"|.sum=>.builtin "sum"|.abs=>.builtin "abs"
 |.int=>.type "int"|.list=>.type "list"|.tuple=>.type "tuple"|.dict=>.type "dict"|.sorted=>.builtin "sorted"|.dictL=>.type "dict"|.all=>.builtin "all"
section
variable{X:Cx}
theorem RMs.one{K:X4}(r:RMs K H [m] vs):∃v,vs=[v]/\RM K H m v:=by
 obtain⟨_,_,rfl,a,b⟩:=r.inv;cases b;exact⟨_,rfl,a⟩
theorem RMs.two{K:X4}(r:RMs K H [m,n] vs):∃v w,vs=[v,w]/\RM K H m v/\RM K H n w:=by
 obtain⟨_,_,rfl,a,b⟩:=r.inv;obtain⟨w,rfl,c⟩:=b.one;exact⟨_,_,rfl,a,c⟩
theorem _eX:YA X (.type "dict") (fun xs H Q=>∃a kvs,xs=[.ref a]/\H a=some (.dK kvs)/\∀p,H p=none->Q (.ref p) (upd H p (.dK kvs))):=by
 intro pins s σ H xs us Q I r h;obtain⟨a,kvs,rfl,ha,q⟩:=h;obtain⟨u,rfl,ru⟩:=_p r;cases ru;exact _l1 I (.inl ha) λp s' hp I'=>⟨.ref p,_,I',rfl,q p hp⟩
theorem _o0(hc:X.calm=true)(f:BI):YA X f.val (liW X.K (wBi f)):=by
 intro pins s σ H xs us Q I r h;obtain⟨ms,M,r1,rh,h⟩:=h;cases f with
 |len=>
  have h:bLen ms M (Dn X.K H Q):=h;unfold bLen at h;split at h
  ·obtain⟨v,rfl,a⟩:=r1.one;obtain⟨_,_,rfl,h1,q1⟩:=a.inv;exact Ea pins s σ H _ us Q I r ⟨_,_,rfl,.inr (SqT.of h1),by rw[<- q1.length];exact h _ _ (Kp.refl _) (.int _) rh⟩
  ·obtain⟨v,rfl,a⟩:=r1.one;obtain⟨_,_,rfl,h1,q1⟩:=a.inv;exact Ea pins s σ H _ us Q I r ⟨_,_,rfl,.inl h1.sq,by rw[<- q1.length];exact h _ _ (Kp.refl _) (.int _) rh⟩
  ·obtain⟨v,rfl,a⟩:=r1.one;obtain rfl:=a.inv;exact _eV pins s σ H _ us Q I r ⟨_,rfl,h.1,h.2 _ _ (Kp.refl _) (.int _) rh⟩
  ·obtain⟨v,rfl,a⟩:=r1.one;obtain rfl:=a.inv;rcases h with⟨xs,h1,h⟩|⟨kvs,h1,h⟩
   ·obtain⟨vs,e,q1⟩:=rh.lst h1;exact Ea pins s σ H _ us Q I r ⟨_,_,rfl,.inl (SqL.of e),by rw[<- q1.length];exact h _ _ (Kp.refl _) (.int _) rh⟩
   ·obtain⟨vs,e,q1,_⟩:=rh.dic h1;exact _jw pins s σ H _ us Q I r ⟨_,_,rfl,e,by rw[<- q1.length];exact h _ _ (Kp.refl _) (.int _) rh⟩
  ·exact h.elim
 |isinst=>
  have h:bIsi ms M (Dn X.K H Q):=h;unfold bIsi at h;split at h
  ·obtain⟨v,w,rfl,a,b⟩:=r1.two;obtain rfl:=b.inv;obtain⟨T,h1,h2,h3⟩:=h;exact _fT pins s σ H _ us Q I r ⟨_,_,_,_,rfl,Jw rh a h1,Ej _ _ _ h2,h3 _ _ (Kp.refl _) (.bl _) rh⟩
  ·obtain⟨v,w,rfl,a,b⟩:=r1.two;obtain⟨T,h1,h2,h3,h4⟩:=h;obtain⟨_,_,rfl,ht,qt⟩:=b.inv;cases qt with
   |cons q1 q2=>
    cases q2 with
    |cons q3 q4=>
     cases q4;cases q1;cases q3;exact _eW pins s σ H _ us Q I r ⟨_,_,_,_,_,_,_,rfl,ht,Jw rh a h1,Ej _ _ _ h2,Ej _ _ _ h3,h4 _ _ (Kp.refl _) (.bl _) rh⟩
  ·exact h.elim
 |max=>
  have h:bMax ms M (Dn X.K H Q):=h;unfold bMax at h;split at h
  ·obtain⟨v,w,rfl,a,b⟩:=r1.two;obtain rfl:=a.inv;obtain rfl:=b.inv;exact T5 hc pins s σ H _ us Q I r ⟨_,_,rfl,h _ _ (Kp.refl _) (.int _) rh⟩
  ·exact h.elim
 |min=>
  have h:bMin ms M (Dn X.K H Q):=h;unfold bMin at h;split at h
  ·obtain⟨v,w,rfl,a,b⟩:=r1.two;obtain rfl:=a.inv;obtain rfl:=b.inv;exact T6 hc pins s σ H _ us Q I r ⟨_,_,rfl,h _ _ (Kp.refl _) (.int _) rh⟩
  ·exact h.elim
 |sum=>exact Y3 h
 |abs=>exact Y3 h
 |int=>
  have h:bInt ms M (Dn X.K H Q):=h;unfold bInt at h;split at h
  ·obtain⟨v,rfl,a⟩:=r1.one;obtain rfl:=a.inv;exact T7 pins s σ H _ us Q I r (.inr ⟨_,rfl,h _ _ (Kp.refl _) (.int _) rh⟩)
  ·exact h.elim
 |list=>
  have h:bLst ms M (Dn X.K H Q):=h;unfold bLst at h;split at h
  ·obtain⟨v,rfl,a⟩:=r1.one;obtain⟨_,_,rfl,h1,q1⟩:=a.inv;refine Iv pins s σ H _ us Q I r ⟨_,_,rfl,.inr (SqT.of h1),λp hp=>?_⟩;have k:=λz=>Kp.new hp (.lst z);exact h p (rh.free hp) _ _ (k _) (.ref p) (rh.put (k _) (q1.mono (k _)))
  ·obtain⟨v,rfl,a⟩:=r1.one;obtain rfl:=a.inv;obtain⟨xs,h1,h⟩:=h;obtain⟨vs,e,q1⟩:=rh.lst h1;refine Iv pins s σ H _ us Q I r ⟨_,_,rfl,.inl (SqL.of e),λp hp=>?_⟩;have k:=Kp.new hp (.lst vs);exact h p (rh.free hp) _ _ k (.ref p) (rh.put k (q1.mono k))
  ·exact h.elim
 |tuple=>
  have h:bTup ms M (Dn X.K H Q):=h;unfold bTup at h;split at h
  ·obtain⟨v,rfl,a⟩:=r1.one;obtain rfl:=a.inv;obtain⟨xs,h1,h⟩:=h;obtain⟨vs,e,q1⟩:=rh.lst h1;refine _dI pins s σ H _ us Q I r ⟨_,_,rfl,.inl ⟨SqL.of e,λp hp=>?_⟩⟩;have k:=Kp.new hp (.tup vs);exact h _ _ k (.tup _G (q1.mono k)) (rh.kept hp _)
  ·exact h.elim
 |dict=>
  have h:bDic ms M (Dn X.K H Q):=h;unfold bDic at h;split at h
  ·obtain⟨v,rfl,a⟩:=r1.one;obtain rfl:=a.inv;obtain⟨kvs,h1,h⟩:=h;obtain⟨vs,e,q1,nd⟩:=rh.dic h1;refine _eX pins s σ H _ us Q I r ⟨_,_,rfl,e,λp hp=>?_⟩;have k:=Kp.new hp (.dK vs);exact h p (rh.free hp) _ _ k (.ref p) (rh.put k ⟨q1.mono k,nd⟩)
  ·obtain⟨v,rfl,a⟩:=r1.one;obtain⟨ps,rfl,h2⟩:=h;obtain⟨_,_,rfl,e,q1⟩:=a.inv;obtain⟨ps',pv,rk⟩:=Jx q1;refine _fU hc pins s σ H _ us Q I r ⟨_,ps',_,rfl,e,pv,λp hp=>?_⟩;have k:=Kp.new hp (.dK (ZK ps'));obtain⟨z1,z2⟩:=CD rk (.nil:RKs X.K H [] []) (by simp)
   exact h2 p (rh.free hp) _ _ k (.ref p) (rh.put k ⟨z1.mono k,z2⟩)
  ·exact h.elim
 |sorted=>exact Y3 h
 |dictL=>
  have h:bDcl ms M (Dn X.K H Q):=h;unfold bDcl at h;split at h
  ·obtain⟨v,rfl,a⟩:=r1.one;obtain rfl:=a.inv;obtain⟨ps,h1,h2⟩:=h;obtain⟨vs,e,q1⟩:=rh.lst h1;obtain⟨ps',pv,rk⟩:=Jx q1;refine _hw hc pins s σ H _ us Q I r ⟨_,ps',vs,rfl,e,pv,λp hp=>?_⟩;have k:=Kp.new hp (.dK (ZK ps'));obtain⟨z1,z2⟩:=CD rk (.nil:RKs X.K H [] []) (by simp)
   exact h2 p (rh.free hp) _ _ k (.ref p) (rh.put k ⟨z1.mono k,z2⟩)
  ·exact h.elim
 |all=>
  have h:bAll ms M (Dn X.K H Q):=h;unfold bAll at h;split at h
  ·obtain⟨v,rfl,a⟩:=r1.one;obtain rfl:=a.inv;obtain⟨bs,h1,h2⟩:=h;obtain⟨vs,e,q1⟩:=rh.lst h1;have:=q1.bls_of;subst this;exact _jy hc pins s σ H _ us Q I r ⟨_,bs,rfl,SqL.of e,h2 _ _ (Kp.refl _) (.bl _) rh⟩
  ·exact h.elim
end
theorem RMs.strs{K:X4}:∀ns:List Str,RMs K H (ns.map MV.str) (ns.map V.str)
 |[]=>.nil
 |n::r=>.cons (.str n) (RMs.strs r)
theorem RMs.strs_of{K:X4}{H:Hp}{ns:List Str}{vs:List V}(h:RMs K H (ns.map MV.str) vs):vs=ns.map V.str:=h.map_of λ_ _ x=>by cases x;rfl
theorem Jz{K:X4}(f:Nat->Int):∀l:List Nat,RMs K H (l.map λi=>MV.int (f i)) (l.map λi=>V.int (f i))
 |[]=>.nil
 |_::r=>.cons (.int _) (Jz f r)
theorem _i4{K:X4}(n:Nat):RMs K H ((Xs n).map λi=>MV.int (i:Nat)) ((Xs n).map λi=>V.int (i:Nat)):=Jz (λi=>(i:Int)) _
inductive B2 where|ssrt|lset|tset|lrng
  deriving DecidableEq
def B2.out:B2->String
 |.ssrt=>"sorted"
 |.lset=>"len"
 |.tset=>"len"
 |.lrng=>"list"
def B2.inn:B2->String
 |.ssrt=>"set"
 |.lset=>"set"
 |.tset=>"set"
 |.lrng=>"range"
noncomputable def B2.outV:B2->X0
 |.ssrt=>.builtin "sorted"
 |.lset=>.builtin "len"
 |.tset=>.builtin "len"
 |.lrng=>.type "list"
def wB2(f:B2)(v:MV)(M:MH)(Q:QM):Prop:=match f with
 |.ssrt=>∃(a:Addr) (xs N:List Str),v=.ref a/\M a=some (.lst (xs.map MV.str))/\xs.length+1<scanBound/\(∀z∈xs,z∈N)/\N.length<64/\
   ∀p (ys:List Str),M p=none->ys.Nodup->(∀y,y∈ys↔y∈xs)->sortedS ys=true->Q (.ref p) (updM M p (.lst (ys.map MV.str)))
 |.lset=>False
 |.tset=>False
 |.lrng=>∃n:Nat,v=.int n/\n≤1000000/\∀p,M p=none->Q (.ref p) (updM M p (.lst ((Xs n).map λi=>MV.int (i:Nat))))
theorem JA(f:B2):Mon1 (wB2 f):=by
 intro v M Q Q' hq h;cases f with
 |ssrt=>
  obtain⟨a,xs,N,h1,h2,h3,h4,h5,h6⟩:=h;exact⟨a,xs,N,h1,h2,h3,h4,h5,λp ys a1 a2 a3 a4=>hq _ _ (h6 p ys a1 a2 a3 a4)⟩
 |lset=>exact Y3 h
 |tset=>exact Y3 h
 |lrng=>
  obtain⟨n,h1,h2,h3⟩:=h;exact⟨n,h1,h2,λp hp=>hq _ _ (h3 p hp)⟩
section
variable{X:Cx}
theorem _o1(hc:X.calm=true)(f:B2):A3 X f.outV (.type f.inn) (li1 X.K (wB2 f)):=by
 intro pins s σ H x u Q I r h;obtain⟨m,M,r1,rh,h⟩:=h;cases f with
 |ssrt=>
  obtain⟨a,xs,N,rfl,h2,h3,h4,h5,h6⟩:=h;obtain rfl:=r1.inv;obtain⟨vs,e,q1⟩:=rh.lst h2;have:=q1.strs_of;subst this;refine _jr hc pins s σ H _ u Q I r ⟨_,xs,N,rfl,SqL.of e,h3,h4,h5,λp ys hp a1 a2 a3=>?_⟩;have k:=Kp.new hp (.lst (ys.map V.str));exact h6 p ys (rh.free hp) a1 a2 a3 _ _ k (.ref p) (rh.put k (RMs.strs ys))
 |lset=>exact Y3 h
 |tset=>exact Y3 h
 |lrng=>
  obtain⟨n,rfl,h2,h3⟩:=h;obtain rfl:=r1.inv;refine _jv hc pins s σ H _ u Q I r ⟨n,rfl,h2,λp hp=>?_⟩;have k:=Kp.new hp (.lst ((Xs n).map λi=>V.int (i:Nat)));exact h3 p (rh.free hp) _ _ k (.ref p) (rh.put k (_i4 n))
end
inductive MT where|append|extend
  deriving DecidableEq
def wMt(m:MT)(a:Addr)(vs:List MV)(M:MH)(Q:QM):Prop:=∃xs,M a=some (.lst xs)/\match m,vs with
 |.append,[y]=>xs.length<sizeLine/\Q .non (updM M a (.lst (xs++[y])))
 |.extend,[.ref b]=>∃ys,M b=some (.lst ys)/\xs.length+ys.length≤sizeLine/\Q .non (updM M a (.lst (xs++ys)))
 |_,_=>False
def wMl(m:MT)(x:MV)(vs:List MV)(M:MH)(Q:QM):Prop:=match x with
 |.ref a=>wMt m a vs M Q
 |_=>False
def MT.isL:MT->Bool
 |_=>true
def MT.ty:MT->String
 |_=>"list"
def mtOk(m:MT)(x:MV)(M:MH):Prop:=match m with
 |_=>∃a xs,x=.ref a/\M a=some (.lst xs)
def wMts(m:MT)(x:MV)(vs:List MV)(M:MH)(Q:QM):Prop:=match m with
 |m=>wMl m x vs M Q
theorem JB(h:m.isL=true):wMts m x vs M Q=wMl m x vs M Q:=by cases m<;>first|rfl|cases h
theorem _pB(hq:∀m M',Q m M'->Q' m M')(h:wMl m a vs M Q):wMl m a vs M Q':=by
 cases a<;>try exact h.elim
 obtain⟨xs,h1,h⟩:=h;refine⟨xs,h1,?_⟩;split at h
 ·exact⟨h.1,hq _ _ h.2⟩
 ·obtain⟨ys,a,b,c⟩:=h;exact⟨ys,a,b,hq _ _ c⟩
 ·exact h.elim
theorem Ek{m:MT}{a:MV}{vs:List MV}{M:MH}{Q Q':QM}(hq:∀m M',Q m M'->Q' m M')(h:wMts m a vs M Q):wMts m a vs M Q':=by
 cases e:m.isL
 ·cases m<;>cases e
 ·rw[JB e]at h ⊢;exact _pB hq h
def MT.id:MT->String
 |.append=>"list.append"|.extend=>"list.extend"
def liM(K:X4)(w:MV->List MV->MH->QM->Prop):V->List V->Hp->VK->Prop:=λx xs H Q=>∃mx ms M,RM K H mx x/\RMs K H ms xs/\RH K M H/\w mx ms M (Dn K H Q)
section
variable{X:Cx}
theorem _nd(m:MT):MtR X m.id (liM X.K (wMl m)):=by
 intro pins s σ H x xs v us Q I rx rs h;obtain⟨mx,ms,M,r1,r2,rh,h⟩:=h;cases r1<;>try exact h.elim
 obtain⟨ys,h1,h⟩:=h;obtain⟨vs,e,q1⟩:=rh.lst h1;have ku:∀o,Kp H (upd H _ o):=λo=>Kp.upd e rfl o;split at h
 ·obtain⟨w,rfl,r3⟩:=r2.one;exact Iy pins s σ H _ _ v us Q I rx rs ⟨_,vs,w,rfl,rfl,e,by rw[<- q1.length];exact h.1,h.2 _ _ (ku _) .non (rh.put (ku _) ((q1.append (.cons r3 .nil)).mono (ku _)))⟩
 ·obtain⟨w,rfl,r3⟩:=r2.one;obtain rfl:=r3.inv;obtain⟨zs,a,b,c⟩:=h;obtain⟨ws,e2,q2⟩:=rh.lst a;exact _in pins s σ H _ _ v us Q I rx rs ⟨_,_,vs,ws,rfl,rfl,e,e2,by rw[<- q1.length,<- q2.length];exact b,c _ _ (ku _) .non (rh.put (ku _) ((q1.append q2).mono (ku _)))⟩
 ·exact h.elim
theorem JC(hu:X.A.units+1<cLine)(m:MT):MtR X m.id (liM X.K (wMts m)):=by
 intro pins s σ H x xs v us Q I rx rs h;obtain⟨mx,ms,M,r1,r2,rh,h⟩:=h;cases e:m.isL
 ·cases m<;>cases e
 ·rw[JB e]at h;exact _nd m pins s σ H x xs v us Q I rx rs ⟨mx,ms,M,r1,r2,rh,h⟩
end
def wPut(o i v:MV)(M:MH)(Q:MH->Prop):Prop:=match o with
 |.ref a=>(∃xs k j,M a=some (.lst xs)/\i=.int k/\ixN xs.length k=some j/\Q (updM M a (.lst (xs.set j v))))\/∃kvs kk,M a=some (.dic kvs)/\keyM i=some kk/\kvs.length<sizeLine/\Q (updM M a (.dic (putM kvs kk v)))
 |_=>False
theorem JD{o i v:MV}{M:MH}{Q Q':MH->Prop}(hq:∀M',Q M'->Q' M')(h:wPut o i v M Q):wPut o i v M Q':=by
 cases o<;>try exact h.elim
 rcases h with⟨xs,k,j,h1,h2,h3,h4⟩|⟨kvs,kk,h1,h2,h3,h4⟩
 ·exact .inl ⟨xs,k,j,h1,h2,h3,hq _ h4⟩
 ·exact .inr ⟨kvs,kk,h1,h2,h3,hq _ h4⟩
def DnH(K:X4)(H:Hp)(Q:Hp->Prop):MH->Prop:=λM=>∀H',Kp H H'->RH K M H'->Q H'
def JE(K:X4):TSet:=λo i v H Q=>∃mo mi mv M,RM K H mo o/\RM K H mi i/\RM K H mv v/\RH K M H/\wPut mo mi mv M (DnH K H Q)
section
variable{X:Cx}
theorem _mj(hu:X.A.units+1<cLine):PSet X (JE X.K):=by
 intro pins s σ H o i v ov iv u Q I ro ri rv h;obtain⟨mo,mi,mv,M,r1,r2,r3,rh,h⟩:=h;cases r1<;>try exact h.elim
 rcases h with⟨xs,k,j,h1,rfl,h3,h4⟩|⟨kvs,kk,h1,h2,h3,h4⟩
 ·obtain rfl:=r2.inv;obtain⟨vs,e,q1⟩:=rh.lst h1;have k:=Kp.upd e rfl (.lst (vs.set j v));exact TZ pins s σ H _ _ v ov iv u Q I ro ri rv ⟨_,vs,_,j,rfl,rfl,e,by rw[<- q1.length];exact h3,h4 _ k (rh.put k ((q1.set r3 j).mono k))⟩
 ·obtain⟨vs,e,q1,nd⟩:=rh.dic h1;have ek:=W5 h2 r2;subst ek;obtain rfl:ov=Xo _:=ro;have k:=Kp.upd e rfl (.dK (putK vs kk v));obtain⟨q2,nd2⟩:=Jl (k:=kk) r3 nd q1;exact _jm hu I (DPut.k (k:=kk) e (by rw[<- q1.length];exact h3)) ri rv λs4 I4=>⟨_,I4,h4 _ k (rh.put k ⟨q2.mono k,nd2⟩)⟩
end
end L2
namespace L2
set_option genInjectivity false
set_option genCtorIdx false
open PySem PySem.Spec PyProof.Rows
mutual
inductive ITg where|nm (i:Nat)|tup (ts:ITgs)
inductive ITgs where|nil|cons (t:ITg) (ts:ITgs)
end
mutual
inductive IE where
 |var (i:Nat)
 |int (i:Int)|str (x:Str)|bl (b:Bool)|non
 |glb (x:Str) (i:Int)
 |ty (c:Ty7)
 |bin (op:Uz) (a b:IE)
 |neg (a:IE)
 |not (a:IE)
 |cmp (op:CmpOp) (a b:IE)
 |chn (op op':CmpOp) (a b c:IE)
 |and (a b:IE)
 |or (a b:IE)
 |ife (c a b:IE)
 |tup (es:IEs)
 |lst (es:IEs)
 |dic
 |ix (a b:IE)
 |sl (a:IE) (lo hi:IO)
 |call (j:Nat) (e:IE) (es:IEs)
 |bi (f:BI) (e:IE) (es:IEs)
 |b2 (f:B2) (e:IE)
 |mt (m:MT) (o:IE) (es:IEs)
 |comp (own:List Str) (fr:List Nat) (src:ISr) (tg:ITg) (test:IO) (elt:IE)
 |fld (c:Str) (o:IE) (f:Str)
 |mcall (j:Nat) (c m:Str) (o:IE) (es:IEs)
 |make (j:Nat) (c:Str) (e:IE) (es:IEs)
 |disp (ps:IPs)
 |mxd (e:IE)
 |st3 (e:IE)
inductive IPs where|nil|cons (k v:IE) (r:IPs)
inductive IEs where|nil|cons (e:IE) (es:IEs)
inductive IO where|none|some (e:IE)
inductive ISr where|seq (e:IE)|rng (e:IE)
end
def wSt3(v:MV)(M:MH)(Q:QM):Prop:=∃(a:Addr) (xs:List MV),v=.ref a/\M a=some (.lst xs)/\∀p,M p=none->Q (.ref p) (updM M p (.lst (st3 xs)))
theorem _ne(hq:∀v M,Q v M->Q' v M)(h:wSt3 v M Q):wSt3 v M Q':=by
 obtain⟨a,xs,h1,h2,h3⟩:=h;exact⟨a,xs,h1,h2,λp hp=>hq _ _ (h3 p hp)⟩
def wMxd(v:MV)(M:MH)(Q:QM):Prop:=∃(a:Addr) (ns:List Int),v=.ref a/\M a=some (.lst (ns.map MV.int))/\∀m,(ns=[]/\m=0\/m∈ns/\∀i∈ns,i≤m)->Q (.int m) M
theorem _ng(hq:∀v M,Q v M->Q' v M)(h:wMxd v M Q):wMxd v M Q':=by
 obtain⟨a,ns,h1,h2,h3⟩:=h;exact⟨a,ns,h1,h2,λm hm=>hq _ _ (h3 m hm)⟩
inductive Src where|tup (xs:List MV)|lst (a:Addr) (xs:List MV)|rng (lo:Int) (n:Nat)|str (x:Str)
noncomputable def Src.items:Src->List MV
 |.tup xs=>xs
 |.lst _ xs=>xs
 |.rng lo n=>(Xs n).map λi=>.int (lo+(i:Nat))
 |.str x=>x.cps.toList.map λc=>.str ⟨#[c]⟩
def Src.ok(M:MH):Src->Prop
 |.lst a xs=>M a=some (.lst xs)
 |_=>True
def Src.okF(M:MH):Src->Prop
 |.lst a xs=>M a=some (.lst xs)
 |_=>True
def Src.okT(M:MH):Src->Prop
 |_=>True
def Src.thaw(M:MH):Src->MH
 |_=>M
noncomputable def Src.len:Src->Nat
 |.tup xs=>xs.length
 |.lst _ xs=>xs.length
 |.rng _ n=>n
 |.str x=>x.cps.size
theorem Src.items_len(S:Src):S.items.length=S.len:=by cases S<;>simp[Src.items,Src.len]
abbrev SpM:=List MV->MH->QM->Prop
abbrev TSm:=Sm->MH->(Src->MH->Prop)->Prop
mutual
def wTg:ITg->MV->Sm->(Sm->Prop)->Prop
 |.nm i,v,σ,Q=>Q (σ.set i (some v))
 |.tup ts,v,σ,Q=>∃xs,v=.tup xs/\wTgs ts xs σ Q
def wTgs:ITgs->List MV->Sm->(Sm->Prop)->Prop
 |.nil,xs,σ,Q=>xs=[]/\Q σ
 |.cons t ts,xs,σ,Q=>∃v r,xs=v::r/\wTg t v σ λσ'=>wTgs ts r σ' Q
end
noncomputable def sCm(own:List Str)(fr:List Nat)(σ:Sm):Sm:=own.map (λ_=>none)++fr.map (λi=>σ.getD i none)
def onV(o:Option (Option MV))(k:MV->Prop):Prop:=match o with
 |some (some v)=>k v
 |_=>False
theorem _pv{k:MV->Prop}:onV o k=∃v,o=some (some v)/\k v:=by
 refine propext ⟨λh=>?_,fun⟨v,e,h⟩=>by subst e;exact h⟩
 match o,h with
 |some (some v),h=>exact⟨v,rfl,h⟩
def onB(x:MV)(k:Bool->Prop):Prop:=match x with
 |.bl c=>k c
 |_=>False
theorem W9{k:Bool->Prop}:onB x k=∃c,x=.bl c/\k c:=by
 refine propext ⟨λh=>?_,fun⟨v,e,h⟩=>by subst e;exact h⟩
 cases x<;>first|exact⟨_,rfl,h⟩|exact h.elim
def onF(o:Option (Str×SpM))(k:SpM->Prop):Prop:=match o with
 |some p=>k p.2
 |none=>False
theorem _pw{k:SpM->Prop}:onF o k=∃f sp,o=some (f,sp)/\k sp:=by
 refine propext ⟨λh=>?_,fun⟨f,v,e,h⟩=>by subst e;exact h⟩
 match o,h with
 |some (f,sp),h=>exact⟨f,sp,rfl,h⟩
mutual
def wE(Φ:List (Str×SpM)):IE->TEm
 |.var i,σ,M,Q=>onV σ[i]? λv=>Q v M
 |.int i,_,M,Q=>Q (.int i) M
 |.str x,_,M,Q=>Q (.str x) M
 |.bl b,_,M,Q=>Q (.bl b) M
 |.non,_,M,Q=>Q .non M
 |.glb _ i,_,M,Q=>Q (.int i) M
 |.ty c,_,M,Q=>Q (.ty c) M
 |.bin op a b,σ,M,Q=>wE Φ a σ M λx M1=>wE Φ b σ M1 λy M2=>wBin op x y M2 Q
 |.neg a,σ,M,Q=>wE Φ a σ M λx M1=>∃i,x=.int i/\Q (.int (-i)) M1
 |.not a,σ,M,Q=>wE Φ a σ M λx M1=>onB x λb=>Q (.bl (!b)) M1
 |.cmp op a b,σ,M,Q=>wE Φ a σ M λx M1=>wE Φ b σ M1 λy M2=>wCmp op x y M2 Q
 |.chn op op' a b c,σ,M,Q=>wE Φ a σ M λx M1=>wE Φ b σ M1 λy M2=>wCmp op x y M2 λz M3=>onB z λk=>(if k=true then wE Φ c σ M3 λw M4=>wCmp op' y w M4 Q else Q (.bl false) M3)
 |.and a b,σ,M,Q=>wE Φ a σ M λx M1=>onB x λc=>(if c=true then wE Φ b σ M1 Q else Q (.bl false) M1)
 |.or a b,σ,M,Q=>wE Φ a σ M λx M1=>onB x λc=>(if c=true then Q (.bl true) M1 else wE Φ b σ M1 Q)
 |.ife c a b,σ,M,Q=>wE Φ c σ M λx M1=>onB x λk=>(if k=true then wE Φ a σ M1 Q else wE Φ b σ M1 Q)
 |.tup es,σ,M,Q=>wEs Φ es σ M λvs M1=>vs.length≤sizeLine/\Q (.tup vs) M1
 |.lst es,σ,M,Q=>wEs Φ es σ M λvs M1=>vs.length≤sizeLine/\∀p,M1 p=none->Q (.ref p) (updM M1 p (.lst vs))
 |.dic,_,M,Q=>∀p,M p=none->Q (.ref p) (updM M p (.dic []))
 |.ix a b,σ,M,Q=>wE Φ a σ M λx M1=>wE Φ b σ M1 λy M2=>wIx x y M2 Q
 |.sl a lo hi,σ,M,Q=>wE Φ a σ M λx M1=>wO Φ lo σ M1 λl M2=>wO Φ hi σ M2 λh M3=>wSl x l h M3 Q
 |.call j e es,σ,M,Q=>wE Φ e σ M λv M1=>wEs Φ es σ M1 λvs M2=>onF Φ[j]? λsp=>sp (v::vs) M2 Q
 |.bi f e es,σ,M,Q=>wE Φ e σ M λv M1=>wEs Φ es σ M1 λvs M2=>wBi f (v::vs) M2 Q
 |.b2 f e,σ,M,Q=>wE Φ e σ M λv M1=>wB2 f v M1 Q
 |.mxd e,σ,M,Q=>wE Φ e σ M λv M1=>wMxd v M1 Q
 |.st3 e,σ,M,Q=>wE Φ e σ M λv M1=>wSt3 v M1 Q
 |.mt m o es,σ,M,Q=>wE Φ o σ M λx M1=>mtOk m x M1/\wEs Φ es σ M1 λvs M2=>wMts m x vs M2 Q
 |.comp own fr src tg test elt,σ,M,Q=>wSr Φ src σ M λS M1=>S.len<sizeLine/\∀D,M1 D=none->∃J:Nat->List MV->MH->Prop,J 0 [] (updM M1 D (.lst []))/\
   (∀i ys M2,J i ys M2->M2 D=some (.lst ys)/\ys.length≤i/\S.ok M2)/\
   (∀i x ys M2,S.items[i]?=some x->J i ys M2->wTg tg x (sCm own fr σ) λσ2=>wI Φ test σ2 M2 λb M4=>
    if b=true then wE Φ elt σ2 M4 λy M5=>M5 D=some (.lst ys)/\J (i+1) (ys++[y]) (updM M5 D (.lst (ys++[y])))else J (i+1) ys M4)/\
   ∀ys M2,J S.len ys M2->Q (.ref D) (S.thaw M2)
 |.fld c o f,σ,M,Q=>wE Φ o σ M λx M1=>∃a fs v,x=.ref a/\M1 a=some (.ins c fs)/\valM fs f=some v/\Q v M1
 |.mcall j c m o es,σ,M,Q=>wE Φ o σ M λx M1=>∃a fs,x=.ref a/\M1 a=some (.ins c fs)/\valM fs m=none/\wEs Φ es σ M1 λvs M2=>∃f sp,Φ[j]?=some (f,sp)/\sp (.ref a::vs) M2 Q
 |.make j c e es,σ,M,Q=>wE Φ e σ M λv M1=>wEs Φ es σ M1 λvs M2=>∃f sp,Φ[j]?=some (f,sp)/\∀p,M2 p=none->sp (.ref p::v::vs) (updM M2 p (.ins c [])) λu M3=>u=.non/\Q (.ref p) M3
 |.disp ps,σ,M,Q=>∀p,M p=none->wPs Φ ps σ (updM M p (.dic [])) λl M2=>M2 p=some (.dic [])/\l.length≤15/\Q (.ref p) (updM M2 p (.dic (Yk l)))
def wPs(Φ:List (Str×SpM)):IPs->Sm->MH->(List (Key×MV)->MH->Prop)->Prop
 |.nil,_,M,Q=>Q [] M
 |.cons k v r,σ,M,Q=>wE Φ k σ M λx M1=>∃kk,keyM x=some kk/\wE Φ v σ M1 λy M2=>wPs Φ r σ M2 λl M3=>Q ((kk,y)::l) M3
def wEs(Φ:List (Str×SpM)):IEs->TAm
 |.nil,_,M,Q=>Q [] M
 |.cons e es,σ,M,Q=>wE Φ e σ M λv M1=>wEs Φ es σ M1 λvs M2=>Q (v::vs) M2
def wO(Φ:List (Str×SpM)):IO->Sm->MH->(Option Int->MH->Prop)->Prop
 |.none,_,M,Q=>Q none M
 |.some e,σ,M,Q=>wE Φ e σ M λv M1=>∃i,v=.int i/\Q (some i) M1
def wI(Φ:List (Str×SpM)):IO->Sm->MH->(Bool->MH->Prop)->Prop
 |.none,_,M,Q=>Q true M
 |.some e,σ,M,Q=>wE Φ e σ M λv M1=>∃b,v=.bl b/\Q b M1
def wSr(Φ:List (Str×SpM)):ISr->TSm
 |.seq e,σ,M,Q=>wE Φ e σ M λv M1=>(∃xs,(v=.tup xs\/v=.frl xs)/\Q (.tup xs) M1)\/(∃a xs,v=.ref a/\M1 a=some (.lst xs)/\Q (.lst a xs) M1)\/False\/∃z,v=.str z/\Q (.str z) M1
 |.rng e,σ,M,Q=>wE Φ e σ M λv M1=>∃j,v=.int j/\ -(2^62)≤j/\j<2^62/\Q (.rng 0 j.toNat) M1
end
section
variable{Φ:List (Str×SpM)}{σ:Sm}{M:MH}{Q:QM}
theorem JF{i:Nat}:wE Φ (.var i) σ M Q=∃v,σ[i]?=some (some v)/\Q v M:=_pv
theorem El{a:IE}:wE Φ (.not a) σ M Q=wE Φ a σ M λx M1=>∃b,x=.bl b/\Q (.bl (!b)) M1:=congrArg (wE Φ a σ M) (funext λ_=>funext λ_=>W9)
theorem JG:wE Φ (.chn op op' a b c) σ M Q=wE Φ a σ M λx M1=>wE Φ b σ M1 λy M2=>wCmp op x y M2 λz M3=>∃k,z=.bl k/\(if k=true then wE Φ c σ M3 λw M4=>wCmp op' y w M4 Q else Q (.bl false) M3):=congrArg (wE Φ a σ M) (funext λ_=>funext λ_=>congrArg (wE Φ b σ _) (funext λ_=>funext λ_=>congrArg (wCmp op _ _ _) (funext λ_=>funext λ_=>W9)))
theorem Em{a b:IE}:wE Φ (.and a b) σ M Q=wE Φ a σ M λx M1=>∃c,x=.bl c/\(if c=true then wE Φ b σ M1 Q else Q (.bl false) M1):=congrArg (wE Φ a σ M) (funext λ_=>funext λ_=>W9)
theorem x_or{a b:IE}:wE Φ (.or a b) σ M Q=wE Φ a σ M λx M1=>∃c,x=.bl c/\(if c=true then Q (.bl true) M1 else wE Φ b σ M1 Q):=congrArg (wE Φ a σ M) (funext λ_=>funext λ_=>W9)
theorem JH{a b c:IE}:wE Φ (.ife c a b) σ M Q=wE Φ c σ M λx M1=>∃k,x=.bl k/\(if k=true then wE Φ a σ M1 Q else wE Φ b σ M1 Q):=congrArg (wE Φ c σ M) (funext λ_=>funext λ_=>W9)
theorem JI{j:Nat}{e:IE}{es:IEs}:wE Φ (.call j e es) σ M Q=wE Φ e σ M λv M1=>wEs Φ es σ M1 λvs M2=>∃f sp,Φ[j]?=some (f,sp)/\sp (v::vs) M2 Q:=congrArg (wE Φ e σ M) (funext λ_=>funext λ_=>congrArg (wEs Φ es σ _) (funext λ_=>funext λ_=>_pw))
end
mutual
theorem Vg:∀(t:ITg) {v:MV} {σ:Sm} {Q Q':Sm->Prop},(∀σ,Q σ->Q' σ)->wTg t v σ Q->wTg t v σ Q'
 |.nm i,v,σ,Q,Q',hq,h=>by exact hq _ h
 |.tup ts,v,σ,Q,Q',hq,h=>by
  obtain⟨xs,e,h⟩:=h;exact⟨xs,e,mon_tgs ts hq h⟩
theorem mon_tgs:∀(t:ITgs) {v:List MV} {σ:Sm} {Q Q':Sm->Prop},(∀σ,Q σ->Q' σ)->wTgs t v σ Q->wTgs t v σ Q'
 |.nil,v,σ,Q,Q',hq,h=>by exact⟨h.1,hq _ h.2⟩
 |.cons t ts,v,σ,Q,Q',hq,h=>by
  obtain⟨x,r,e,h⟩:=h;exact⟨x,r,e,Vg t (λσ' h'=>mon_tgs ts hq h') h⟩
end
theorem YR{c:Prop} [Decidable c] {A B A' B':Prop}(ha:A->A')(hb:B->B')(h:if c then A else B):if c then A' else B':=by
 split at h
 ·rw[if_pos (by assumption)];exact ha h
 ·rw[if_neg (by assumption)];exact hb h
mutual
theorem X9{Φ:List (Str×SpM)}(hΦ:∀(j:Nat) f sp,Φ[j]?=some (f,sp)->MonW sp):∀e:IE,MonE (wE Φ e)
 |.var i,σ,M,Q,Q',hq,h=>by rw[JF]at h ⊢;obtain⟨v,e,h⟩:=h;exact⟨v,e,hq _ _ h⟩
 |.int _,σ,M,Q,Q',hq,h=>by exact hq _ _ h
 |.str _,σ,M,Q,Q',hq,h=>by exact hq _ _ h
 |.bl _,σ,M,Q,Q',hq,h=>by exact hq _ _ h
 |.non,σ,M,Q,Q',hq,h=>by exact hq _ _ h
 |.glb _ _,σ,M,Q,Q',hq,h=>by exact hq _ _ h
 |.ty _,σ,M,Q,Q',hq,h=>by exact hq _ _ h
 |.bin op a b,σ,M,Q,Q',hq,h=>by
  exact X9 hΦ a (λx M1 h1=>X9 hΦ b (λy M2 h2=>Je op hq h2) h1) h
 |.neg a,σ,M,Q,Q',hq,h=>by
  exact X9 hΦ a (λx M1 ⟨i,e,h1⟩=>⟨i,e,hq _ _ h1⟩) h
 |.not a,σ,M,Q,Q',hq,h=>by
  rw[El]at h ⊢;exact X9 hΦ a (λx M1 ⟨i,e,h1⟩=>⟨i,e,hq _ _ h1⟩) h
 |.cmp op a b,σ,M,Q,Q',hq,h=>by
  exact X9 hΦ a (λx M1 h1=>X9 hΦ b (λy M2 h2=>W7 op hq h2) h1) h
 |.chn op op' a b c,σ,M,Q,Q',hq,h=>by
  rw[JG]at h ⊢;exact X9 hΦ a (λx M1 h1=>X9 hΦ b (λy M2 h2=>W7 op (λz M3 ⟨k,e,h3⟩=>⟨k,e,YR (X9 hΦ c λw M4 h4=>W7 op' hq h4) (hq _ _) h3⟩) h2) h1) h
 |.and a b,σ,M,Q,Q',hq,h=>by
  rw[Em]at h ⊢;exact X9 hΦ a (λx M1 ⟨c,e,h1⟩=>⟨c,e,YR (X9 hΦ b hq) (hq _ _) h1⟩) h
 |.or a b,σ,M,Q,Q',hq,h=>by
  rw[x_or]at h ⊢;exact X9 hΦ a (λx M1 ⟨c,e,h1⟩=>⟨c,e,YR (hq _ _) (X9 hΦ b hq) h1⟩) h
 |.ife c a b,σ,M,Q,Q',hq,h=>by
  rw[JH]at h ⊢;exact X9 hΦ c (λx M1 ⟨k,e,h1⟩=>⟨k,e,YR (X9 hΦ a hq) (X9 hΦ b hq) h1⟩) h
 |.tup es,σ,M,Q,Q',hq,h=>by
  exact mon_es hΦ es (λvs M1 ⟨e,h1⟩=>⟨e,hq _ _ h1⟩) h
 |.lst es,σ,M,Q,Q',hq,h=>by
  exact mon_es hΦ es (λvs M1 ⟨e,h1⟩=>⟨e,λp hp=>hq _ _ (h1 p hp)⟩) h
 |.dic,σ,M,Q,Q',hq,h=>by
  exact λp hp=>hq _ _ (h p hp)
 |.ix a b,σ,M,Q,Q',hq,h=>by
  exact X9 hΦ a (λx M1 h1=>X9 hΦ b (λy M2 h2=>Jt hq h2) h1) h
 |.sl a lo hi,σ,M,Q,Q',hq,h=>by
  exact X9 hΦ a (λx M1 h1=>mon_o hΦ lo (λy M2 h2=>mon_o hΦ hi (λz M3 h3=>Jv hq h3) h2) h1) h
 |.call j e es,σ,M,Q,Q',hq,h=>by
  rw[JI]at h ⊢;exact X9 hΦ e (λx M1 h1=>mon_es hΦ es (λy M2 ⟨f,sp,e,h2⟩=>⟨f,sp,e,hΦ _ _ _ e hq h2⟩) h1) h
 |.bi f e es,σ,M,Q,Q',hq,h=>by
  exact X9 hΦ e (λx M1 h1=>mon_es hΦ es (λy M2 h2=>Jy f hq h2) h1) h
 |.b2 f e,σ,M,Q,Q',hq,h=>by
  exact X9 hΦ e (λx M1 h1=>JA f hq h1) h
 |.mxd e,σ,M,Q,Q',hq,h=>by
  exact X9 hΦ e (λx M1 h1=>_ng hq h1) h
 |.st3 e,σ,M,Q,Q',hq,h=>by
  exact X9 hΦ e (λx M1 h1=>_ne hq h1) h
 |.mt m o es,σ,M,Q,Q',hq,h=>by
  exact X9 hΦ o (λx M1 ⟨h0,h1⟩=>⟨h0,mon_es hΦ es (λy M2 h2=>Ek hq h2) h1⟩) h
 |.comp own fr src tg test elt,σ,M,Q,Q',hq,h=>by
  exact mon_sr hΦ src (λS M1 ⟨hz,h1⟩=>⟨hz,λD hD=>by
   obtain⟨J,j0,j1,j2,j3⟩:=h1 D hD;exact⟨J,j0,j1,j2,λys M2 hj=>hq _ _ (j3 ys M2 hj)⟩⟩) h
 |.fld c o f,σ,M,Q,Q',hq,h=>by
  exact X9 hΦ o (λx M1 ⟨a,fs,v,e,e2,e3,h1⟩=>⟨a,fs,v,e,e2,e3,hq _ _ h1⟩) h
 |.mcall j c m o es,σ,M,Q,Q',hq,h=>by
  exact X9 hΦ o (λx M1 ⟨a,fs,e,e2,e3,h1⟩=>⟨a,fs,e,e2,e3,mon_es hΦ es (λy M2 ⟨f,sp,e,h2⟩=>⟨f,sp,e,hΦ _ _ _ e hq h2⟩) h1⟩) h
 |.make j c e es,σ,M,Q,Q',hq,h=>by
  exact X9 hΦ e (λx M1 h1=>mon_es hΦ es (λy M2 ⟨f,sp,e,h2⟩=>⟨f,sp,e,λp hp=>hΦ _ _ _ e (λm M' z=>⟨z.1,hq _ _ z.2⟩) (h2 p hp)⟩) h1) h
 |.disp ps,σ,M,Q,Q',hq,h=>by
  exact λp hp=>mon_ps hΦ ps (λl M2 ⟨e,e2,h1⟩=>⟨e,e2,hq _ _ h1⟩) (h p hp)
theorem mon_ps(hΦ:∀(j:Nat) f sp,Φ[j]?=some (f,sp)->MonW sp):∀(e:IPs) {σ M} {Q Q':List (Key×MV)->MH->Prop},(∀m M',Q m M'->Q' m M')->wPs Φ e σ M Q->wPs Φ e σ M Q'
 |.nil,σ,M,Q,Q',hq,h=>by exact hq _ _ h
 |.cons k v r,σ,M,Q,Q',hq,h=>by
  exact X9 hΦ k (λx M1 ⟨kk,e,h1⟩=>⟨kk,e,X9 hΦ v (λy M2 h2=>mon_ps hΦ r (λl M3 h3=>hq _ _ h3) h2) h1⟩) h
theorem mon_es{Φ:List (Str×SpM)}(hΦ:∀(j:Nat) f sp,Φ[j]?=some (f,sp)->MonW sp):∀e:IEs,MonA (wEs Φ e)
 |.nil,σ,M,Q,Q',hq,h=>by exact hq _ _ h
 |.cons e es,σ,M,Q,Q',hq,h=>by
  exact X9 hΦ e (λx M1 h1=>mon_es hΦ es (λy M2 h2=>hq _ _ h2) h1) h
theorem mon_o{Φ:List (Str×SpM)}(hΦ:∀(j:Nat) f sp,Φ[j]?=some (f,sp)->MonW sp):∀(e:IO) {σ M} {Q Q':Option Int->MH->Prop},(∀m M',Q m M'->Q' m M')->wO Φ e σ M Q->wO Φ e σ M Q'
 |.none,σ,M,Q,Q',hq,h=>by exact hq _ _ h
 |.some e,σ,M,Q,Q',hq,h=>by
  exact X9 hΦ e (λx M1 ⟨i,e,h1⟩=>⟨i,e,hq _ _ h1⟩) h
theorem mon_i(hΦ:∀(j:Nat) f sp,Φ[j]?=some (f,sp)->MonW sp):∀(e:IO) {σ M} {Q Q':Bool->MH->Prop},(∀m M',Q m M'->Q' m M')->wI Φ e σ M Q->wI Φ e σ M Q'
 |.none,σ,M,Q,Q',hq,h=>by exact hq _ _ h
 |.some e,σ,M,Q,Q',hq,h=>by
  exact X9 hΦ e (λx M1 ⟨i,e,h1⟩=>⟨i,e,hq _ _ h1⟩) h
theorem mon_sr{Φ:List (Str×SpM)}(hΦ:∀(j:Nat) f sp,Φ[j]?=some (f,sp)->MonW sp):∀(e:ISr) {σ M} {Q Q':Src->MH->Prop},(∀m M',Q m M'->Q' m M')->wSr Φ e σ M Q->wSr Φ e σ M Q'
 |.seq e,σ,M,Q,Q',hq,h=>by
  exact X9 hΦ e (λx M1 h1=>by
   rcases h1 with⟨xs,e,h1⟩|⟨a,xs,e,e2,h1⟩|h1|⟨z,e,h1⟩
   ·exact .inl ⟨xs,e,hq _ _ h1⟩
   ·exact .inr (.inl ⟨a,xs,e,e2,hq _ _ h1⟩)
   ·exact h1.elim
   ·exact .inr (.inr (.inr ⟨z,e,hq _ _ h1⟩))) h
 |.rng e,σ,M,Q,Q',hq,h=>by
  exact X9 hΦ e (λx M1 ⟨j,e,a,b,h1⟩=>⟨j,e,a,b,hq _ _ h1⟩) h
end
end L2
namespace L2
open PySem PySem.Spec PyProof.Rows
structure GI where
 bl:List Str
 gl:List (Str×Int)
 fns:List Str
 mts:List (Nat×Str×Str):=[]
 mks:List (Nat×Str):=[]
 cls:List (Str×Str):=[]
noncomputable def visB(sc:Scope)(x:Str):Bool:=match sc.names.lookup x with
 |some .local=>true|some .cell=>true|some .free=>true|_=>false
noncomputable def locB(sc:Scope)(x:Str):Bool:=match sc.names.lookup x with
 |some .local=>true|some .cell=>true|_=>false
noncomputable def glB(sc:Scope)(x:Str):Bool:=decide (sc.names.lookup x=some .globalImplicit)&& !(x==("__debug__":Str))&&decide (x≠"__name__")
noncomputable def Wa(scope osc:Scope):Scope:={scope with names:=scope.names.map fun(n,k)=>if(k==.free&&osc.kind==.function&&osc.names.lookup n==some .cell)then(n,.cell)else(n,k)}
noncomputable def BI.name:BI->String
 |.len=>"len"|.isinst=>"isinstance"|.max=>"max"|.min=>"min"|.sum=>"sum"|.abs=>"abs"|.int=>"int"|.list=>"list"|.tuple=>"tuple"|.dict=>"dict"|.sorted=>"sorted"|.dictL=>"dict"|.all=>"all"
def MT.name:MT->String
 |.append=>"append"|.extend=>"extend"
def A5:Expr->Bool
 |.Slice ..=>false|_=>true
def A6:Expr->Bool
 |.Set ..=>false|_=>true
noncomputable def tok:IE->Bool
 |.ife ..=>false
 |.not a=>tok a
 |.and a b=>tok a&&tok b
 |.or a b=>tok a&&tok b
 |_=>true
def YX:Expr->Option Str|.Name x _=>some x|_=>none
def Vh:Expr->Option Const|.Constant c _ _=>some c|_=>none
def CF:Expr->Option (Expr×Uz×Expr)|.BinOp l o r _=>some (l,o,r)|_=>none
def asUn:Expr->Option (UnaryOp×Expr)|.UnaryOp o x _=>some (o,x)|_=>none
def A7:Expr->Option (Expr×List CmpOp×List Expr)|.Compare l o r _=>some (l,o,r)|_=>none
def A8:Expr->Option (BoolOp×List Expr×Pos)|.BoolOp o vs p=>some (o,vs,p)|_=>none
def asIf:Expr->Option (Expr×Expr×Expr)|.IfExp t x y _=>some (t,x,y)|_=>none
def Wb:Expr->Option (List Expr)|.Tuple xs _ _=>some xs|_=>none
def CG:Expr->Option (List Expr)|.List xs _=>some xs|_=>none
def A9:Expr->Option (List (Option Expr)×List Expr)|.Dict ks vs _=>some (ks,vs)|_=>none
def Wc:Expr->Option (Expr×Expr)|.Subscript x y _=>some (x,y)|_=>none
noncomputable def asSl:Expr->Option (Option Expr×Option Expr×Option Expr)|.Slice l u s _=>some (l,u,s)|_=>none
def Zq:Expr->Option (Expr×List Expr×List Z4×Pos)|.Call f xs ks p=>some (f,xs,ks,p)|_=>none
def Vi:Expr->Option (Expr×Str×Pos)|.Attribute o n p=>some (o,n,p)|_=>none
noncomputable def asLC:Expr->Option (Expr×List Comprehension×Scope)|.ListComp e gs sc _=>some (e,gs,sc)|_=>none
def the1{α:Type}:List α->Option α|[x]=>some x|_=>none
def the2{α:Type}:List α->Option (α×α)|[x,y]=>some (x,y)|_=>none
def hd1{α:Type}:List α->Option (α×List α)|x::r=>some (x,r)|_=>none
def hd2{α:Type}:List α->Option (α×α×List α)|x::y::r=>some (x,y,r)|_=>none
def non0{α:Type}:List α->Bool|[]=>true|_=>false
theorem nos{α:Type}{x:α}{C:Prop}(h:none=some x):C:=nomatch h
theorem nob{C:Prop}(h:false=true):C:=nomatch h
theorem Xg{α:Type}{o:Option α}{p:α->Bool}(h:o.any p=true):∃x,o=some x/\p x=true:=by
 cases o with
 |none=>cases h
 |some x=>exact⟨x,rfl,h⟩
section
variable{e:Expr}
theorem _c{x:Str}(h:YX e=some x):∃p,e=.Name x p:=by revert h;cases e<;>first|exact nos|(intro h;cases h;exact⟨_,rfl⟩)
theorem Aa{x:Const}(h:Vh e=some x):∃k p,e=.Constant x k p:=by revert h;cases e<;>first|exact nos|(intro h;cases h;exact⟨_,_,rfl⟩)
theorem JJ{x:Expr×Uz×Expr}(h:CF e=some x):∃p,e=.BinOp x.1 x.2.1 x.2.2 p:=by revert h;cases e<;>first|exact nos|(intro h;cases h;exact⟨_,rfl⟩)
theorem En{x:UnaryOp×Expr}(h:asUn e=some x):∃p,e=.UnaryOp x.1 x.2 p:=by revert h;cases e<;>first|exact nos|(intro h;cases h;exact⟨_,rfl⟩)
theorem Eo{x:Expr×List CmpOp×List Expr}(h:A7 e=some x):∃p,e=.Compare x.1 x.2.1 x.2.2 p:=by revert h;cases e<;>first|exact nos|(intro h;cases h;exact⟨_,rfl⟩)
theorem Ep{x:BoolOp×List Expr×Pos}(h:A8 e=some x):e=.BoolOp x.1 x.2.1 x.2.2:=by revert h;cases e<;>first|exact nos|(intro h;cases h;rfl)
theorem JK{x:Expr×Expr×Expr}(h:asIf e=some x):∃p,e=.IfExp x.1 x.2.1 x.2.2 p:=by revert h;cases e<;>first|exact nos|(intro h;cases h;exact⟨_,rfl⟩)
theorem CH{x:List Expr}(h:Wb e=some x):∃k p,e=.Tuple x k p:=by revert h;cases e<;>first|exact nos|(intro h;cases h;exact⟨_,_,rfl⟩)
theorem JL{x:List Expr}(h:CG e=some x):∃p,e=.List x p:=by revert h;cases e<;>first|exact nos|(intro h;cases h;exact⟨_,rfl⟩)
theorem Er{x:List (Option Expr)×List Expr}(h:A9 e=some x):∃p,e=.Dict x.1 x.2 p:=by revert h;cases e<;>first|exact nos|(intro h;cases h;exact⟨_,rfl⟩)
theorem CI{x:Expr×Expr}(h:Wc e=some x):∃p,e=.Subscript x.1 x.2 p:=by revert h;cases e<;>first|exact nos|(intro h;cases h;exact⟨_,rfl⟩)
theorem _o8{x:Option Expr×Option Expr×Option Expr}(h:asSl e=some x):∃p,e=.Slice x.1 x.2.1 x.2.2 p:=by revert h;cases e<;>first|exact nos|(intro h;cases h;exact⟨_,rfl⟩)
theorem U7{x:Expr×List Expr×List Z4×Pos}(h:Zq e=some x):e=.Call x.1 x.2.1 x.2.2.1 x.2.2.2:=by revert h;cases e<;>first|exact nos|(intro h;cases h;rfl)
theorem Ac{x:Expr×Str×Pos}(h:Vi e=some x):e=.Attribute x.1 x.2.1 x.2.2:=by revert h;cases e<;>first|exact nos|(intro h;cases h;rfl)
theorem JM{x:Expr×List Comprehension×Scope}(h:asLC e=some x):∃p,e=.ListComp x.1 x.2.1 x.2.2 p:=by revert h;cases e<;>first|exact nos|(intro h;cases h;exact⟨_,rfl⟩)
theorem _r{α:Type}{l:List α}{x:α}(h:the1 l=some x):l=[x]:=by
 match l,h with
 |[_],h=>cases h;rfl
theorem JN{α:Type}{l:List α}{x:α×α}(h:the2 l=some x):l=[x.1,x.2]:=by
 match l,h with
 |[_,_],h=>cases h;rfl
theorem U8{α:Type}{l:List α}{x:α×List α}(h:hd1 l=some x):l=x.1::x.2:=by
 match l,h with
 |_::_,h=>cases h;rfl
theorem JO{α:Type}{l:List α}{x:α×α×List α}(h:hd2 l=some x):l=x.1::x.2.1::x.2.2:=by
 match l,h with
 |_::_::_,h=>cases h;rfl
theorem Yl{α:Type}{l:List α}(h:non0 l=true):l=[]:=by
 match l,h with
 |[],_=>rfl
end
def YD(e:Expr):Bool:=(YX e).isSome||(Vh e).isSome||(CF e).isSome||(asUn e).isSome||(A7 e).isSome||(A8 e).isSome||(asIf e).isSome||(Wb e).isSome||(CG e).isSome||(A9 e).isSome||(Wc e).isSome||(Zq e).isSome||(asLC e).isSome||(Vi e).isSome
mutual
def Zd(sc:Scope)(N:List Str)(lim:Nat)(all:Bool):ITg->Expr->Bool
 |.nm i,e=>(YX e).any λx=>decide (N[i]?=some x)&&decide (i<lim)&&(if all then locB sc x else decide (sc.names.lookup x=some .local))
 |.tup ts,e=>(Wb e).any λes=>chkTgs sc N lim all ts es
def chkTgs(sc:Scope)(N:List Str)(lim:Nat)(all:Bool):ITgs->List Expr->Bool
 |.nil,l=>non0 l
 |.cons t ts,l=>(hd1 l).any λq=>Zd sc N lim all t q.1&&chkTgs sc N lim all ts q.2
end
mutual
def chkE(G:GI):IE->Scope->List Str->Expr->Bool
 |.var i,sc,N,e=>(YX e).any fun x=>decide (N[i]?=some x)&&visB sc x&& !(x==("__debug__":Str))&& !(x==("__classdict__":Str))
 |.int i,_,_,e=>(Vh e).any λc=>decide (c=.int i)
 |.str x,_,_,e=>(Vh e).any λc=>decide (c=.str x)
 |.bl b,_,_,e=>(Vh e).any λc=>decide (c=.bool b)
 |.non,_,_,e=>(Vh e).any λc=>decide (c=.none)
 |.glb x i,sc,_,e=>(YX e).any λy=>decide (x=y)&&decide (G.gl.lookup x=some i)&&glB sc x
 |.ty c,sc,_,e=>(YX e).any λy=>decide (y=(c.name:Str))&&decide (c≠.none)&&G.bl.contains y&&glB sc y
 |.bin op a b,sc,N,e=>(CF e).any λq=>decide (op=q.2.1)&&chkE G a sc N q.1&&chkE G b sc N q.2.2
 |.neg a,sc,N,e=>(asUn e).any λq=>decide (q.1=.USub)&&chkE G a sc N q.2
 |.not a,sc,N,e=>(asUn e).any λq=>decide (q.1=.Not)&&chkE G a sc N q.2
 |.cmp op a b,sc,N,e=>(A7 e).any λq=>(the1 q.2.1).any λo=>(the1 q.2.2).any λr=>decide (op=o)&&chkE G a sc N q.1&&chkE G b sc N r&& !behindInMarks op r
 |.chn op op' a b c,sc,N,e=>(A7 e).any λq=>(the2 q.2.1).any λo=>(the2 q.2.2).any λr=>decide (op=o.1)&&decide (op'=o.2)&&chkE G a sc N q.1&&chkE G b sc N r.1&&chkE G c sc N r.2&& !lastMarks [op,op'] [r.1,r.2]
 |.and a b,sc,N,e=>(A8 e).any λq=>(hd2 q.2.1).any λv=>decide (q.1=.And)&&chkE G a sc N v.1&&chkE G b sc N (if non0 v.2.2 then v.2.1 else .BoolOp .And (v.2.1::v.2.2) q.2.2)
 |.or a b,sc,N,e=>(A8 e).any λq=>(hd2 q.2.1).any λv=>decide (q.1=.Or)&&chkE G a sc N v.1&&chkE G b sc N (if non0 v.2.2 then v.2.1 else .BoolOp .Or (v.2.1::v.2.2) q.2.2)
 |.ife c a b,sc,N,e=>(asIf e).any λq=>tok c&&chkE G c sc N q.1&&chkE G a sc N q.2.1&&chkE G b sc N q.2.2
 |.tup es,sc,N,e=>(Wb e).any λxs=>chkEs G es sc N xs
 |.lst es,sc,N,e=>(CG e).any λxs=>chkEs G es sc N xs
 |.dic,_,_,e=>(A9 e).any λq=>non0 q.1&&non0 q.2
 |.ix a b,sc,N,e=>(Wc e).any λq=>chkE G a sc N q.1&&chkE G b sc N q.2&&A5 q.2
 |.sl a lo hi,sc,N,e=>(Wc e).any λq=>(asSl q.2).any λs=>chkE G a sc N q.1&&chkO G lo sc N s.1&&chkO G hi sc N s.2.1&& !s.2.2.isSome
 |.call j f es,sc,N,e=>(Zq e).any λq=>(YX q.1).any λg=>(hd1 q.2.1).any λx=>non0 q.2.2.1&&decide (G.fns[j]?=some g)&&glB sc g&&chkE G f sc N x.1&&chkEs G es sc N x.2
 |.bi f a es,sc,N,e=>(Zq e).any λq=>(YX q.1).any λg=>(hd1 q.2.1).any λx=>non0 q.2.2.1&&decide (g=(f.name:Str))&&G.bl.contains g&&glB sc g&&chkE G a sc N x.1&&chkEs G es sc N x.2
 |.b2 f a,sc,N,e=>(Zq e).any λq=>(YX q.1).any λg=>(the1 q.2.1).any λy=>(Zq y).any λr=>(YX r.1).any λk=>(the1 r.2.1).any λx=>non0 q.2.2.1&&non0 r.2.2.1&&decide (g=(f.out:Str))&&decide (k=(f.inn:Str))&&G.bl.contains g&&G.bl.contains k&&glB sc g&&glB sc k&&chkE G a sc N x
 |.st3 a,_,_,_=>false
 |.mxd a,_,_,_=>false
 |.mt m o es,sc,N,e=>(Zq e).any λq=>(Vi q.1).any λa=>non0 q.2.2.1&&decide (a.2.1=(m.name:Str))&&(a.2.2.endLine==q.2.2.2.line)&&chkE G o sc N a.1&&chkEs G es sc N q.2.1&&decide (q.2.1.length<20)
 |.comp own fr src tg test elt,sc,N,e=>(asLC e).any λq=>(the1 q.2.1).any λg=>W0 sc q.2.2 N own fr&&A6 g.iter&&decide (nC own fr N).Nodup&&chkSr G src sc N g.iter&&Zd (Wa q.2.2 sc) (nC own fr N) own.length false tg g.target&&
   chkI G test (Wa q.2.2 sc) (nC own fr N) g.ifs&&chkE G elt (Wa q.2.2 sc) (nC own fr N) q.1&&decide (g.is_async=0)
 |.fld c o f,sc,N,e=>(Vi e).any λa=>decide (a.2.1=f)&&G.cls.contains (c,f)&&chkE G o sc N a.1
 |.mcall j c m o es,sc,N,e=>(Zq e).any λq=>(Vi q.1).any λa=>non0 q.2.2.1&&decide (a.2.1=m)&&G.mts.contains (j,c,m)&&chkE G o sc N a.1&&chkEs G es sc N q.2.1&&(a.2.2.endLine==q.2.2.2.line)&&decide (q.2.1.length<20)
 |.make j c a es,sc,N,e=>(Zq e).any λq=>(YX q.1).any λg=>(hd1 q.2.1).any λx=>non0 q.2.2.1&&decide (g=c)&&G.mks.contains (j,c)&&glB sc g&&chkE G a sc N x.1&&chkEs G es sc N x.2
 |.disp ps,sc,N,e=>(A9 e).any λq=>!non0 q.1&&decide (q.1.length≤15)&&chkPs G ps sc N q.1 q.2
def chkPs(G:GI):IPs->Scope->List Str->List (Option Expr)->List Expr->Bool
 |.nil,_,_,l,r=>non0 l&&non0 r
 |.cons k v ps,sc,N,l,r=>(hd1 l).any λq=>(hd1 r).any λs=>q.1.any λx=>chkE G k sc N x&&chkE G v sc N s.1&&chkPs G ps sc N q.2 s.2
def chkEs(G:GI):IEs->Scope->List Str->List Expr->Bool
 |.nil,_,_,l=>non0 l
 |.cons e es,sc,N,l=>(hd1 l).any λq=>chkE G e sc N q.1&&chkEs G es sc N q.2
def chkO(G:GI):IO->Scope->List Str->Option Expr->Bool
 |.none,_,_,o=>!o.isSome
 |.some e,sc,N,o=>o.any λx=>chkE G e sc N x
def chkI(G:GI):IO->Scope->List Str->List Expr->Bool
 |.none,_,_,l=>non0 l
 |.some e,sc,N,l=>(the1 l).any λx=>tok e&&chkE G e sc N x
def chkSr(G:GI):ISr->Scope->List Str->Expr->Bool
 |.seq a,sc,N,e=>chkE G a sc N e
 |.rng a,sc,N,e=>(Zq e).any fun q=>(YX q.1).any fun f=>(the1 q.2.1).any fun x=>non0 q.2.2.1&&decide (f=("range":Str))&&G.bl.contains f&&glB sc f&&chkE G a sc N x
end
def liSp(K:X4)(sp:SpM):Sp:=λvs H Q _=>∃ms M,RMs K H ms vs/\RH K M H/\sp ms M (Dn K H Q)
structure Cok (X:Cx) (G:GI) (Φ:List (Str×SpM)):Prop where
 room:X.A.units+70<cLine
 calm:X.calm=true
 nox:X.xe=λ_ _=>False
 blk:X.env.blockKind=.function
 nd:X.N.Nodup
 bls:∀x,G.bl.contains x=true->X.mg x=none
 gls:∀x i,G.gl.lookup x=some i->∃tk,X.mg x=some (.int i tk)
 fnn:∀(j:Nat) f,G.fns[j]?=some f->∃sp,Φ[j]?=some (f,sp)
 mon:∀(j:Nat) f sp,Φ[j]?=some (f,sp)->MonW sp
 fns:∀(j:Nat) f sp,G.fns[j]?=some f->Φ[j]?=some (f,sp)->∃k fa fd ps,Room k X.A/\FnOk X.prog X.w X.K X.mg X.base CX0 k fa fd ps (liSp X.K sp)/\X.mg f=some (.ref fa)/\XZ X.K (.ref fa)=true/\Binds X.K fd ps []
 mts:∀(j:Nat) c m,G.mts.contains (j,c,m)=true->∃f sp,Φ[j]?=some (f,sp)/\∃k C fa fd ps,Room k X.A/\FnOk X.prog X.w X.K X.mg X.base CX0 k fa fd ps (liSp X.K sp)/\Xy X.K Xp c=some (some (.ref C))/\Cls X.K C/\Meth X.K C m fa/\Binds X.K fd ps []
 mks:∀(j:Nat) c,G.mks.contains (j,c)=true->∃f sp,Φ[j]?=some (f,sp)/\∃k C fa fd ps,Room (k+1) X.A/\FnOk X.prog X.w X.K X.mg X.base CX0 k fa fd ps (liSp X.K sp)/\Xy X.K Xp c=some (some (.ref C))/\X.mg c=some (.ref C)/\Mk X.K C fa/\Binds X.K fd ps []
 cls:∀c f,G.cls.contains (c,f)=true->∃C,Xy X.K Xp c=some (some (.ref C))/\Cls X.K C/\NoAttr X.K C f
section
variable{X:Cx}{G:GI}{Φ:List (Str×SpM)}
theorem _ol{sc:Scope}{x:Str}(h:visB sc x=true):Vis sc x:=by
 unfold visB at h;unfold Vis;cases e:sc.names.lookup x with
 |none=>rw[e]at h;cases h
 |some k=>rw[e]at h;cases k<;>first|exact .inl rfl|exact .inr (.inl rfl)|exact .inr (.inr rfl)|cases h
theorem CJ{sc:Scope}{x:Str}(h:locB sc x=true):Loc sc x:=by
 unfold locB at h;unfold Loc;cases e:sc.names.lookup x with
 |none=>rw[e]at h;cases h
 |some k=>rw[e]at h;cases k<;>first|exact .inl rfl|exact .inr rfl|cases h
theorem UO{x:Str}(h:glB X.env.scope x=true):Gl X x/\(x==("__debug__":Str))=false/\x≠"__name__":=by
 unfold glB at h;simp only[XW,decide_eq_true_eq,Bool.not_eq_true']at h;exact⟨h.1.1,h.1.2,h.2⟩
theorem _o3(f:BI):YF (f.name:Str)=some f.val:=by cases f<;>(show YF _=some _;decide+kernel)
theorem _o2{c:Ty7}(h:c≠.none):YF (c.name:Str)=some (.type c.name):=by cases c<;>first|exact absurd rfl h|decide+kernel
theorem boot_range:YF ("range":Str)=some (.type "range"):=by decide+kernel
theorem _hu:∀{ie:IE} {sc:Scope} {N:List Str} {e:Expr},chkE G ie sc N e=true->YD e=true:=by
 intro ie sc N e h;have go:∀{α:Type} {o:Option α} {p:α->Bool},o.any p=true->(∀x,o=some x->YD e=true)->YD e=true:=λh g=>let⟨x,e,_⟩:=Xg h;g x e
 have a0:∀x,YX e=some x->YD e=true:=λx h=>by obtain⟨p,rfl⟩:=_c h;rfl
 have a1:∀x,Vh e=some x->YD e=true:=λx h=>by obtain⟨k,p,rfl⟩:=Aa h;rfl
 have a2:∀x,CF e=some x->YD e=true:=λx h=>by obtain⟨p,rfl⟩:=JJ h;rfl
 have a3:∀x,asUn e=some x->YD e=true:=λx h=>by obtain⟨p,rfl⟩:=En h;rfl
 have a4:∀x,A7 e=some x->YD e=true:=λx h=>by obtain⟨p,rfl⟩:=Eo h;rfl
 have a5:∀x,A8 e=some x->YD e=true:=λx h=>by obtain rfl:=Ep h;rfl
 have a6:∀x,asIf e=some x->YD e=true:=λx h=>by obtain⟨p,rfl⟩:=JK h;rfl
 have a7:∀x,Wb e=some x->YD e=true:=λx h=>by obtain⟨k,p,rfl⟩:=CH h;rfl
 have a8:∀x,CG e=some x->YD e=true:=λx h=>by obtain⟨p,rfl⟩:=JL h;rfl
 have a9:∀x,A9 e=some x->YD e=true:=λx h=>by obtain⟨p,rfl⟩:=Er h;rfl
 have a10:∀x,Wc e=some x->YD e=true:=λx h=>by obtain⟨p,rfl⟩:=CI h;rfl
 have a11:∀x,Zq e=some x->YD e=true:=λx h=>by obtain rfl:=U7 h;rfl
 have a12:∀x,asLC e=some x->YD e=true:=λx h=>by obtain⟨p,rfl⟩:=JM h;rfl
 have a13:∀x,Vi e=some x->YD e=true:=λx h=>by obtain rfl:=Ac h;rfl
 cases ie<;>first|exact nob h|exact go h a0|exact go h a1|exact go h a2|exact go h a3|exact go h a4|exact go h a5|exact go h a6|exact go h a7|exact go h a8|exact go h a9|exact go h a10|exact go h a11|exact go h a12|exact go h a13
theorem YE:∀{ie:IE} {sc:Scope} {N:List Str} {e:Expr} {es:List Expr} {env:Env},chkE G ie sc N e=true->XB (e::es) env=(false,eval e env)::XB es env:=by
 intro ie sc N e es env h;cases e<;>first|rfl|cases _hu h
theorem U9:∀{ies:IEs} {sc:Scope} {N:List Str} {es:List Expr} {env:Env} {pos:Pos},chkEs G ies sc N es=true->(XB es env).all (λx=>!x.1)=true
 |.nil,sc,N,es,_,_,h=>by
  cases Yl h
  rfl
 |.cons e es,sc,N,xs,env,pos,h=>by
  replace h:=Xg h;obtain⟨q,h1,h2⟩:=h;cases U8 h1;rw[XW]at h2;rw[YE h2.1,UG];exact U9 (pos:=pos) h2.2
theorem _kB:∀{ie:IE} {sc:Scope} {N:List Str} {x:Str} {px p:Pos} {ks:List Z4},chkE G ie sc N (.Call (.Name x px) [] ks p)=true->False:=by
 intro ie sc N x px p ks h;revert h;cases ie<;>exact nob
set_option tactic.hygienic true in
theorem Ad{ie:IE}{sc:Scope}{N:List Str}{o:Expr}{nm:Str}{env:Env}(h:chkE G ie sc N o=true):UA o nm env (eval o env)=eval o env:=by
 cases o<;>try rfl
 rename_i fn args kw pos
 cases fn<;>try rfl
 cases args with
 |cons a r=>rfl
 |nil=>exact(_kB h).elim
theorem UP{pos:Pos}{l:List (Bool×Sem X0)}(h:l.all (λx=>!x.1)=true):(XY pos l).all (λx=>!x.1)=true/\(XY pos l).any (·.1)=false:=by
 induction l with
 |nil=>exact⟨rfl,rfl⟩
 |cons a r ih=>
  rw[UG,XW]at h;obtain⟨h1,h2⟩:=ih h.2;have e:a.1=false:=by simpa using h.1
  unfold XY at h1 h2 ⊢;rw[Xx,UG,ZD,h1,h2];obtain⟨b,t⟩:=a;cases e;exact⟨rfl,rfl⟩
end
def tCW2(own:List Str)(fr:List Nat)(g:TG)(tt:TT)(te:TE)(σ:St)(H1:Hp)(Q:VK)(J:It)(D:Addr):Prop:=∃W:Nat->Nat->List V->Hp->Prop,
 (∃m,W 0 m [] (upd H1 D (.lst [])))/\∀i m ys H2,W i m ys H2->
  ((J.stop i H2/\Q (.ref D) H2)\/(J.go i H2/\∃N:List V->Hp->Prop,(∀ys' H',N ys' H'->∃m',m'<m/\W (i+1) m' ys' H')/\∀x H3,J.yld i H2 x H3->g x (sC own fr σ) H3 λσ2 H4=>Keep (sC own fr σ) σ2/\tt σ2 H4 λb H5=>
   if b=true then te σ2 H5 λy H6=>∃zs,H6 D=some (.lst zs)/\zs.length<sizeLine/\N (zs++[y]) (upd H6 D (.lst (zs++[y])))else N ys H5))
def Es(own:List Str)(fr:List Nat)(wi:TI)(g:TG)(tt:TT)(te:TE):TE:=λσ H Q=>wi σ H λJ H1=>∀D,H1 D=none->tCW2 own fr g tt te σ H1 Q J D
section
variable{X:Cx}{pins:List (Addr×Obj)}{σ:St}{H1:Hp}{s2:X2}{tg elt iter:Expr}{ifs:List Expr}{scope:Scope}{pos:Pos}{own:List Str}{fr:List Nat}{g:TG}{tt:TT}{te:TE}
theorem JP{J:It}{fp:List Addr}{it:Addr}{tn:Nat->Heap->Prop}{RR:X0->Addr->Result->X2->Prop}{Q:VK}{E:X0->X2->Prop}(hc:X.calm=true)(ok:CompOk X.env.scope scope X.N fr)
  (hg:∀C fp s₃ H₃,PG (cxC X scope own fr C fp s₃ H₃) tg g) (ht:∀C fp s₃ H₃,PTs (cxC X scope own fr C fp s₃ H₃) ifs tt) (he:∀C fp s₃ H₃,PE (cxC X scope own fr C fp s₃ H₃) elt te)
  (I2:Inv X pins σ H1 s2) (T:Turn X.prog X.w X.K tg J fp it tn) (st:tn 0 s2.heap) (hf:∀b∈fp,FpOk X pins H1 b)
  (h:∀D,H1 D=none->tCW2 own fr g tt te σ H1 Q J D)
  (hRR:∀D C H' s',Inv X pins σ H' s'->(∃m,s'.heap.Ns C m)->H' C=none->C≠X.env.locals->X.s₀.heap.objs.size≤C->(∀x c,X.env.cells.lookup x=some c->c≠C)->(∀p∈X.pn++pins,p.1≠C)->Q (.ref D) H'->RR (.ref D) C (.ok .next) s'):
  X3 (X6 X.prog X.w) X.A (newList []) (λacc s₃=>X3 (X6 X.prog X.w) X.A (newFunctionEnv scope X.env.globals (clOf X.env.cells scope.names []) [] X.env.qual none .none (some X.env)) (λcenv s₄=>
   YU (X6 X.prog X.w) X.A (.compStart (.ListComp elt [⟨tg,iter,ifs,0⟩] scope pos) 0 (.ref it) acc {cenv with scope:=relabel scope X.env}) (RR acc cenv.locals) s₄) E s₃) E s2:=by
 have hD:H1 s2.heap.objs.size=none:=I2.hok.fresh (Xe _);obtain⟨W,⟨m0,w0⟩,step⟩:=h _ hD;refine ZU (wpAny_newFunctionEnv ok.nocell (by intro y hy;simp at hy) (λh4 ns4 sb4=>?_) ok.kind)
 dsimp only at ns4 sb4 ⊢;have I3:Inv X pins σ (upd H1 s2.heap.objs.size (.lst [])) {s2 with heap:=s2.heap.push {cls:=.type "list",dict:=none,data:=.seq ([]:List X0).toArray},toks:=s2.toks}:=
  I2.laid (λb u e=>Xq _ e) (Xe _) ⟨YH _,[],0,.nil,XO _ rfl⟩
 have fpo:∀b∈fp,∃o,s2.heap.get? b=some o:=λb hb=>let⟨o,e,_⟩:=T.obj 0 _ st b hb;⟨o,e⟩
 have fpD:∀b∈fp,b≠s2.heap.objs.size:=λb hb=>let⟨o,e⟩:=fpo b hb;Xz (Xu e)
 have hf3:∀b∈fp,FpOk X pins (upd H1 s2.heap.objs.size (.lst [])) b:=λb hb=>⟨by rw[XM (fpD b hb)];exact(hf b hb).1,(hf b hb).2⟩
 generalize hs3:({s2 with heap:=s2.heap.push {cls:=.type "list",dict:=none,data:=.seq ([]:List X0).toArray},toks:=s2.toks}:X2)=s3 at*;have e3:s2.heap.push {cls:=.type "list",dict:=none,data:=.seq ([]:List X0).toArray}=s3.heap:=by rw[<- hs3]
 rw[e3]at ns4 sb4 ⊢;have kp:∀b o,s3.heap.get? b=some o->h4.get? b=some o:=λb o e=>(sb4.2 b (Xz (Xu e))).trans (Xq _ e);have fpo3:∀b∈fp,∃o,s3.heap.get? b=some o:=λb hb=>let⟨o,e⟩:=fpo b hb;⟨o,by rw[<- e3];exact Xq _ e⟩
 have I4:=_ho (own:=own) (scope:=scope) (fr:=fr) (tk:=s2.toks+0) ok I3 rfl hf3 fpo3 ns4 kp;have st4:tn 0 h4:=T.keep _ _ _ st λb hb o e=>kp b o (by rw[<- e3];exact Xq _ e)
 have fpC:∀b∈fp,b≠s3.heap.objs.size:=λb hb=>let⟨o,e⟩:=fpo3 b hb;Xz (Xu e)
 have stat:∀{H':Hp},(∀b∈fp,H' b=none)->∀b∈fp,FpOk (cxC X scope own fr s3.heap.objs.size fp s3 (upd H1 s2.heap.objs.size (.lst []))) pins H' b:=λhn b hb=>by
  refine⟨hn b hb,fpC b hb,λz=>?_,.inl hb,λx c e=>?_,(hf b hb).2.2.2.2.2⟩
  ·rcases Xl.mp (I3.stkSub b z)with z|z
   ·exact(hf b hb).2.1 z
   ·exact(hf b hb).2.2.1 z
  ·exact(hf b hb).2.2.2.2.1 x c ((WZ _ _ _ _ _ e).elim (λz=>by simp at z) id)
 have loop:YU (X6 X.prog X.w) X.A (.compLoop (.ListComp elt [⟨tg,iter,ifs,0⟩] scope pos) 0 (.ref it) (.ref s2.heap.objs.size) (compEnvC scope (clOf X.env.cells scope.names []) s3.heap.objs.size X.env))
   (RR (.ref s2.heap.objs.size) s3.heap.objs.size) {s3 with heap:=h4,toks:=s2.toks+0}:=by
  refine _eK (λn s'=>∃i ys H',Inv (cxC X scope own fr s3.heap.objs.size fp s3 (upd H1 s2.heap.objs.size (.lst []))) pins (sC own fr σ) H' s'/\tn i s'.heap/\(∀b∈fp,H' b=none)/\W i n ys H') ?_ m0
   ⟨0,[],_,I4,st4,λb hb=>(hf3 b hb).1,w0⟩
  rintro n s5 ⟨i,ys,H5,I5,st5,fr5,w5⟩;have way:=step i n ys H5 w5;rcases way with⟨stop,q⟩|⟨go,N,hN,turn⟩
  ·refine thn (T.done (cxC X scope own fr s3.heap.objs.size fp s3 (upd H1 s2.heap.objs.size (.lst []))) rfl rfl rfl hc i pins s5 _ H5 _ I5 (stat fr5) st5 stop) λr s6 ⟨hr,I6⟩=>?_;subst hr;have J6:Inv X pins σ H5 s6:=I3.call' I6.os I6.base I6.hok I6.bare λb hb=>⟨(hf b hb).2.2.2.1,(hf b hb).2.1,(hf b hb).2.2.2.2.1,(hf b hb).2.2.2.2.2⟩;obtain⟨m6,ns6,_⟩:=I6.loc;refine hRR _ _ H5 s6 J6 ⟨m6,ns6⟩ I6.free (V5 I3.lt) I3.sz (λx c e=>?_) (λp hp=>?_) q
   ·obtain⟨v,z⟩:=I3.cell x c e;exact Xz z.lt
   ·exact Xz (Xu (I3.pin p hp).1)
  ·refine thn (T.item (cxC X scope own fr s3.heap.objs.size fp s3 (upd H1 s2.heap.objs.size (.lst []))) rfl rfl rfl hc i pins s5 _ H5 _ I5 (stat fr5) st5 go) λr s6 ⟨u,hr,h6⟩=>?_;subst hr;refine thn h6 λ_ s7 ⟨x,H7,I7,r7,y7,st7,fr7⟩=>?_;have I7':=I7.pinned (stat fr7) (T.obj _ _ st7);refine thn (hg _ _ _ _ _ s7 _ H7 x u _ I7' r7 (turn x H7 y7)) λ_ s8 ⟨σ8,H8,I8,kp8,q8⟩=>?_;have again:∀{H9:Hp} {s9:X2},Inv (cxC X scope own fr s3.heap.objs.size fp s3 (upd H1 s2.heap.objs.size (.lst []))) (pins++VU fp s7.heap) σ8 H9 s9->∀{ys'},(∃m',m'<n/\W (i+1) m' ys' H9)->
     ∃m,m<n/\∃i ys H',Inv (cxC X scope own fr s3.heap.objs.size fp s3 (upd H1 s2.heap.objs.size (.lst []))) pins (sC own fr σ) H' s9/\tn i s9.heap/\(∀b∈fp,H' b=none)/\W i m ys H':=fun{H9 s9} I9 {ys'} ⟨m',hm,w9⟩=>by
    refine⟨m',hm,i+1,ys',H9,(I9.unpinned).weak kp8.1 kp8.2,T.keep _ _ _ st7 λb hb o e=>(I9.pin (b,o) (ZA _ (ZA _ (Cp hb e)))).1,λb hb=>?_,w9⟩;obtain⟨o,e,d⟩:=T.obj _ _ st7 b hb;exact(I9.pin (b,o) (ZA _ (ZA _ (Cp hb e)))).2.1
   have fin:∀{ok:Bool} {s9:X2} {H9:Hp},Inv (cxC X scope own fr s3.heap.objs.size fp s3 (upd H1 s2.heap.objs.size (.lst []))) (pins++VU fp s7.heap) σ8 H9 s9->
     (if ok=true then te σ8 H9 λy H6=>∃zs,H6 s2.heap.objs.size=some (.lst zs)/\zs.length<sizeLine/\N (zs++[y]) (upd H6 s2.heap.objs.size (.lst (zs++[y])))else N ys H9)->
     (if ok=true then X3 (X6 X.prog X.w) X.A (eval elt (compEnvC scope (clOf X.env.cells scope.names []) s3.heap.objs.size X.env)) (λx s₄=>
      X3 (X6 X.prog X.w) X.A (call (.builtin "list.append") [.ref s2.heap.objs.size,x]) (fun _ s₅=>∃m,m<n/\∃i ys H',Inv (cxC X scope own fr s3.heap.objs.size fp s3 (upd H1 s2.heap.objs.size (.lst []))) pins (sC own fr σ) H' s₅/\tn i s₅.heap/\(∀b∈fp,H' b=none)/\W i m ys H') (fun _ _=>False) s₄) (fun _ _=>False) s9
      else∃m,m<n/\∃i ys H',Inv (cxC X scope own fr s3.heap.objs.size fp s3 (upd H1 s2.heap.objs.size (.lst []))) pins (sC own fr σ) H' s9/\tn i s9.heap/\(∀b∈fp,H' b=none)/\W i m ys H'):=fun{ok s9 H9} I9 q9=>by
    cases ok with
    |false=>
     rw[if_neg XE]at q9 ⊢;exact again I9 (hN _ _ q9)
    |true=>
     rw[if_pos rfl]at q9 ⊢;refine thn (he _ _ _ _ _ s9 σ8 H9 _ I9 q9) λv s10 ⟨y,H10,I10,r10,zs,hl10,hz5,w10⟩=>?_;refine thn (Iy (X:=cxC X scope own fr s3.heap.objs.size fp s3 (upd H1 s2.heap.objs.size (.lst []))) _ s10 σ8 H10 (.ref s2.heap.objs.size) [y] (.ref s2.heap.objs.size) [v] (λ_ H'=>H'=upd H10 s2.heap.objs.size (.lst (zs++[y]))) I10 rfl (.cons r10 .nil) ⟨_,zs,y,rfl,rfl,hl10,hz5,rfl⟩) λ_ s11 ⟨_,H11,I11,_,e11⟩=>?_;subst e11;exact again I11 (hN _ _ w10)
   rcases ht s3.heap.objs.size fp s3 (upd H1 s2.heap.objs.size (.lst []))with⟨e,et⟩|⟨c,e,hcT⟩
   ·subst e et;exact wpAny_tests_nil (fin (ok:=true) I8 q8)
   ·subst e;exact wpAny_tests_one (thn (hcT _ s8 σ8 H8 _ I8 q8) λb s9 ⟨H9,I9,q9⟩=>fin I9 q9)
 subst hs3;exact codeAny_compStart_list loop (T.self _ 0 _ _ _ st4 loop)
theorem _kr(own:List Str)(fr:List Nat){wi:TI}(hx:∀e s,¬X.xe e s)(hc:X.calm=true)(ok:W0 X.env.scope scope X.N own fr=true)(hi:PI X tg iter wi)
  (hg:∀C fp s₃ H₃,PG (cxC X scope own fr C fp s₃ H₃) tg g) (ht:∀C fp s₃ H₃,PTs (cxC X scope own fr C fp s₃ H₃) ifs tt) (he:∀C fp s₃ H₃,PE (cxC X scope own fr C fp s₃ H₃) elt te)
  (hs:∀x,BA iter X.env x=pure x:=by intro _;rfl):
  PE X (.ListComp elt [⟨tg,iter,ifs,0⟩] scope pos) (Es own fr wi g tt te):=by
 have ok':=W3 ok;intro pins s σ H Q I h;rw[eval_ListComp];refine wpAny_comprehension_free (use:=none) (cl:=clOf X.env.cells scope.names []) rfl hs (IJ λy hy hk=>I.ok.has y.1 (ok'.has y hy hk)) ok'.kind ok'.names (thn (hi pins s σ H _ I h) λv s1 h1=>thn h1 λitv s2 h2=>?_);obtain⟨it,fp,tn,J,H2,e,I2,T,st2,f2,R⟩:=h2;subst e;refine JP (RR:=λacc C=>compPost (X6 X.prog X.w) X.A X.xe none (EP X pins σ Q) acc C) (Q:=Q) hc ok' hg ht he I2 T st2 f2 R ?_;rintro D C H' s' I' ⟨m,ns⟩ c1 c2 c3 c4 c5 q;refine⟨m,ns,λh' sb=>⟨.ref D,H',?_,rfl,q⟩⟩;exact I'.turned (t':=s'.toks) (λb o hb e=>(sb.2 b hb).trans e) c1 c2 (.inr c3) c4 c5
theorem _fj(own:List Str)(fr:List Nat){i:Nat}{y:Str}{py spos:Pos}{wi:TI}(hN:X.N.Nodup)(hi:X.N[i]?=some y) (hy:Loc X.env.scope y) (hx:∀e s,¬X.xe e s) (hc:X.calm=true) (ok:W0 X.env.scope scope X.N own fr=true) (hit:PI X tg iter wi)
  (hg:∀C fp s₃ H₃,PG (cxC X scope own fr C fp s₃ H₃) tg g) (ht:∀C fp s₃ H₃,PTs (cxC X scope own fr C fp s₃ H₃) ifs tt) (he:∀C fp s₃ H₃,PE (cxC X scope own fr C fp s₃ H₃) elt te)
  (hsw:Zw (.ListComp elt [⟨tg,iter,ifs,0⟩] scope pos) (some (.Name y py)) spos.line X.env=pure true:=by rfl) (hs:∀x,BA iter X.env x=pure x:=by intro _;rfl)
  (hf:X.fn y=true\/X.env.scope.names.lookup y=some .local:=by first|exact .inl rfl|exact .inr rfl|assumption):
  PS X (.Assign [.Name y py] (.ListComp elt [⟨tg,iter,ifs,0⟩] scope pos) spos) (tAsg (Es own fr wi g tt te) (Co i)):=by
 have ok':=W3 ok;intro pins s σ H D I h;rw[exec_Assign_Name_used _ _ _ _ hsw];refine X1 (wpAny_standAt (X1 ?_));show X3 _ X.A (do let _<- comprehension (.ListComp elt [⟨tg,iter,ifs,0⟩] scope pos) scope X.env _ (newList []) false (eval iter X.env) (some (assign (.Name y py) X.env))) _ _ s
 refine X1 (Zu (wpAny_comprehension_free (use:=some (assign (.Name y py) X.env)) (cl:=clOf X.env.cells scope.names []) (Q:=λ_ s'=>SP X pins D .next s') rfl hs (IJ λy hy hk=>I.ok.has y.1 (ok'.has y hy hk)) ok'.kind ok'.names
  (thn (hit pins s σ H _ I h) λv s1 h1=>thn h1 λitv s2 h2=>?_)) (λ_ s' hq=>X8 (X8 hq)) λ_ _ e=>e)
 obtain⟨it,fp,tn,J,H2,e,I2,T,st2,f2,R⟩:=h2;subst e;refine JP (RR:=λacc C=>compPost (X6 X.prog X.w) X.A X.xe (some (assign (.Name y py) X.env)) (λ_ s'=>SP X pins D .next s') acc C) (Q:=λv H'=>D.nx (σ.set i (some v)) H') hc ok' hg ht he I2 T st2 f2 R ?_;rintro E C H' s' I' ⟨m,ns⟩ c1 c2 c3 c4 c5 q;show X3 _ X.A (assign (.Name y py) X.env (.ref E)) _ _ _;refine wpAny_assign_Name (HL I' hN hi hy (v:=.ref E) (u:=.ref E) rfl (λs'' I'' sb=>?_) hf);obtain⟨a,sb,ha⟩:=sb;have hCa:C≠a:=by
  rcases ha with z|z
  ·rw[z];exact c2
  ·exact λe=>c4 _ _ z e.symm
 refine⟨m,ns.sameBut sb hCa,λh' sb'=>⟨_,H',?_,q⟩⟩;exact I''.turned (t':=s''.toks) (λb o hb e=>(sb'.2 b hb).trans e) c1 c2 (.inr c3) c4 c5
end
theorem hide{G:Prop}(h:∀G':Prop,(G->G')->G'):G:=h G id
section
variable{G:GI}{sc:Scope}{N:List Str}{e:Expr}
theorem Xd{a b:Bool}(h:(a&&b)=true):a=true/\b=true:=by rwa [XW]at h
theorem XL{p:Prop} [Decidable p] (h:decide p=true):p:=of_decide_eq_true h
theorem not_of{b:Bool}(h:(!b)=true):b=false:=by cases b with|false=>rfl|true=>cases h
theorem _nr{i:Nat}(h:chkE G (.var i) sc N e=true):∃x p,e=.Name x p/\N[i]?=some x/\visB sc x=true/\(x==("__debug__":Str))=false/\(x==("__classdict__":Str))=false:=by
 refine hide λ_ k=>?_;replace h:=Xg h;obtain⟨x,h1,h⟩:=h;obtain⟨p,rfl⟩:=_c h1;replace h:=Xd h;obtain⟨h,h5⟩:=h;replace h:=Xd h;obtain⟨h,h4⟩:=h;replace h:=Xd h;obtain⟨h2,h3⟩:=h;exact k ⟨x,p,rfl,XL h2,h3,not_of h4,not_of h5⟩
theorem _nz{i:Int}(h:chkE G (.int i) sc N e=true):∃k p,e=.Constant (.int i) k p:=by
 replace h:=Xg h;obtain⟨x,h1,h⟩:=h;obtain⟨k,p,rfl⟩:=Aa h1;exact⟨k,p,by rw[XL h]⟩
theorem _nt{i:Str}(h:chkE G (.str i) sc N e=true):∃k p,e=.Constant (.str i) k p:=by
 replace h:=Xg h;obtain⟨x,h1,h⟩:=h;obtain⟨k,p,rfl⟩:=Aa h1;exact⟨k,p,by rw[XL h]⟩
theorem _pT{i:Bool}(h:chkE G (.bl i) sc N e=true):∃k p,e=.Constant (.bool i) k p:=by
 replace h:=Xg h;obtain⟨x,h1,h⟩:=h;obtain⟨k,p,rfl⟩:=Aa h1;exact⟨k,p,by rw[XL h]⟩
theorem _nw(h:chkE G .non sc N e=true):∃k p,e=.Constant .none k p:=by
 replace h:=Xg h;obtain⟨x,h1,h⟩:=h;obtain⟨k,p,rfl⟩:=Aa h1;exact⟨k,p,by rw[XL h]⟩
theorem _nB{x:Str}{i:Int}(h:chkE G (.glb x i) sc N e=true):∃p,e=.Name x p/\G.gl.lookup x=some i/\glB sc x=true:=by
 refine hide λ_ k=>?_;replace h:=Xg h;obtain⟨y,h1,h⟩:=h;obtain⟨p,rfl⟩:=_c h1;replace h:=Xd h;obtain⟨h,h4⟩:=h;replace h:=Xd h;obtain⟨h2,h3⟩:=h;obtain rfl:=XL h2;exact k ⟨p,rfl,XL h3,h4⟩
theorem _pO{c:Ty7}(h:chkE G (.ty c) sc N e=true):∃p,e=.Name (c.name:Str) p/\c≠.none/\G.bl.contains (c.name:Str)=true/\glB sc (c.name:Str)=true:=by
 refine hide λ_ k=>?_;replace h:=Xg h;obtain⟨y,h1,h⟩:=h;obtain⟨p,rfl⟩:=_c h1;replace h:=Xd h;obtain⟨h,h5⟩:=h;replace h:=Xd h;obtain⟨h,h4⟩:=h;replace h:=Xd h;obtain⟨h2,h3⟩:=h;obtain rfl:=XL h2;exact k ⟨p,rfl,XL h3,h4,h5⟩
theorem _nG{op:Uz}{a b:IE}(h:chkE G (.bin op a b) sc N e=true):∃l r p,e=.BinOp l op r p/\chkE G a sc N l=true/\chkE G b sc N r=true:=by
 refine hide λ_ k=>?_;replace h:=Xg h;obtain⟨⟨l,o,r⟩,h1,h⟩:=h;obtain⟨p,rfl⟩:=JJ h1;replace h:=Xd h;obtain⟨h,h4⟩:=h;replace h:=Xd h;obtain⟨h2,h3⟩:=h;obtain rfl:=XL h2;exact k ⟨l,r,p,rfl,h3,h4⟩
theorem _nx{a:IE}(h:chkE G (.neg a) sc N e=true):∃l p,e=.UnaryOp .USub l p/\chkE G a sc N l=true:=by
 refine hide λ_ k=>?_;replace h:=Xg h;obtain⟨⟨o,l⟩,h1,h⟩:=h;obtain⟨p,rfl⟩:=En h1;replace h:=Xd h;obtain⟨h2,h3⟩:=h;obtain rfl:=XL h2;exact k ⟨l,p,rfl,h3⟩
theorem _nv{a:IE}(h:chkE G (.not a) sc N e=true):∃l p,e=.UnaryOp .Not l p/\chkE G a sc N l=true:=by
 refine hide λ_ k=>?_;replace h:=Xg h;obtain⟨⟨o,l⟩,h1,h⟩:=h;obtain⟨p,rfl⟩:=En h1;replace h:=Xd h;obtain⟨h2,h3⟩:=h;obtain rfl:=XL h2;exact k ⟨l,p,rfl,h3⟩
theorem _nE{op:CmpOp}{a b:IE}(h:chkE G (.cmp op a b) sc N e=true):∃l r p,e=.Compare l [op] [r] p/\chkE G a sc N l=true/\chkE G b sc N r=true/\behindInMarks op r=false:=by
 refine hide λ_ k=>?_;replace h:=Xg h;obtain⟨⟨l,os,rs⟩,h1,h⟩:=h;obtain⟨p,rfl⟩:=Eo h1;replace h:=Xg h;obtain⟨o,h2,h⟩:=h;replace h:=Xg h;obtain⟨r,h3,h⟩:=h;obtain rfl:=_r h2;obtain rfl:=_r h3;replace h:=Xd h;obtain⟨h,h7⟩:=h;replace h:=Xd h;obtain⟨h,h6⟩:=h;replace h:=Xd h;obtain⟨h4,h5⟩:=h;obtain rfl:=XL h4;exact k ⟨l,r,p,rfl,h5,h6,not_of h7⟩
theorem _nF{op op':CmpOp}{a b c:IE}(h:chkE G (.chn op op' a b c) sc N e=true):∃l m r p,e=.Compare l [op,op'] [m,r] p/\chkE G a sc N l=true/\chkE G b sc N m=true/\chkE G c sc N r=true/\lastMarks [op,op'] [m,r]=false:=by
 refine hide λ_ k=>?_;replace h:=Xg h;obtain⟨⟨l,os,rs⟩,h1,h⟩:=h;obtain⟨p,rfl⟩:=Eo h1;replace h:=Xg h;obtain⟨⟨o,o'⟩,h2,h⟩:=h;replace h:=Xg h;obtain⟨⟨m,r⟩,h3,h⟩:=h;obtain rfl:=JN h2;obtain rfl:=JN h3;replace h:=Xd h;obtain⟨h,h9⟩:=h;replace h:=Xd h;obtain⟨h,h8⟩:=h;replace h:=Xd h;obtain⟨h,h7⟩:=h;replace h:=Xd h;obtain⟨h,h6⟩:=h;replace h:=Xd h;obtain⟨h4,h5⟩:=h;obtain rfl:=XL h4;obtain rfl:=XL h5;exact k ⟨l,m,r,p,rfl,h6,h7,h8,not_of h9⟩
theorem _nH{a b:IE}(h:chkE G (.and a b) sc N e=true):∃l r rest p,e=.BoolOp .And (l::r::rest) p/\chkE G a sc N l=true/\((rest=[]/\chkE G b sc N r=true)\/chkE G b sc N (.BoolOp .And (r::rest) p)=true):=by
 replace h:=Xg h;obtain⟨⟨o,vs,p⟩,h1,h⟩:=h;obtain rfl:=Ep h1;replace h:=Xg h;obtain⟨⟨l,r,rest⟩,h2,h⟩:=h;obtain rfl:=JO h2;replace h:=Xd h;obtain⟨h,h4⟩:=h;replace h:=Xd h;obtain⟨h2,h3⟩:=h;obtain rfl:=XL h2;refine⟨l,r,rest,p,rfl,h3,?_⟩;cases rest with
 |nil=>exact .inl ⟨rfl,h4⟩
 |cons _ _=>exact .inr h4
theorem _pQ{a b:IE}(h:chkE G (.or a b) sc N e=true):∃l r rest p,e=.BoolOp .Or (l::r::rest) p/\chkE G a sc N l=true/\((rest=[]/\chkE G b sc N r=true)\/chkE G b sc N (.BoolOp .Or (r::rest) p)=true):=by
 replace h:=Xg h;obtain⟨⟨o,vs,p⟩,h1,h⟩:=h;obtain rfl:=Ep h1;replace h:=Xg h;obtain⟨⟨l,r,rest⟩,h2,h⟩:=h;obtain rfl:=JO h2;replace h:=Xd h;obtain⟨h,h4⟩:=h;replace h:=Xd h;obtain⟨h2,h3⟩:=h;obtain rfl:=XL h2;refine⟨l,r,rest,p,rfl,h3,?_⟩;cases rest with
 |nil=>exact .inl ⟨rfl,h4⟩
 |cons _ _=>exact .inr h4
theorem _nA{a b c:IE}(h:chkE G (.ife c a b) sc N e=true):∃t x y p,e=.IfExp t x y p/\tok c=true/\chkE G c sc N t=true/\chkE G a sc N x=true/\chkE G b sc N y=true:=by
 refine hide λ_ k=>?_;replace h:=Xg h;obtain⟨⟨t,x,y⟩,h1,h⟩:=h;obtain⟨p,rfl⟩:=JK h1;replace h:=Xd h;obtain⟨h,h5⟩:=h;replace h:=Xd h;obtain⟨h,h4⟩:=h;replace h:=Xd h;obtain⟨h2,h3⟩:=h;exact k ⟨t,x,y,p,rfl,h2,h3,h4,h5⟩
theorem _ns{es:IEs}(h:chkE G (.tup es) sc N e=true):∃xs k p,e=.Tuple xs k p/\chkEs G es sc N xs=true:=by
 replace h:=Xg h;obtain⟨xs,h1,h⟩:=h;obtain⟨k,p,rfl⟩:=CH h1;exact⟨xs,k,p,rfl,h⟩
theorem _ny{es:IEs}(h:chkE G (.lst es) sc N e=true):∃xs p,e=.List xs p/\chkEs G es sc N xs=true:=by
 replace h:=Xg h;obtain⟨xs,h1,h⟩:=h;obtain⟨p,rfl⟩:=JL h1;exact⟨xs,p,rfl,h⟩
theorem _nD(h:chkE G .dic sc N e=true):∃p,e=.Dict [] [] p:=by
 refine hide λ_ k=>?_;replace h:=Xg h;obtain⟨⟨ks,vs⟩,h1,h⟩:=h;obtain⟨p,rfl⟩:=Er h1;replace h:=Xd h;obtain⟨h2,h3⟩:=h;cases Yl h2;cases Yl h3;exact k ⟨p,rfl⟩
theorem _pS{a b:IE}(h:chkE G (.ix a b) sc N e=true):∃x y p,e=.Subscript x y p/\chkE G a sc N x=true/\chkE G b sc N y=true/\A5 y=true:=by
 refine hide λ_ k=>?_;replace h:=Xg h;obtain⟨⟨x,y⟩,h1,h⟩:=h;obtain⟨p,rfl⟩:=CI h1;replace h:=Xd h;obtain⟨h,h4⟩:=h;replace h:=Xd h;obtain⟨h2,h3⟩:=h;exact k ⟨x,y,p,rfl,h2,h3,h4⟩
theorem _pP{a:IE}{lo hi:IO}(h:chkE G (.sl a lo hi) sc N e=true):∃x l u p p2,e=.Subscript x (.Slice l u none p2) p/\chkE G a sc N x=true/\chkO G lo sc N l=true/\chkO G hi sc N u=true:=by
 replace h:=Xg h;obtain⟨⟨x,y⟩,h1,h⟩:=h;obtain⟨p,rfl⟩:=CI h1;replace h:=Xg h;obtain⟨⟨l,u,st⟩,h2,h⟩:=h;obtain⟨p2,rfl⟩:=_o8 h2;replace h:=Xd h;obtain⟨h,h6⟩:=h;replace h:=Xd h;obtain⟨h,h5⟩:=h;replace h:=Xd h;obtain⟨h3,h4⟩:=h;cases st with
 |some _=>cases h6
 |none=>exact⟨x,l,u,p,p2,rfl,h3,h4,h5⟩
theorem _kO{j:Nat}{a:IE}{es:IEs}(h:chkE G (.call j a es) sc N e=true):∃f p x xs p2,e=.Call (.Name f p) (x::xs) [] p2/\G.fns[j]?=some f/\glB sc f=true/\chkE G a sc N x=true/\chkEs G es sc N xs=true:=by
 refine hide λ_ k=>?_;replace h:=Xg h;obtain⟨⟨f,l,ks,p2⟩,h1,h⟩:=h;obtain rfl:=U7 h1;replace h:=Xg h;obtain⟨g,h2,h⟩:=h;obtain⟨p,rfl⟩:=_c h2;replace h:=Xg h;obtain⟨⟨x,xs⟩,h3,h⟩:=h;obtain rfl:=U8 h3;replace h:=Xd h;obtain⟨h,h8⟩:=h;replace h:=Xd h;obtain⟨h,h7⟩:=h;replace h:=Xd h;obtain⟨h,h6⟩:=h;replace h:=Xd h;obtain⟨h4,h5⟩:=h;obtain rfl:=Yl h4;exact k ⟨g,p,x,xs,p2,rfl,XL h5,h6,h7,h8⟩
theorem _pU{f:BI}{a:IE}{es:IEs}(h:chkE G (.bi f a es) sc N e=true):∃p x xs p2,e=.Call (.Name (f.name:Str) p) (x::xs) [] p2/\G.bl.contains (f.name:Str)=true/\glB sc (f.name:Str)=true/\chkE G a sc N x=true/\chkEs G es sc N xs=true:=by
 refine hide λ_ k=>?_;replace h:=Xg h;obtain⟨⟨f',l,ks,p2⟩,h1,h⟩:=h;obtain rfl:=U7 h1;replace h:=Xg h;obtain⟨g,h2,h⟩:=h;obtain⟨p,rfl⟩:=_c h2;replace h:=Xg h;obtain⟨⟨x,xs⟩,h3,h⟩:=h;obtain rfl:=U8 h3;replace h:=Xd h;obtain⟨h,h9⟩:=h;replace h:=Xd h;obtain⟨h,h8⟩:=h;replace h:=Xd h;obtain⟨h,h7⟩:=h;replace h:=Xd h;obtain⟨h,h6⟩:=h;replace h:=Xd h;obtain⟨h4,h5⟩:=h;obtain rfl:=Yl h4;obtain rfl:=XL h5;exact k ⟨p,x,xs,p2,rfl,h6,h7,h8,h9⟩
theorem _pV{f:B2}{a:IE}(h:chkE G (.b2 f a) sc N e=true):∃p p' x p2 p2',e=.Call (.Name (f.out:Str) p) [.Call (.Name (f.inn:Str) p') [x] [] p2'] [] p2/\G.bl.contains (f.out:Str)=true/\G.bl.contains (f.inn:Str)=true/\glB sc (f.out:Str)=true/\glB sc (f.inn:Str)=true/\chkE G a sc N x=true:=by
 refine hide λ_ k=>?_;replace h:=Xg h;obtain⟨⟨f',l,ks,p2⟩,h1,h⟩:=h;obtain rfl:=U7 h1;replace h:=Xg h;obtain⟨g,h2,h⟩:=h;obtain⟨p,rfl⟩:=_c h2;replace h:=Xg h;obtain⟨y,h3,h⟩:=h;obtain rfl:=_r h3;replace h:=Xg h;obtain⟨⟨f'',l',ks',p2'⟩,h4,h⟩:=h;obtain rfl:=U7 h4;replace h:=Xg h;obtain⟨k,h5,h⟩:=h;obtain⟨p',rfl⟩:=_c h5;replace h:=Xg h;obtain⟨x,h6,h⟩:=h;obtain rfl:=_r h6;simp only[XW]at h;obtain⟨⟨⟨⟨⟨⟨⟨⟨a1,a2⟩,a3⟩,a4⟩,a5⟩,a6⟩,a7⟩,a8⟩,a9⟩:=h;obtain rfl:=Yl a1;obtain rfl:=Yl a2;obtain rfl:=XL a3;obtain rfl:=XL a4;exact k ⟨p,p',x,p2,p2',rfl,a5,a6,a7,a8,a9⟩
theorem _pR{m:MT}{o:IE}{es:IEs}(h:chkE G (.mt m o es) sc N e=true):∃ob ap args cp,e=.Call (.Attribute ob (m.name:Str) ap) args [] cp/\(ap.endLine==cp.line)=true/\chkE G o sc N ob=true/\chkEs G es sc N args=true/\args.length<20:=by
 refine hide λ_ k=>?_;replace h:=Xg h;obtain⟨⟨f',args,ks,cp⟩,h1,h⟩:=h;obtain rfl:=U7 h1;replace h:=Xg h;obtain⟨⟨ob,nm,ap⟩,h2,h⟩:=h;obtain rfl:=Ac h2;replace h:=Xd h;obtain⟨h,h8⟩:=h;replace h:=Xd h;obtain⟨h,h7⟩:=h;replace h:=Xd h;obtain⟨h,h6⟩:=h;replace h:=Xd h;obtain⟨h,h5⟩:=h;replace h:=Xd h;obtain⟨h3,h4⟩:=h;obtain rfl:=Yl h3;obtain rfl:=XL h4;exact k ⟨ob,ap,args,cp,rfl,h5,h6,h7,XL h8⟩
theorem JQ{own:List Str}{fr:List Nat}{src:ISr}{tg:ITg}{test:IO}{elt:IE}(h:chkE G (.comp own fr src tg test elt) sc N e=true):∃x t it ifs scope p,e=.ListComp x [⟨t,it,ifs,0⟩] scope p/\W0 sc scope N own fr=true/\A6 it=true/\
  (nC own fr N).Nodup/\chkSr G src sc N it=true/\Zd (Wa scope sc) (nC own fr N) own.length false tg t=true/\chkI G test (Wa scope sc) (nC own fr N) ifs=true/\chkE G elt (Wa scope sc) (nC own fr N) x=true:=by
 replace h:=Xg h;obtain⟨⟨x,gs,scope⟩,h1,h⟩:=h;obtain⟨p,rfl⟩:=JM h1;replace h:=Xg h;obtain⟨⟨t,it,ifs,k⟩,h2,h⟩:=h;obtain rfl:=_r h2;replace h:=Xd h;obtain⟨h,h9⟩:=h;replace h:=Xd h;obtain⟨h,h8⟩:=h;replace h:=Xd h;obtain⟨h,h7⟩:=h;replace h:=Xd h;obtain⟨h,h6⟩:=h;replace h:=Xd h;obtain⟨h,h5⟩:=h;replace h:=Xd h;obtain⟨h,h4⟩:=h;replace h:=Xd h;obtain⟨h2,h3⟩:=h;obtain rfl:=XL h9;exact⟨x,t,it,ifs,scope,p,rfl,h2,h3,XL h4,h5,h6,h7,h8⟩
theorem _nC{c f:Str}{o:IE}(h:chkE G (.fld c o f) sc N e=true):∃ob p,e=.Attribute ob f p/\G.cls.contains (c,f)=true/\chkE G o sc N ob=true:=by
 refine hide λ_ k=>?_;replace h:=Xg h;obtain⟨⟨ob,nm,p⟩,h1,h⟩:=h;obtain rfl:=Ac h1;replace h:=Xd h;obtain⟨h,h4⟩:=h;replace h:=Xd h;obtain⟨h2,h3⟩:=h;obtain rfl:=XL h2;exact k ⟨ob,p,rfl,h3,h4⟩
theorem _iN{j:Nat}{c m:Str}{o:IE}{es:IEs}(h:chkE G (.mcall j c m o es) sc N e=true):∃ob ap args cp,e=.Call (.Attribute ob m ap) args [] cp/\G.mts.contains (j,c,m)=true/\chkE G o sc N ob=true/\chkEs G es sc N args=true/\(ap.endLine==cp.line)=true/\args.length<20:=by
 refine hide λ_ k=>?_;replace h:=Xg h;obtain⟨⟨f',args,ks,cp⟩,h1,h⟩:=h;obtain rfl:=U7 h1;replace h:=Xg h;obtain⟨⟨ob,nm,ap⟩,h2,h⟩:=h;obtain rfl:=Ac h2;simp only[XW]at h;obtain⟨⟨⟨⟨⟨⟨a1,a2⟩,a3⟩,a4⟩,a5⟩,a6⟩,a7⟩:=h;obtain rfl:=Yl a1;obtain rfl:=XL a2;exact k ⟨ob,ap,args,cp,rfl,a3,a4,a5,a6,XL a7⟩
theorem _kM{j:Nat}{c:Str}{a:IE}{es:IEs}(h:chkE G (.make j c a es) sc N e=true):∃p x xs p2,e=.Call (.Name c p) (x::xs) [] p2/\G.mks.contains (j,c)=true/\glB sc c=true/\chkE G a sc N x=true/\chkEs G es sc N xs=true:=by
 refine hide λ_ k=>?_;replace h:=Xg h;obtain⟨⟨f',l,ks,p2⟩,h1,h⟩:=h;obtain rfl:=U7 h1;replace h:=Xg h;obtain⟨g,h2,h⟩:=h;obtain⟨p,rfl⟩:=_c h2;replace h:=Xg h;obtain⟨⟨x,xs⟩,h3,h⟩:=h;obtain rfl:=U8 h3;simp only[XW]at h;obtain⟨⟨⟨⟨⟨a1,a2⟩,a3⟩,a4⟩,a5⟩,a6⟩:=h;obtain rfl:=Yl a1;obtain rfl:=XL a2;exact k ⟨p,x,xs,p2,rfl,a3,a4,a5,a6⟩
theorem _kN{ps:IPs}(h:chkE G (.disp ps) sc N e=true):∃ks vs p,e=.Dict ks vs p/\ks≠ []/\ks.length≤15/\chkPs G ps sc N ks vs=true:=by
 replace h:=Xg h;obtain⟨⟨ks,vs⟩,h1,h⟩:=h;obtain⟨p,rfl⟩:=Er h1;replace h:=Xd h;obtain⟨h,h4⟩:=h;replace h:=Xd h;obtain⟨h2,h3⟩:=h;refine⟨ks,vs,p,rfl,λz=>?_,XL h3,h4⟩;rw[z]at h2;cases h2
theorem JR{ks:List (Option Expr)}{vs:List Expr}(h:chkPs G .nil sc N ks vs=true):ks=[]/\vs=[]:=by
 replace h:=Xd h;exact⟨Yl h.1,Yl h.2⟩
theorem JS{k v:IE}{ps:IPs}{ks:List (Option Expr)}{vs:List Expr}(h:chkPs G (.cons k v ps) sc N ks vs=true):∃x ks' y vs',ks=some x::ks'/\vs=y::vs'/\chkE G k sc N x=true/\chkE G v sc N y=true/\chkPs G ps sc N ks' vs'=true:=by
 refine hide λ_ k=>?_;replace h:=Xg h;obtain⟨⟨o,ks'⟩,h1,h⟩:=h;replace h:=Xg h;obtain⟨⟨y,vs'⟩,h2,h⟩:=h;replace h:=Xg h;obtain⟨x,h3,h⟩:=h;replace h:=Xd h;obtain⟨h,h6⟩:=h;replace h:=Xd h;obtain⟨h4,h5⟩:=h;dsimp only at h3;subst h3;exact k ⟨x,ks',y,vs',U8 h1,U8 h2,h4,h5,h6⟩
theorem Et{l:List Expr}(h:chkEs G .nil sc N l=true):l=[]:=by
 exact Yl h
theorem Eu{a:IE}{es:IEs}{l:List Expr}(h:chkEs G (.cons a es) sc N l=true):∃x xs,l=x::xs/\chkE G a sc N x=true/\chkEs G es sc N xs=true:=by
 replace h:=Xg h;obtain⟨⟨x,xs⟩,h1,h⟩:=h;exact⟨x,xs,U8 h1,Xd h⟩
theorem _hh(h:chkO G .none sc N o=true):o=none:=by
 cases o with
 |none=>rfl
 |some _=>cases h
theorem _hg{a:IE}{o:Option Expr}(h:chkO G (.some a) sc N o=true):∃x,o=some x/\chkE G a sc N x=true:=by
 exact Xg h
theorem _hj{l:List Expr}(h:chkI G .none sc N l=true):l=[]:=by
 exact Yl h
theorem _hi{a:IE}{l:List Expr}(h:chkI G (.some a) sc N l=true):∃x,l=[x]/\tok a=true/\chkE G a sc N x=true:=by
 replace h:=Xg h;obtain⟨x,h1,h⟩:=h;exact⟨x,_r h1,Xd h⟩
theorem _nu{a:IE}(h:chkSr G (.rng a) sc N e=true):∃p x p2,e=.Call (.Name ("range":Str) p) [x] [] p2/\G.bl.contains ("range":Str)=true/\glB sc ("range":Str)=true/\chkE G a sc N x=true:=by
 refine hide λ_ k=>?_;replace h:=Xg h;obtain⟨⟨f',l,ks,p2⟩,h1,h⟩:=h;obtain rfl:=U7 h1;replace h:=Xg h;obtain⟨g,h2,h⟩:=h;obtain⟨p,rfl⟩:=_c h2;replace h:=Xg h;obtain⟨x,h3,h⟩:=h;obtain rfl:=_r h3;replace h:=Xd h;obtain⟨h,h8⟩:=h;replace h:=Xd h;obtain⟨h,h7⟩:=h;replace h:=Xd h;obtain⟨h,h6⟩:=h;replace h:=Xd h;obtain⟨h4,h5⟩:=h;obtain rfl:=Yl h4;obtain rfl:=XL h5;exact k ⟨p,x,p2,rfl,h6,h7,h8⟩
theorem Ev{lim:Nat}{all:Bool}{i:Nat}(h:Zd sc N lim all (.nm i) e=true):∃x p,e=.Name x p/\N[i]?=some x/\i<lim/\(if all then locB sc x else decide (sc.names.lookup x=some .local))=true:=by
 refine hide λ_ k=>?_;replace h:=Xg h;obtain⟨x,h1,h⟩:=h;obtain⟨p,rfl⟩:=_c h1;replace h:=Xd h;obtain⟨h,h4⟩:=h;replace h:=Xd h;obtain⟨h2,h3⟩:=h;exact k ⟨x,p,rfl,XL h2,XL h3,h4⟩
theorem Ew{lim:Nat}{all:Bool}{ts:ITgs}(h:Zd sc N lim all (.tup ts) e=true):∃es k p,e=.Tuple es k p/\chkTgs sc N lim all ts es=true:=by
 replace h:=Xg h;obtain⟨es,h1,h⟩:=h;obtain⟨k,p,rfl⟩:=CH h1;exact⟨es,k,p,rfl,h⟩
theorem _fI{lim:Nat}{all:Bool}{l:List Expr}(h:chkTgs sc N lim all .nil l=true):l=[]:=by
 exact Yl h
theorem JT{lim:Nat}{all:Bool}{t:ITg}{ts:ITgs}{l:List Expr}(h:chkTgs sc N lim all (.cons t ts) l=true):∃x xs,l=x::xs/\Zd sc N lim all t x=true/\chkTgs sc N lim all ts xs=true:=by
 replace h:=Xg h;obtain⟨⟨x,xs⟩,h1,h⟩:=h;exact⟨x,xs,U8 h1,Xd h⟩
end
def liT(K:X4)(t:TEm):TT:=λσ H Q=>∃σm M,RS K H σm σ/\RH K M H/\t σm M (λm M'=>∃b,m=.bl b/\∀H',Kp H H'->RH K M' H'->Q b H')
def liO(K:X4)(t:Sm->MH->(Option Int->MH->Prop)->Prop):TO:=λσ H Q=>∃σm M,RS K H σm σ/\RH K M H/\t σm M (λo M'=>∀H',Kp H H'->RH K M' H'->Q o H')
section
variable{K:X4}
theorem Ex{t:TEm}(m:MonE t){σ:St}{H:Hp}{Q:Bool->Hp->Prop}(h:liT K t σ H Q):liE K t σ H λx H'=>∃c,x=.bl c/\Q c H':=by
 obtain⟨σm,M,rs,rh,h⟩:=h;refine⟨σm,M,rs,rh,m (λx M1 ⟨b,e,h1⟩=>?_) h⟩;subst e;intro v H1 k1 r1 rh1;obtain rfl:=r1.inv;exact⟨b,rfl,h1 H1 k1 rh1⟩
theorem JU{t:TEm}(m:MonE t){σm:Sm}{M:MH}{H H1:Hp}{Q:Bool->Hp->Prop}(k:Kp H H1)(h:t σm M λx M'=>∃b,x=.bl b/\∀H',Kp H H'->RH K M' H'->Q b H'):
  t σm M λx M'=>∃b,x=.bl b/\∀H',Kp H1 H'->RH K M' H'->Q b H':=
 m (λx M' ⟨b,e,q⟩=>⟨b,e,λH' k'=>q H' (k.trans k')⟩) h
theorem _nm{t:TAm}(me:MonE te)(mt:MonA t)(h:liA K (λσ M Q=>te σ M λv M1=>t σ M1 λvs M2=>Q (v::vs) M2) σ H Q):VY (liE K te) (liA K t) σ H Q:=by
 obtain⟨σm,M,rs,rh,h⟩:=h;refine⟨σm,M,rs,rh,me (λx M1 h1=>?_) h⟩;intro v H1 k1 r1 rh1;refine⟨σm,M1,rs.mono k1,rh1,mt (λms M2 h2=>?_) h1⟩;intro vs H2 k2 r2 rh2;exact h2 (v::vs) H2 (k1.trans k2) (.cons (r1.mono k2) r2) rh2
end
def Ey(X:Cx)(H:Hp):Src->It->Prop
 |.tup xs,J=>(∃a vs,H a=some (.tup vs)/\RMs X.K H xs vs/\J=Itt X.K a)\/∃a vs,FrL X.K H a vs/\RMs X.K H xs vs/\J=Itl X.K a
 |.lst a _,J=>J=Itl X.K a
 |.rng lo n,J=>J=Itr lo n
 |.str x,J=>J=Its x
theorem Ez{X:Cx}{H0 H:Hp}{M:MH}{S:Src}{J:It}(s:Ey X H0 S J)(rh:RH X.K M H)(ok:S.okT M):∃H',Thw X H H'/\Kp H H'/\RH X.K (S.thaw M) H':=by
 cases S with
 |tup xs=>exact⟨H,.inl rfl,Kp.refl _,rh⟩
 |lst a xs=>exact⟨H,.inl rfl,Kp.refl _,rh⟩
 |rng a xs=>exact⟨H,.inl rfl,Kp.refl _,rh⟩
 |str x=>exact⟨H,.inl rfl,Kp.refl _,rh⟩
theorem JV{M:MH}{S:Src}(ok:S.ok M):S.okT M:=by
 cases S<;>first|trivial|exact ok
theorem JW{X:Cx}{H0 H:Hp}{M:MH}{S:Src}{J:It}(s:Ey X H0 S J)(k:Kp H0 H)(rh:RH X.K M H)(ok:S.ok M):
  (∀i,i<S.len->J.go i H/\∀x H',J.yld i H x H'->H'=H/\∃m,S.items[i]?=some m/\RM X.K H m x)/\∀i,S.len≤i->J.stop i H:=by
 have seqL:∀{a:Addr} {xs:List MV} {vs:List V},SqL X.K H a vs->RMs X.K H xs vs->(∀i,i<xs.length->(Itl X.K a).go i H/\∀x H',(Itl X.K a).yld i H x H'->H'=H/\∃m,xs[i]?=some m/\RM X.K H m x)/\∀i,xs.length≤i->(Itl X.K a).stop i H:=by
  intro a xs vs hs r;refine⟨λi hi=>⟨⟨vs,_,hs,Xa (by rw[<- r.length];exact hi)⟩,λx H' y=>?_⟩,λi hi=>⟨vs,hs,by rw[<- r.length];exact hi⟩⟩
  exact⟨y.1,r.get' (y.2 vs hs)⟩
 cases S with
 |tup xs=>
  rcases s with⟨a,vs,h,r,rfl⟩|⟨a,vs,h,r,rfl⟩
  ·have h:=SqT.of (K:=X.K) (k _ _ h rfl);have r:=r.mono k;refine⟨λi hi=>⟨⟨vs,_,h,Xa (by rw[<- r.length];exact hi)⟩,λx H' y=>?_⟩,λi hi=>⟨vs,h,by rw[<- r.length];exact hi⟩⟩
   exact⟨y.1,r.get' (y.2 vs h)⟩
  ·refine seqL (FrL.sq ?_) (r.mono k);rcases h with⟨o,h⟩|h
   ·exact .inl ⟨o,k _ _ h rfl⟩
   ·exact .inr h
 |lst a xs=>
  cases s;obtain⟨vs,h,r⟩:=rh.lst ok;exact seqL (SqL.of h) r
 |rng lo n=>
  cases s;refine⟨λi hi=>⟨hi,λx H' y=>⟨y.1,.int (lo+(i:Nat)),?_,?_⟩⟩,λi hi=>hi⟩
  ·show((Xs n).map _)[i]?=_;rw[Xr,Xa (by simpa using(show i<n from hi))]
   simp
  ·rw[y.2];exact .int _
 |str z=>
  cases s;refine⟨λi hi=>⟨hi,λx H' y=>?_⟩,λi hi=>hi⟩;obtain⟨e,c,hc,rfl⟩:=y;refine⟨e,.str ⟨#[c]⟩,?_,.str _⟩;show(z.cps.toList.map _)[i]?=_;rw[Xr,Hc,hc]
  rfl
def liSr(X:Cx)(t:TSm):TI:=λσ H R=>∃σm M,RS X.K H σm σ/\RH X.K M H/\t σm M (λS M'=>∀J H',Kp H H'->RH X.K M' H'->Ey X H' S J->R J H')
section
variable{X:Cx}{tg:Expr}
theorem PI.weak{t:TI}(h:PI X tg e t)(i:∀σ H R,t' σ H R->t σ H R):PI X tg e t':=λpins s σ H R I q=>h pins s σ H R I (i _ _ _ q)
end
mutual
def gOf(K:X4):ITg->TG
 |.nm i=>Co i
 |.tup ts=>gTup K (ITgs.len ts) (gsOf K ts)
def gsOf(K:X4):ITgs->TGs
 |.nil=>gNil
 |.cons t ts=>HR (gOf K t) (gsOf K ts)
def ITgs.len:ITgs->Nat
 |.nil=>0
 |.cons _ ts=>ts.len+1
end
mutual
theorem sTg{X:Cx}{lim:Nat}{all:Bool}(hc:X.calm=true)(hN:X.N.Nodup)(hf:all=true->∀x,X.fn x=true):∀(t:ITg) {e:Expr},Zd X.env.scope X.N lim all t e=true->PG X e (gOf X.K t)
 |.nm i,e,h=>by
  obtain⟨x,p,rfl,h1,h2,h3⟩:=Ev h;cases all with
  |true=>
   rw[if_pos rfl]at h3;exact HQ hN h1 (CJ h3) (.inl (hf rfl _))
  |false=>
   rw[if_neg XE,decide_eq_true_eq]at h3;exact HQ hN h1 (.inl h3) (.inr h3)
 |.tup ts,e,h=>by
  obtain⟨es,k,p,rfl,h⟩:=Ew h;obtain⟨h1,h2,h3⟩:=sTgs hc hN hf ts h;exact Sr hc h1 h2 h3
theorem sTgs{all:Bool}(hc:X.calm=true)(hN:X.N.Nodup)(hf:all=true->∀x,X.fn x=true):∀(t:ITgs) {es:List Expr},chkTgs X.env.scope X.N lim all t es=true->PGs X es (gsOf X.K t)/\(Zx es X.env).length=t.len/\(Zx es X.env).findIdx? (·.1)=none
 |.nil,l,h=>by
  cases _fI h;rw[gsOf,ITgs.len];exact⟨So,rfl,rfl⟩
 |.cons t ts,l,h=>by
  obtain⟨e,es,rfl,ha,hb⟩:=JT h;obtain⟨h1,h2,h3⟩:=sTgs hc hN hf ts hb;have h4:=sTg hc hN hf t ha;have e1:Zx (e::es) X.env=(false,assign e X.env)::Zx es X.env:=by
   cases t with
   |nm i=>obtain⟨x,p,rfl,_⟩:=Ev ha;rfl
   |tup ts=>obtain⟨x,k,p,rfl,_⟩:=Ew ha;rfl
  rw[gsOf,ITgs.len];refine⟨Sq h4 h1 (by rw[e1];rfl),by rw[e1,Yh,h2],?_⟩
  rw[e1,List.findIdx?_cons,if_neg XE,h3]
  rfl
end
theorem RMs.len_tgs{K:X4}:∀{ts:ITgs} {xs:List MV} {σ:Sm} {P:Sm->Prop},wTgs ts xs σ P->xs.length=ts.len
 |.nil,xs,σ,P,h=>by rw[h.1,ITgs.len];rfl
 |.cons t ts,xs,σ,P,h=>by
  obtain⟨v,r,rfl,h⟩:=h;rw[Yh,ITgs.len];have aux:∀(t:ITg) {v:MV} {σ:Sm},wTg t v σ (λσ'=>wTgs ts r σ' P)->∃σ',wTgs ts r σ' P:=by
   have both:(∀(t:ITg) {v:MV} {σ:Sm} {P:Sm->Prop},wTg t v σ P->∃σ',P σ')/\(∀(t:ITgs) {v:List MV} {σ:Sm} {P:Sm->Prop},wTgs t v σ P->∃σ',P σ'):=by
    refine⟨λt=>?_,λt=>?_⟩
    ·exact ITg.rec (motive_1:=λt=>∀{v:MV} {σ:Sm} {P:Sm->Prop},wTg t v σ P->∃σ',P σ') (motive_2:=λt=>∀{v:List MV} {σ:Sm} {P:Sm->Prop},wTgs t v σ P->∃σ',P σ')
      (λi v σ P h=>⟨_,h⟩) (λts ih v σ P h=>by obtain⟨xs,_,h⟩:=h;exact ih h)
      (fun{v σ P} h=>⟨_,h.2⟩) (λt ts i1 i2 v σ P h=>by obtain⟨x,r,_,h⟩:=h;obtain⟨σ',h⟩:=i1 h;exact i2 h) t
    ·exact ITgs.rec (motive_1:=λt=>∀{v:MV} {σ:Sm} {P:Sm->Prop},wTg t v σ P->∃σ',P σ') (motive_2:=λt=>∀{v:List MV} {σ:Sm} {P:Sm->Prop},wTgs t v σ P->∃σ',P σ')
      (λi v σ P h=>⟨_,h⟩) (λts ih v σ P h=>by obtain⟨xs,_,h⟩:=h;exact ih h)
      (fun{v σ P} h=>⟨_,h.2⟩) (λt ts i1 i2 v σ P h=>by obtain⟨x,r,_,h⟩:=h;obtain⟨σ',h⟩:=i1 h;exact i2 h) t
   exact λt {v σ} h=>both.1 t h
  obtain⟨σ',h'⟩:=aux t h;rw[RMs.len_tgs (K:=K) h']
mutual
theorem CK{K:X4}{H:Hp}{lim:Nat}{sc:Scope}{N:List Str}{all:Bool}{Ψ:St->Prop}(hΨ:∀σ i v,i<lim->Ψ σ->Ψ (σ.set i (some v))):∀(t:ITg) {e:Expr} {mv:MV} {v:V} {σm:Sm} {σ:St} {P:Sm->Prop} {Q:St->Hp->Prop},Zd sc N lim all t e=true->
  RM K H mv v->RS K H σm σ->Ψ σ->wTg t mv σm P->(∀σm' σ',P σm'->RS K H σm' σ'->Ψ σ'->Q σ' H)->gOf K t v σ H Q
 |.nm i,e,mv,v,σm,σ,P,Q,hc,r,rs,ps,h,hq=>by
  obtain⟨x,p,rfl,_,hl,_⟩:=Ev hc;exact hq _ _ h (rs.set r i) (hΨ _ _ _ hl ps)
 |.tup ts,e,mv,v,σm,σ,P,Q,hc,r,rs,ps,h,hq=>by
  obtain⟨es,k,p,rfl,hc⟩:=Ew hc;obtain⟨xs,rfl,h⟩:=h;obtain⟨_,_,rfl,h1,q1⟩:=r.inv;exact⟨_,_,rfl,SqT.of h1,by rw[<- q1.length];exact RMs.len_tgs (K:=K) h,tgs_ok hΨ ts hc q1 rs ps h hq⟩
theorem tgs_ok{K:X4}{H:Hp}{lim:Nat}{sc:Scope}{N:List Str}{all:Bool}{Ψ:St->Prop}(hΨ:∀σ i v,i<lim->Ψ σ->Ψ (σ.set i (some v))):∀(t:ITgs) {es:List Expr} {mvs:List MV} {vs:List V} {σm:Sm} {σ:St} {P:Sm->Prop} {Q:St->Hp->Prop},chkTgs sc N lim all t es=true->
  RMs K H mvs vs->RS K H σm σ->Ψ σ->wTgs t mvs σm P->(∀σm' σ',P σm'->RS K H σm' σ'->Ψ σ'->Q σ' H)->gsOf K t vs σ H Q
 |.nil,es,mvs,vs,σm,σ,P,Q,hc,r,rs,ps,h,hq=>by
  obtain⟨rfl,h⟩:=h;obtain rfl:=r.inv;rw[gsOf];exact⟨rfl,hq _ _ h rs ps⟩
 |.cons t ts,es,mvs,vs,σm,σ,P,Q,hc,r,rs,ps,h,hq=>by
  obtain⟨e,es,rfl,hc1,hc2⟩:=JT hc;obtain⟨x,rr,rfl,h⟩:=h;obtain⟨_,_,rfl,r1,r2⟩:=r.inv;rw[gsOf];exact⟨_,_,rfl,CK hΨ t hc1 r1 rs ps h λσm' σ' h' rs' ps'=>tgs_ok hΨ ts hc2 r2 rs' ps' h' hq⟩
end
theorem _qy{K:X4}{own:List Str}{fr:List Nat}(rs:RS K H σm σ):RS K H (sCm own fr σm) (sC own fr σ):=by
 refine⟨by simp[sCm,sC],λi m e=>?_⟩
 unfold sCm at e;unfold sC;by_cases hi:i<own.length
 ·rw[Zz (by simpa using hi),Xr]at e
  cases q:own[i]? with
  |none=>rw[q]at e;cases e
  |some z=>rw[q]at e;cases e
 ·rw[Zh (by simpa using hi),Xc,Xr]at e
  rw[Zh (by simpa using hi),Xc,Xr]
  cases q:fr[i - own.length]? with
  |none=>rw[q]at e;cases e
  |some j=>
   rw[q]at e;have e':σm.getD j none=some m:=Y7 e;have e2:σm[j]?=some (some m):=by
    rw[Ym]at e';cases q2:σm[j]? with
    |none=>rw[q2]at e';cases e'
    |some o=>rw[q2]at e';rw[show o=some m from e']
   obtain⟨v,hv,r⟩:=rs.2 j m e2;refine⟨v,?_,r⟩;show some (σ.getD j none)=_;rw[Ym,hv]
   rfl
theorem _kK{own:List Str}{fr:List Nat}(hi:i<own.length)(k:Keep (sC own fr σ) σ'):Keep (sC own fr σ) (σ'.set i (some v)):=by
 refine⟨by rw[UF];exact k.1,λj w h=>?_⟩
 by_cases hij:i=j
 ·subst hij;exfalso;unfold sC at h;rw[Zz (by simpa using hi),Xr]at h
  cases q:own[i]? with
  |none=>rw[q]at h;cases h
  |some z=>rw[q]at h;cases h
 ·rw[VA,if_neg hij];exact k.2 j w h
theorem _kl{y:Expr}(h:A5 y=true):Ip y:=by
 intro o i;cases y<;>first|rfl|cases h
theorem EA{it:Expr}(h:A6 it=true)(env:Env):∀x,BA it env x=pure x:=by
 intro x;cases it<;>first|rfl|cases h
theorem Cok.comp(c:Cok X G Φ){own:List Str}{fr:List Nat}(hk:scope.kind=.function)(nd:(nC own fr X.N).Nodup):Cok (cxC X scope own fr C fp s₃ H₃) G Φ:=
 ⟨c.room,c.calm,rfl,(by show(if scope.kind.isAnnotationScope then HH else scope.kind)=.function;rw[hk];rfl),nd,c.bls,c.gls,c.fnn,c.mon,c.fns,c.mts,c.mks,c.cls⟩
def ttOf(K:X4)(Φ:List (Str×SpM)):IO->TT
 |.none=>tAll
 |.some e=>liT K (wE Φ e)
theorem JX{X:Cx}{Φ:List (Str×SpM)}(hΦ:∀(j:Nat) f sp,Φ[j]?=some (f,sp)->MonW sp) {own:List Str} {fr:List Nat} {src:ISr} {tg:ITg} {test:IO} {elt:IE} {sc:Scope} {N:List Str} {t:Expr}
  (h5:Zd sc N own.length false tg t=true) {σ:St} {H:Hp} {Q:VK} (hw:liE X.K (wE Φ (.comp own fr src tg test elt)) σ H Q):Es own fr (liSr X (wSr Φ src)) (gOf X.K tg) (ttOf X.K Φ test) (liE X.K (wE Φ elt)) σ H (λv H'=>∃H2,Thw X H' H2/\Q v H2):=by
 obtain⟨σm,M,rs,rh,hw⟩:=hw;refine⟨σm,M,rs,rh,mon_sr hΦ src (λS M1 ⟨hz,q⟩=>?_) hw⟩;intro J H1 k1 rh1 sit D hD;obtain⟨Jm,j0,j1,j2,j3⟩:=q D (rh1.free hD);refine⟨λi m ys H2=>m=S.len - i/\i≤S.len/\Kp H1 H2/\∃mys M2,RH X.K M2 H2/\Jm i mys M2,⟨S.len,rfl,YH _,Kp.new hD _,[],_,rh1.put (Kp.new hD (.lst [])) (o:=.lst []) RMs.nil,j0⟩,?_⟩;rintro i m ys H2 ⟨rfl,hi,k2,mys,M2,rh2,hj⟩;obtain⟨d1,d2,d3⟩:=j1 i mys M2 hj;obtain⟨goes,stops⟩:=JW sit k2 rh2 d3;by_cases hlt:i<S.len
 ·obtain⟨go,yld⟩:=goes i hlt;refine .inr ⟨go,λys' H'=>Kp H1 H'/\∃mys M',RH X.K M' H'/\Jm (i+1) mys M',λys' H' ⟨a,mys',M',b,c⟩=>⟨S.len - (i+1),by lia,rfl,hlt,a,mys',M',b,c⟩,λx H3 y=>?_⟩
  obtain⟨e3,m,hm,rm⟩:=yld x H3 y;subst e3;have ht:=j2 i m mys M2 hm hj;refine CK (Ψ:=Keep (sC own fr σ)) (lim:=own.length) (λσ' i v hi k=>_kK hi k) tg h5 rm (_qy (rs.mono (k1.trans k2))) ⟨rfl,λ_ _ h=>h⟩ ht λσm' σ' hP rs' keep=>⟨keep,?_⟩;have eltp:∀{M4:MH} {H5:Hp},Kp H3 H5->RH X.K M4 H5->(wE Φ elt σm' M4 λy M5=>M5 D=some (.lst mys)/\Jm (i+1) (mys++[y]) (updM M5 D (.lst (mys++[y]))))->
    liE X.K (wE Φ elt) σ' H5 λy H6=>∃zs,H6 D=some (.lst zs)/\zs.length<sizeLine/\Kp H1 (upd H6 D (.lst (zs++[y])))/\∃mys M',RH X.K M' (upd H6 D (.lst (zs++[y])))/\Jm (i+1) mys M':=fun{M4 H5} k5 rh5 q=>by
   refine⟨σm',M4,rs'.mono k5,rh5,X9 hΦ elt (λy M5 ⟨hd,hj'⟩=>?_) q⟩;intro v H6 k6 r6 rh6;obtain⟨zs,e,rz⟩:=rh6.lst hd;have ku:=Kp.upd e rfl (.lst (zs++[v]));exact⟨zs,e,by rw[<- rz.length];lia,k2.trans (k5.trans (k6.trans ku)),_,_,rh6.put ku (o:=.lst (mys++[y])) ((rz.append (.cons r6 .nil)).mono ku),hj'⟩
  cases test with
  |none=>
   rw[wI]at hP;rw[if_pos rfl]at hP;rw[ttOf];refine _qc ?_;dsimp only;rw[if_pos rfl];exact eltp (Kp.refl _) rh2 hP
  |some e=>
   refine⟨σm',M2,rs',rh2,X9 hΦ e (λv M4 ⟨b,eb,q⟩=>⟨b,eb,λH5 k5 rh5=>YR (λq=>eltp k5 rh5 q) (λq=>⟨k2.trans k5,_,_,rh5,q⟩) q⟩) hP⟩
 ·refine .inl ⟨stops i (by lia),?_⟩
  have e:i=S.len:=by lia
  subst e;obtain⟨H',th,k3,rh3⟩:=Ez sit rh2 (JV d3);exact⟨H',th,j3 mys M2 hj _ _ (k1.trans (k2.trans k3)) (.ref D) rh3⟩
theorem JY{K:X4}{Φ:List (Str×SpM)}(hΦ:∀(j:Nat) f sp,Φ[j]?=some (f,sp)->MonW sp) {op op':CmpOp} {a b d:IE} {σ:St} {H:Hp} {Q:VK} (hw:liE K (wE Φ (.chn op op' a b d)) σ H Q):
  E4 (li2 K (wCmp op)) (li2 K (wCmp op')) (liE K (wE Φ a)) (liE K (wE Φ b)) (liE K (wE Φ d)) σ H Q:=by
 obtain⟨σm,M,rs,rh,hw⟩:=hw;rw[JG]at hw;refine⟨σm,M,rs,rh,X9 hΦ a (λx M1 q1=>?_) hw⟩;intro v H1 k1 r1 rh1;refine⟨σm,M1,rs.mono k1,rh1,X9 hΦ b (λy M2 q2=>?_) q1⟩;intro u H2 k2 r2 rh2;refine⟨x,y,M2,r1.mono k2,r2,rh2,W7 op (λz M3 ⟨k,e,q3⟩=>?_) q2⟩;subst e;intro z H3 k3 r3 rh3;obtain rfl:=r3.inv;refine⟨k,rfl,YR (λq=>?_) (λq=>?_) q3⟩
 ·refine⟨σm,M3,rs.mono (k1.trans (k2.trans k3)),rh3,X9 hΦ d (λw M4 q4=>?_) q⟩;intro w' H4 k4 r4 rh4;exact⟨y,w,M4,r2.mono (k3.trans k4),r4,rh4,W7 op' (λm M' hq=>hq.on (k1.trans (k2.trans (k3.trans k4)))) q4⟩
 ·exact q _ _ (k1.trans (k2.trans k3)) (.bl _) rh3
theorem JZ{o:Expr}{m:Str}{apos pos:Pos}{args:List Expr}{env:Env}(hb:UA o m env (eval o env)=eval o env)(hf:methodCallForm (args.length+([]:List Z4).length) (XY pos (XB args env)) (ZS pos (ZT [] env))=true)(hl:(apos.endLine==pos.line)=true):
  eval (.Call (.Attribute o m apos) args [] pos) env=(do
   let ov<- eval o env
   standAt apos.atName
   let(f,first)<- Z3 [ov] (getMethod ov m (do return(<- importBound o env).getD true))
   callWith pos f first (XY pos (XB args env)) (ZS pos (ZT [] env))):=by
 rw[arm_eval_Call,hb];unfold methodCall calleeOf methodCallPos;rw[hf,hl];simp only[if_true,VL,DM,pure_bind]
def trOf(K:X4)(Φ:List (Str×SpM)):IPs->List (TE×TE)
 |.nil=>[]
 |.cons k v r=>(liE K (wE Φ k),liE K (wE Φ v))::trOf K Φ r
theorem K0{G:GI}{sc:Scope}{N:List Str}:∀{ps:IPs} {ks:List (Option Expr)} {vs:List Expr},chkPs G ps sc N ks vs=true->ks.all (·.isSome)=true/\ks.length=vs.length
 |.nil,ks,vs,h=>by
  obtain⟨rfl,rfl⟩:=JR h;exact⟨rfl,rfl⟩
 |.cons k v r,ks,vs,h=>by
  obtain⟨x,ks',y,vs',rfl,rfl,h1,h2,h3⟩:=JS h;obtain⟨a,b⟩:=K0 h3;exact⟨by rw[UG,a];rfl,by rw[Yh,Yh,b]⟩
theorem K1{K:X4}{Φ:List (Str×SpM)}(hΦ:∀(j:Nat) f sp,Φ[j]?=some (f,sp)->MonW sp):∀(ps:IPs) {σm:Sm} {σ:St} {M:MH} {H:Hp} {Q:List (V×V)->Hp->Prop},RS K H σm σ->RH K M H->
  (wPs Φ ps σm M λl M2=>∀(l':List (Key×V)) H2,Kp H H2->RKs K H2 l l'->RH K M2 H2->Q (l'.map λkv=>(kV kv.1,kv.2)) H2)->Ct (trOf K Φ ps) σ H Q
 |.nil,σm,σ,M,H,Q,rs,rh,h=>by
  exact h [] H (Kp.refl _) .nil rh
 |.cons k v r,σm,σ,M,H,Q,rs,rh,h=>by
  refine⟨σm,M,rs,rh,X9 hΦ k (λx M1 ⟨kk,ek,h1⟩=>?_) h⟩;intro u H1 k1 r1 rh1;have eu:=W5 ek r1;subst eu;refine⟨σm,M1,rs.mono k1,rh1,X9 hΦ v (λy M2 h2=>?_) h1⟩;intro u2 H2 k2 r2 rh2;refine K1 hΦ r (rs.mono (k1.trans k2)) rh2 (mon_ps hΦ r (λl M3 h3=>?_) h2);intro l' H3 k3 rl rh3;exact h3 ((kk,u2)::l') H3 (k1.trans (k2.trans k3)) (.cons (r2.mono k3) rl) rh3
def aob:IE->Bool
 |.and ..=>true
 |.or ..=>true
 |_=>false
structure Snd (X:Cx) (Φ:List (Str×SpM)) (ie:IE) (e:Expr):Prop where
 pe:PE X e (liE X.K (wE Φ ie))
 pt:tok ie=true->PT X e (liT X.K (wE Φ ie))
 pw:tok ie=true->aob ie=true->PW X e (liT X.K (wE Φ ie))
theorem Snd.plain(c:Cok X G Φ)(pe:PE X e (liE X.K (wE Φ ie)))(he:∀whole,isTrue e X.env whole=(do let v<- whole;standAt e.pos;Z3 [v] (truthy v)))(na:aob ie=false):Snd X Φ ie e:=
 ⟨pe,λ_=>(S8 pe he).weak λσ H Q h=>Ex (t:=wE Φ ie) (X9 c.mon ie) h,λ_ h=>by rw[na]at h;cases h⟩
theorem _q8(f:BI):(∃n,f.val=.builtin n)\/∃n,f.val=.type n:=by cases f<;>first|exact .inl ⟨_,rfl⟩|exact .inr ⟨_,rfl⟩
theorem K2{G:GI}{b:IE}{sc:Scope}{N:List Str}{op:BoolOp}{vs:List Expr}{p:Pos}(h:chkE G b sc N (.BoolOp op vs p)=true):aob b=true:=by revert h;cases b<;>first|exact λ_=>rfl|exact nob
mutual
theorem sE{G:GI}{Φ:List (Str×SpM)}:∀(ie:IE) {X:Cx} {e:Expr},Cok X G Φ->chkE G ie X.env.scope X.N e=true->Snd X Φ ie e
 |.var i,X,e,c,h=>by
  obtain⟨x,p,rfl,h1,h2,h3,h4⟩:=_nr h;refine .plain c ?_ (λ_=>rfl) rfl;refine(HN h1 (_ol h2) h3 h4).weak λσ H Q hw=>?_;obtain⟨σm,M,rs,rh,hw⟩:=hw;rw[JF]at hw;obtain⟨v,e,q⟩:=hw;obtain⟨u,hu,r⟩:=rs.2 i v e;exact⟨u,hu,q _ _ (Kp.refl _) r rh⟩
 |.int i,X,e,c,h=>by
  obtain⟨k,p,rfl⟩:=_nz h;refine .plain c ?_ (λ_=>rfl) rfl;refine pe_int.weak λσ H Q hw=>?_;obtain⟨σm,M,rs,rh,hw⟩:=hw;exact hw _ _ (Kp.refl _) (.int i) rh
 |.str i,X,e,c,h=>by
  obtain⟨k,p,rfl⟩:=_nt h;refine .plain c ?_ (λ_=>rfl) rfl;refine pe_str.weak λσ H Q hw=>?_;obtain⟨σm,M,rs,rh,hw⟩:=hw;exact hw _ _ (Kp.refl _) (.str i) rh
 |.bl i,X,e,c,h=>by
  obtain⟨k,p,rfl⟩:=_pT h;refine .plain c ?_ (λ_=>rfl) rfl;refine pe_bl.weak λσ H Q hw=>?_;obtain⟨σm,M,rs,rh,hw⟩:=hw;exact hw _ _ (Kp.refl _) (.bl i) rh
 |.non,X,e,c,h=>by
  obtain⟨k,p,rfl⟩:=_nw h;refine .plain c ?_ (λ_=>rfl) rfl;refine pe_non.weak λσ H Q hw=>?_;obtain⟨σm,M,rs,rh,hw⟩:=hw;exact hw _ _ (Kp.refl _) .non rh
 |.glb x i,X,e,c,h=>by
  obtain⟨p,rfl,h1,h2⟩:=_nB h;obtain⟨g1,g2,g3⟩:=UO h2;obtain⟨tk,hm⟩:=c.gls x i h1;refine .plain c ?_ (λ_=>rfl) rfl;refine(S6 (v:=.int i) g1 hm ⟨tk,rfl⟩ g2).weak λσ H Q hw=>?_;obtain⟨σm,M,rs,rh,hw⟩:=hw;exact hw _ _ (Kp.refl _) (.int i) rh
 |.ty t,X,e,c,h=>by
  obtain⟨p,rfl,h0,h1,h2⟩:=_pO h;obtain⟨g1,g2,g3⟩:=UO h2;refine .plain c ?_ (λ_=>rfl) rfl;refine(S7 (v:=.ty t.name) g1 (c.bls _ h1) (_o2 h0) rfl g3 g2).weak λσ H Q hw=>?_;obtain⟨σm,M,rs,rh,hw⟩:=hw;exact hw _ _ (Kp.refl _) (.ty t) rh
 |.bin op a b,X,e,c,h=>by
  obtain⟨l,r,p,rfl,h1,h2⟩:=_nG h;refine .plain c ?_ (λ_=>rfl) rfl;refine(SG (_ps op) (sE a c h1).pe (sE b c h2).pe).weak λσ H Q hw=>?_;have:wE Φ (.bin op a b)=λσ M Q=>wE Φ a σ M λx M1=>wE Φ b σ M1 λy M2=>wBin op x y M2 Q:=rfl;rw[this]at hw;exact Eh (ta:=wE Φ a) (tb:=wE Φ b) (w:=wBin op) (X9 c.mon a) (X9 c.mon b) (Je op) hw
 |.neg a,X,e,c,h=>by
  obtain⟨l,p,rfl,h1⟩:=_nx h;refine .plain c ?_ (λ_=>rfl) rfl;refine(SH SR (sE a c h1).pe).weak λσ H Q hw=>?_;obtain⟨σm,M,rs,rh,hw⟩:=hw;refine⟨σm,M,rs,rh,X9 c.mon a (λx M1 ⟨i,e,q⟩=>?_) hw⟩;subst e;intro v H1 k1 r1 rh1;obtain rfl:=r1.inv;exact⟨i,rfl,q _ _ k1 (.int _) rh1⟩
 |.not a,X,e,c,h=>by
  obtain⟨l,p,rfl,h1⟩:=_nv h;have ih:=sE a c h1;refine⟨(Se ih.pe).weak λσ H Q hw=>?_,λht=>(S9 (ih.pt ht)).weak λσ H Q hw=>?_,λ_ z=>by cases z⟩
  ·obtain⟨σm,M,rs,rh,hw⟩:=hw;rw[El]at hw;refine⟨σm,M,rs,rh,X9 c.mon a (λx M1 ⟨i,e,q⟩=>?_) hw⟩;subst e;intro v H1 k1 r1 rh1;obtain rfl:=r1.inv;exact⟨i,rfl,q _ _ k1 (.bl _) rh1⟩
  ·obtain⟨σm,M,rs,rh,hw⟩:=hw;rw[El]at hw;refine⟨σm,M,rs,rh,X9 c.mon a (λx M1 ⟨i,e,b,e2,q⟩=>⟨i,e,λH' k rh'=>?_⟩) hw⟩;cases e2;exact q H' k rh'
 |.cmp op a b,X,e,c,h=>by
  obtain⟨l,r,p,rfl,h1,h2,h3⟩:=_nE h;have rd:∀σ H Q,liE X.K (wE Φ (.cmp op a b)) σ H Q->tOp (li2 X.K (wCmp op)) (liE X.K (wE Φ a)) (liE X.K (wE Φ b)) σ H Q:=λσ H Q hw=>by
   have:wE Φ (.cmp op a b)=λσ M Q=>wE Φ a σ M λx M1=>wE Φ b σ M1 λy M2=>wCmp op x y M2 Q:=rfl;rw[this]at hw;exact Eh (ta:=wE Φ a) (tb:=wE Φ b) (w:=wCmp op) (X9 c.mon a) (X9 c.mon b) (W7 op) hw
  refine⟨(T0 (W8 c.room op) (sE a c h1).pe (sE b c h2).pe h3).weak rd,λ_=>(T1 (W8 c.room op) (sE a c h1).pe (sE b c h2).pe h3).weak λσ H Q hw=>?_,λ_ z=>by cases z⟩
  exact rd σ H _ (Ex (t:=wE Φ (.cmp op a b)) (X9 c.mon _) hw)
 |.chn op op' a b d,X,e,c,h=>by
  obtain⟨l,m,r,p,rfl,h1,h2,h3,h4⟩:=_nF h;refine⟨(T2 (W8 c.room op) (W8 c.room op') (sE a c h1).pe (sE b c h2).pe (sE d c h3).pe h4).weak λσ H Q hw=>JY c.mon hw,
   λ_=>(T3 (W8 c.room op) (W8 c.room op') (sE a c h1).pe (sE b c h2).pe (sE d c h3).pe h4).weak λσ H Q hw=>?_,λ_ z=>by cases z⟩
  exact JY c.mon (Ex (t:=wE Φ (.chn op op' a b d)) (X9 c.mon _) hw)
 |.and a b,X,e,c,h=>by
  obtain⟨l,r,rest,p,rfl,h1,h2⟩:=_nH h;have ih:=sE a c h1;have hb:PE X (.BoolOp .And (r::rest) p) (liE X.K (wE Φ b)):=by
   rcases h2 with⟨rfl,h2⟩|h2
   ·exact HP (sE b c h2).pe
   ·exact(sE b c h2).pe
  have hw':tok (.and a b)=true->PW X (.BoolOp .And (l::r::rest) p) (liT X.K (wE Φ (.and a b))):=λht=>by
   have ht:(tok a&&tok b)=true:=ht;rw[XW]at ht;have hb2:PW X (.BoolOp .And (r::rest) p) (liT X.K (wE Φ b)):=by
    rcases h2 with⟨rfl,h2⟩|h2
    ·exact pw_and1 ((sE b c h2).pt ht.2)
    ·refine(sE b c h2).pw ht.2 ?_;exact K2 h2
   refine(pw_and (ih.pt ht.1) hb2).weak λσ H Q hw=>?_;obtain⟨σm,M,rs,rh,hw⟩:=hw;rw[Em]at hw;refine⟨σm,M,rs,rh,X9 c.mon a (λx M1 ⟨k,e,q⟩=>⟨k,e,λH1 k1 rh1=>?_⟩) hw⟩;refine YR (λq=>⟨σm,M1,rs.mono k1,rh1,JU (t:=wE Φ b) (X9 c.mon b) k1 q⟩) (λq=>let⟨b,e,q⟩:=q;MV.noConfusion e λeb=>eb▸q H1 k1 rh1) q
  refine⟨(Sc ih.pe hb).weak λσ H Q hw=>?_,λht=>(hw' ht).pt,λht _=>hw' ht⟩;obtain⟨σm,M,rs,rh,hw⟩:=hw;rw[Em]at hw;refine⟨σm,M,rs,rh,X9 c.mon a (λx M1 ⟨k,e,q⟩=>?_) hw⟩;subst e;intro v H1 k1 r1 rh1;obtain rfl:=r1.inv;refine⟨k,rfl,YR (λq=>⟨σm,M1,rs.mono k1,rh1,X9 c.mon b (λm M' hq=>hq.on k1) q⟩) (λq=>q _ _ k1 (.bl _) rh1) q⟩
 |.or a b,X,e,c,h=>by
  obtain⟨l,r,rest,p,rfl,h1,h2⟩:=_pQ h;have ih:=sE a c h1;have hb:PE X (.BoolOp .Or (r::rest) p) (liE X.K (wE Φ b)):=by
   rcases h2 with⟨rfl,h2⟩|h2
   ·exact HP (sE b c h2).pe
   ·exact(sE b c h2).pe
  have hw':tok (.or a b)=true->PW X (.BoolOp .Or (l::r::rest) p) (liT X.K (wE Φ (.or a b))):=λht=>by
   have ht:(tok a&&tok b)=true:=ht;rw[XW]at ht;have hb2:PW X (.BoolOp .Or (r::rest) p) (liT X.K (wE Φ b)):=by
    rcases h2 with⟨rfl,h2⟩|h2
    ·exact pw_or1 ((sE b c h2).pt ht.2)
    ·refine(sE b c h2).pw ht.2 ?_;exact K2 h2
   refine(pw_or (ih.pt ht.1) hb2).weak λσ H Q hw=>?_;obtain⟨σm,M,rs,rh,hw⟩:=hw;rw[x_or]at hw;refine⟨σm,M,rs,rh,X9 c.mon a (λx M1 ⟨k,e,q⟩=>⟨k,e,λH1 k1 rh1=>?_⟩) hw⟩;refine YR (λq=>let⟨b,e,q⟩:=q;MV.noConfusion e λeb=>eb▸q H1 k1 rh1) (λq=>⟨σm,M1,rs.mono k1,rh1,JU (t:=wE Φ b) (X9 c.mon b) k1 q⟩) q
  refine⟨(Sd ih.pe hb).weak λσ H Q hw=>?_,λht=>(hw' ht).pt,λht _=>hw' ht⟩;obtain⟨σm,M,rs,rh,hw⟩:=hw;rw[x_or]at hw;refine⟨σm,M,rs,rh,X9 c.mon a (λx M1 ⟨k,e,q⟩=>?_) hw⟩;subst e;intro v H1 k1 r1 rh1;obtain rfl:=r1.inv;refine⟨k,rfl,YR (λq=>q _ _ k1 (.bl _) rh1) (λq=>⟨σm,M1,rs.mono k1,rh1,X9 c.mon b (λm M' hq=>hq.on k1) q⟩) q⟩
 |.ife d a b,X,e,c,h=>by
  obtain⟨t,x,y,p,rfl,h0,h1,h2,h3⟩:=_nA h;refine⟨(Sf ((sE d c h1).pt h0) (sE a c h2).pe (sE b c h3).pe).weak λσ H Q hw=>?_,λz=>(by cases z),λz _=>(by cases z)⟩
  obtain⟨σm,M,rs,rh,hw⟩:=hw;rw[JH]at hw;refine⟨σm,M,rs,rh,X9 c.mon d (λx M1 ⟨k,e,q⟩=>⟨k,e,λH1 k1 rh1=>?_⟩) hw⟩;exact YR (λq=>⟨σm,M1,rs.mono k1,rh1,X9 c.mon a (λm M' hq=>hq.on k1) q⟩) (λq=>⟨σm,M1,rs.mono k1,rh1,X9 c.mon b (λm M' hq=>hq.on k1) q⟩) q
 |.tup es,X,e,c,h=>by
  obtain⟨xs,k,p,rfl,h1⟩:=_ns h;refine .plain c ?_ (λ_=>rfl) rfl;refine(Tn (sA es c h1)).weak λσ H Q hw=>?_;obtain⟨σm,M,rs,rh,hw⟩:=hw;refine⟨σm,M,rs,rh,mon_es c.mon es (λms M1 ⟨hz,q⟩=>?_) hw⟩;intro vs H1 k1 r1 rh1;refine⟨by rw[<- r1.length];exact hz,λp hp=>?_⟩
  have k2:=Kp.new hp (.tup vs);exact q _ _ (k1.trans k2) (.tup _G (r1.mono k2)) (rh1.kept hp _)
 |.lst es,X,e,c,h=>by
  obtain⟨xs,p,rfl,h1⟩:=_ny h;refine .plain c ?_ (λ_=>rfl) rfl;refine(To (sA es c h1)).weak λσ H Q hw=>?_;obtain⟨σm,M,rs,rh,hw⟩:=hw;refine⟨σm,M,rs,rh,mon_es c.mon es (λms M1 ⟨hz,q⟩=>?_) hw⟩;intro vs H1 k1 r1 rh1;refine⟨by rw[<- r1.length];exact hz,λp hp=>?_⟩
  have k2:=Kp.new hp (.lst vs);exact q p (rh1.free hp) _ _ (k1.trans k2) (.ref p) (rh1.put k2 (r1.mono k2))
 |.dic,X,e,c,h=>by
  obtain⟨p,rfl⟩:=_nD h;refine .plain c ?_ (λ_=>rfl) rfl;refine pe_dnewK.weak λσ H Q hw=>?_;obtain⟨σm,M,rs,rh,hw⟩:=hw;intro p hp;have k2:=Kp.new hp (.dK []);exact hw p (rh.free hp) _ _ k2 (.ref p) (rh.put k2 ⟨.nil,Wy⟩)
 |.ix a b,X,e,c,h=>by
  obtain⟨l,r,p,rfl,h1,h2,h3⟩:=_pS h;refine .plain c ?_ (λ_=>rfl) rfl;refine(TU (_pM (by have:=c.room;lia)) (sE a c h1).pe (sE b c h2).pe (_kl h3)).weak λσ H Q hw=>?_
  have:wE Φ (.ix a b)=λσ M Q=>wE Φ a σ M λx M1=>wE Φ b σ M1 λy M2=>wIx x y M2 Q:=rfl;rw[this]at hw;exact Eh (ta:=wE Φ a) (tb:=wE Φ b) (w:=wIx) (X9 c.mon a) (X9 c.mon b) Jt hw
 |.sl a lo hi,X,e,c,h=>by
  obtain⟨x,l,u,p,p2,rfl,h1,h2,h3⟩:=_pP h;refine .plain c ?_ (λ_=>rfl) rfl;refine(TM _ou (sE a c h1).pe (sO lo c h2) (sO hi c h3)).weak λσ H Q hw=>?_;obtain⟨σm,M,rs,rh,hw⟩:=hw;refine⟨σm,M,rs,rh,X9 c.mon a (λx M1 q1=>?_) hw⟩;intro v H1 k1 r1 rh1;refine⟨σm,M1,rs.mono k1,rh1,mon_o c.mon lo (λl M2 q2=>?_) q1⟩;intro H2 k2 rh2;refine⟨σm,M2,rs.mono (k1.trans k2),rh2,mon_o c.mon hi (λu M3 q3=>?_) q2⟩;intro H3 k3 rh3;exact⟨x,M3,r1.mono (k2.trans k3),rh3,Jv (λm M' hq=>hq.on (k1.trans (k2.trans k3))) q3⟩
 |.call j a es,X,e,c,h=>by
  obtain⟨f,p,x,xs,p2,rfl,h1,h2,h3,h4⟩:=_kO h;obtain⟨g1,g2,g3⟩:=UO h2;obtain⟨sp,hj⟩:=c.fnn j f h1;obtain⟨k,fa,fd,ps,hr,F,hm,hk,hb⟩:=c.fns j f sp h1 hj;have ha:PA X (x::xs) (VY (liE X.K (wE Φ a)) (liA X.K (wEs Φ es))):=WR (sE a c h3).pe (sA es c h4) (YE h3);refine .plain c ?_ (λ_=>rfl) rfl;refine(Tr (E:=E0) F hr g1 hm hk hb .nil Cu ha g2 (YE h3) (UP (U9 (pos:=p2) h4)).2).weak λσ H Q hw=>?_;obtain⟨σm,M,rs,rh,hw⟩:=hw;rw[JI]at hw;refine⟨σm,M,rs,rh,X9 c.mon a (λv M1 q1=>?_) hw⟩;intro u H1 k1 r1 rh1;refine⟨σm,M1,rs.mono k1,rh1,mon_es c.mon es (λvs M2 ⟨f',sp',e,q2⟩=>?_) q1⟩;rw[hj]at e;cases e;intro us H2 k2 r2 rh2;refine⟨v::vs,M2,?_,rh2,c.mon j f sp hj (λm M' hq=>hq.on (k1.trans k2)) q2⟩;rw[VD];exact .cons (r1.mono k2) r2
 |.bi f a es,X,e,c,h=>by
  obtain⟨p,x,xs,p2,rfl,h1,h2,h3,h4⟩:=_pU h;obtain⟨g1,g2,g3⟩:=UO h2;have ha:PA X (x::xs) (VY (liE X.K (wE Φ a)) (liA X.K (wEs Φ es))):=WR (sE a c h3).pe (sA es c h4) (YE h3);have hv:=_o3 f;have hcall:=_o0 (X:=X) c.calm f;have hp:PE X (.Call (.Name (f.name:Str) p) (x::xs) [] p2) (tCB (liW X.K (wBi f)) (VY (liE X.K (wE Φ a)) (liA X.K (wEs Φ es)))):=by
   rcases _q8 f with⟨n,hf⟩|⟨n,hf⟩<;>rw[hf]at hv hcall
   ·exact Ty hcall g1 (c.bls _ h1) hv ha g3 g2 (YE h3) (UP (U9 (pos:=p2) h4)).2
   ·exact Tz hcall g1 (c.bls _ h1) hv ha g3 g2 (YE h3) (UP (U9 (pos:=p2) h4)).2
  refine .plain c ?_ (λ_=>rfl) rfl;refine hp.weak λσ H Q hw=>?_;obtain⟨σm,M,rs,rh,hw⟩:=hw;refine⟨σm,M,rs,rh,X9 c.mon a (λv M1 q1=>?_) hw⟩;intro u H1 k1 r1 rh1;refine⟨σm,M1,rs.mono k1,rh1,mon_es c.mon es (λvs M2 q2=>?_) q1⟩;intro us H2 k2 r2 rh2;exact⟨v::vs,M2,.cons (r1.mono k2) r2,rh2,Jy f (λm M' hq=>hq.on (k1.trans k2)) q2⟩
 |.b2 f a,X,e,c,h=>by
  obtain⟨p,p',x,p2,p2',rfl,h1,h2,h3,h4,h5⟩:=_pV h;obtain⟨g1,g2,g3⟩:=UO h3;obtain⟨k1,k2,k3⟩:=UO h4;have hv:YF (f.out:Str)=some f.outV:=by cases f<;>decide+kernel
  have hv':YF (f.inn:Str)=some (.type f.inn):=by cases f<;>decide+kernel
  have hp:PE X (.Call (.Name (f.out:Str) p) [.Call (.Name (f.inn:Str) p') [x] [] p2'] [] p2) (λσ H Q=>liE X.K (wE Φ a) σ H λv H1=>li1 X.K (wB2 f) v H1 Q):=by
   have hc:=_o1 (X:=X) c.calm f;cases f with
   |lrng=>exact _ih (p:=p) (p':=p') (pos:=p2) (pos':=p2') hc g1 (c.bls _ h1) hv k1 (c.bls _ h2) hv' (sE a c h5).pe g3 g2 k3 k2 (YE h5)
   |ssrt=>exact Ef (p:=p) (p':=p') (pos:=p2) (pos':=p2') hc g1 (c.bls _ h1) hv k1 (c.bls _ h2) hv' (sE a c h5).pe g3 g2 k3 k2 (YE h5)
   |lset=>exact Ef (p:=p) (p':=p') (pos:=p2) (pos':=p2') hc g1 (c.bls _ h1) hv k1 (c.bls _ h2) hv' (sE a c h5).pe g3 g2 k3 k2 (YE h5)
   |tset=>exact Ef (p:=p) (p':=p') (pos:=p2) (pos':=p2') hc g1 (c.bls _ h1) hv k1 (c.bls _ h2) hv' (sE a c h5).pe g3 g2 k3 k2 (YE h5)
  refine .plain c ?_ (λ_=>rfl) rfl;refine hp.weak λσ H Q hw=>?_;obtain⟨σm,M,rs,rh,hw⟩:=hw;refine⟨σm,M,rs,rh,X9 c.mon a (λv M1 q1=>?_) hw⟩;intro u H1 k1 r1 rh1;exact⟨v,M1,r1,rh1,JA f (λm M' hq=>hq.on k1) q1⟩
 |.st3 a,X,e,c,h=>absurd h XE
 |.mxd a,X,e,c,h=>absurd h XE
 |.mt m o es,X,e,c,h=>by
  obtain⟨ob,ap,args,cp,rfl,h1,h2,h3,h4⟩:=_pR h;have slot:PySem.Slot m.ty (m.name:Str) m.id/\typeOf (.builtin m.id)=pure (.type "method_descriptor"):=by
   cases m
   ·exact⟨PySem.F.slot_list_append,PySem.F.type_list_append⟩
   ·exact⟨PySem.F.slot_list_extend,PySem.F.type_list_extend⟩
  have plain:PlainAttrs m.ty:=by
   cases m<;>first|exact PySem.F.plainAttrs_list|exact PySem.F.plainAttrs_dict|exact PySem.F.plainAttrs_str
  have hu1:X.A.units+1<cLine:=by have:=c.room;lia
  have tyL:∀{H1:Hp} {M1:MH} {mx:MV} {v:V},RH X.K M1 H1->RM X.K H1 mx v->mtOk m mx M1->tyV X.K m.ty v H1:=by
   intro H1 M1 mx v rh r hm;cases m
   all_goals
    obtain⟨a,xs,rfl,hm⟩:=hm;obtain rfl:=r.inv;obtain⟨vs,e,_⟩:=rh.lst hm;exact .inl ⟨rfl,vs,SqL.of e⟩
  refine .plain c ?_ (λ_=>rfl) rfl;cases args with
  |nil=>
   refine(_pi plain slot.1 slot.2 (JC hu1 m) (sE o c h2).pe (Ad h2) h1).weak λσ H Q hw=>?_;obtain⟨σm,M,rs,rh,hw⟩:=hw;refine⟨σm,M,rs,rh,X9 c.mon o (λv M1 ⟨q0,q1⟩=>?_) hw⟩;intro u H1 k1 r1 rh1;cases es with
   |cons _ _=>exact absurd h3 XE
   |nil=>
    exact⟨tyL rh1 r1 q0,v,[],M1,r1,.nil,rh1,Ek (λm M' hq=>hq.on k1) q1⟩
  |cons x xs=>
   cases es with
   |nil=>cases Et h3
   |cons a es=>
    have h3':=h3;obtain⟨x',xs',e',h3⟩:=Eu h3;cases e';have ha:=sA (.cons a es) c h3';have hall:=UP (pos:=cp) (U9 (env:=X.env) (pos:=cp) h3');refine(_ro plain slot.1 slot.2 (JC hu1 m) (sE o c h2).pe ha (Ad h2) ?_ h1 (YE h3.1) (UP (U9 (pos:=cp) h3.2)).2).weak λσ H Q hw=>?_
    ·rw[hall.1];simp only[C3,XW,decide_eq_true_eq];refine⟨rfl,?_⟩;simp at h4 ⊢;lia
    obtain⟨σm,M,rs,rh,hw⟩:=hw;refine⟨σm,M,rs,rh,X9 c.mon o (λv M1 ⟨q0,q1⟩=>?_) hw⟩;intro u H1 k1 r1 rh1;refine⟨tyL rh1 r1 q0,σm,M1,rs.mono k1,rh1,mon_es c.mon (.cons a es) (λvs M2 q2=>?_) q1⟩;intro us H2 k2 r2 rh2;exact⟨v,vs,M2,r1.mono k2,r2,rh2,Ek (λm M' hq=>hq.on (k1.trans k2)) q2⟩
 |.comp own fr src tg test elt,X,e,c,h=>by
  obtain⟨x,t,it,ifs,scope,p,rfl,h1,h2,h3,h4,h5,h6,h7⟩:=JQ h;refine .plain c ?_ (λ_=>rfl) rfl;refine(_kr own fr (g:=gOf X.K tg) (te:=liE X.K (wE Φ elt)) (λe s h=>by rw[c.nox]at h;exact h) c.calm h1 (sSr src (tg:=t) c h4) (λC fp s₃ H₃=>sTg (X:=cxC X scope own fr C fp s₃ H₃) (lim:=own.length) (all:=false) c.calm h3 (λz=>by cases z) tg h5) (tt:=ttOf X.K Φ test) (λC fp s₃ H₃=>sI (X:=cxC X scope own fr C fp s₃ H₃) test (c.comp (W3 h1).kind h3) h6)
   (λC fp s₃ H₃=>(sE (X:=cxC X scope own fr C fp s₃ H₃) elt (c.comp (W3 h1).kind h3) h7).pe) (EA h2 _)).thaw.weak λσ H Q hw=>?_
  exact JX c.mon h5 hw
 |.fld cn o f,X,e,c,h=>by
  obtain⟨ob,p,rfl,h1,h2⟩:=_nC h;obtain⟨C,hC,cl,na⟩:=c.cls cn f h1;refine .plain c ?_ (λ_=>rfl) rfl;refine(Th (sE o c h2).pe (Ad h2)).weak λσ H Q hw=>?_;obtain⟨σm,M,rs,rh,hw⟩:=hw;refine⟨σm,M,rs,rh,X9 c.mon o (λv M1 ⟨a,fs,y,e,e2,e3,q⟩=>?_) hw⟩;subst e;intro u H1 k1 r1 rh1;obtain rfl:=r1.inv;obtain⟨C',dx,vs,g1,g2,g3⟩:=rh1.ins e2;rw[hC]at g2;cases g2;rcases CB (f:=f) g3 with⟨z1,z2⟩|⟨x',u',z1,z2,r'⟩
  ·rw[e3]at z1;cases z1
  ·rw[e3]at z1;cases z1;exact⟨a,C,dx,vs,u',rfl,g1,cl,na,z2,q _ _ k1 r' rh1⟩
 |.mcall j cn m o es,X,e,c,h=>by
  obtain⟨ob,ap,args,cp,rfl,h1,h2,h3,h8,h9⟩:=_iN h;have hform:methodCallForm (args.length+([]:List Z4).length) (XY cp (XB args X.env)) (ZS cp (ZT [] X.env))=true:=by
   unfold methodCallForm;have e0:ZS cp (ZT [] X.env)=[]:=rfl;rw[(UP (U9 (pos:=cp) h3)).1,e0];simp only[C3,XW,decide_eq_true_eq];refine⟨rfl,?_⟩;simp at h9 ⊢;lia
  obtain⟨fn,sp,hj,k,C,fa,fd,ps,hr,F,hC,cl,hm,hb⟩:=c.mts j cn m h1;refine .plain c ?_ (λ_=>rfl) rfl;cases args with
  |nil=>
   refine(Tt (E:=E0) (sE o c h2).pe cl hm F hr hb .nil Cu (JZ (Ad h2) hform h8)).weak λσ H Q hw=>?_;obtain⟨σm,M,rs,rh,hw⟩:=hw;refine⟨σm,M,rs,rh,X9 c.mon o (λv M1 ⟨a,fs,e,e2,e3,q⟩=>?_) hw⟩;subst e;intro u H1 k1 r1 rh1;obtain rfl:=r1.inv;obtain⟨C',dx,vs,g1,g2,g3⟩:=rh1.ins e2;rw[hC]at g2;cases g2;have hn:vs.lookup m=none:=by
    rcases CB (f:=m) g3 with⟨_,z2⟩|⟨x',u',z1,_⟩
    ·exact z2
    ·rw[e3]at z1;cases z1
   cases es with
   |cons _ _=>exact absurd h3 XE
   |nil=>
    obtain⟨f',sp',e4,q2⟩:=q;rw[hj]at e4;cases e4;exact⟨a,dx,vs,rfl,g1,hn,[.ref a],M1,.cons (.ref a) .nil,rh1,c.mon j fn sp hj (λm M' hq=>hq.on k1) q2⟩
  |cons x xs=>
   cases es with
   |nil=>cases Et h3
   |cons a0 es=>
    have h3':=h3;obtain⟨x',xs',e',h4,h5⟩:=Eu h3;cases e';refine(Ts (E:=E0) (sE o c h2).pe cl hm F hr hb .nil Cu (sA (.cons a0 es) c h3') (YE h4) (UP (U9 (pos:=cp) h5)).2 (JZ (Ad h2) hform h8)).weak λσ H Q hw=>?_;obtain⟨σm,M,rs,rh,hw⟩:=hw;refine⟨σm,M,rs,rh,X9 c.mon o (λv M1 ⟨a,fs,e,e2,e3,q⟩=>?_) hw⟩;subst e;intro u H1 k1 r1 rh1;obtain rfl:=r1.inv;obtain⟨C',dx,vs,g1,g2,g3⟩:=rh1.ins e2;rw[hC]at g2;cases g2;have hn:vs.lookup m=none:=by
     rcases CB (f:=m) g3 with⟨_,z2⟩|⟨x',u',z1,_⟩
     ·exact z2
     ·rw[e3]at z1;cases z1
    refine⟨a,dx,vs,rfl,g1,hn,σm,M1,rs.mono k1,rh1,mon_es c.mon (.cons a0 es) (λws M2 ⟨f',sp',e4,q2⟩=>?_) q⟩;rw[hj]at e4;cases e4;intro us H2 k2 r2 rh2;refine⟨.ref a::ws,M2,?_,rh2,c.mon j fn sp hj (λm M' hq=>hq.on (k1.trans k2)) q2⟩;rw[VD];exact .cons (.ref a) r2
 |.make j cn a es,X,e,c,h=>by
  obtain⟨p,x,xs,p2,rfl,h1,h2,h3,h4⟩:=_kM h;obtain⟨g1,g2,g3⟩:=UO h2;obtain⟨fn,sp,hj,k,C,fa,fd,ps,hr,F,hC,hm,mk,hb⟩:=c.mks j cn h1;have ha:PA X (x::xs) (VY (liE X.K (wE Φ a)) (liA X.K (wEs Φ es))):=WR (sE a c h3).pe (sA es c h4) (YE h3);refine .plain c ?_ (λ_=>rfl) rfl;refine(Tv (E:=E0) mk F hr g1 hm hb .nil Cu ha g2 (YE h3) (UP (U9 (pos:=p2) h4)).2).weak λσ H Q hw=>?_;obtain⟨σm,M,rs,rh,hw⟩:=hw;refine⟨σm,M,rs,rh,X9 c.mon a (λv M1 q1=>?_) hw⟩;intro u H1 k1 r1 rh1;refine⟨σm,M1,rs.mono k1,rh1,mon_es c.mon es (λvs M2 ⟨f',sp',e,q2⟩=>?_) q1⟩;rw[hj]at e;cases e;intro us H2 k2 r2 rh2;intro q dx hq hdx ne;have kk:Kp H2 (upd (upd H2 dx (.own q)) q (.ins C dx [])):=(Kp.new hdx _).trans (Kp.new (by rw[XM ne.symm];exact hq) _)
  refine⟨.ref q::v::vs,updM M2 q (.ins cn []),?_,?_,c.mon j fn sp hj (λm M' ⟨z,hq'⟩=>?_) (q2 q (rh2.free hq))⟩
  ·rw[VD];exact .cons (.ref q) (.cons ((r1.mono k2).mono kk) (r2.mono kk))
  ·have k3:=Kp.new (H:=H2) hdx (.own q);have rh3:RH X.K M2 (upd H2 dx (.own q)):=rh2.kept hdx _;exact rh3.put (Kp.new (by rw[XM ne.symm];exact hq) _) (o:=.ins cn []) ⟨hC,.nil⟩
  ·subst z;intro v' H' k' r' rh';obtain rfl:=r'.inv;exact⟨rfl,hq' _ _ ((k1.trans k2).trans (kk.trans k')) (.ref q) rh'⟩
 |.disp ps,X,e,c,h=>by
  obtain⟨ks,vs,p,rfl,h1,h2,h3⟩:=_kN h;refine .plain c ?_ (λ_=>rfl) rfl;obtain⟨hall,hlen⟩:=K0 h3;refine(_mQ (sP ps c h3) hall hlen h1 h2).weak λσ H Q hw=>?_;obtain⟨σm,M,rs,rh,hw⟩:=hw;intro q hq;have k1:=Kp.new hq (.dK []);refine K1 c.mon ps (rs.mono k1) (rh.put k1 (o:=.dic []) ⟨.nil,Wy⟩) (mon_ps c.mon ps (λl M2 ⟨e,e2,q2⟩=>?_) (hw q (rh.free hq)));intro l' H2 k2 rl rh2;obtain⟨vs2,e3,r3,nd3⟩:=rh2.dic e;obtain rfl:=r3.inv;refine⟨e3,l',rfl,by rw[<- rl.length];exact e2,?_⟩
  have k3:=Kp.upd e3 rfl (.dK (VZ [] l'));have pa:=CD rl (c:=[]) (c':=[]) .nil Wy;exact q2 _ _ (k1.trans (k2.trans k3)) (.ref q) (rh2.put k3 (o:=.dic (Yk l)) ⟨pa.1.mono k3,pa.2⟩)
theorem sP:∀(ps:IPs) {X:Cx} {pos:Pos} {ks:List (Option Expr)} {vs:List Expr},Cok X G Φ->chkPs G ps X.env.scope X.N ks vs=true->PPs X pos ks vs (trOf X.K Φ ps)
 |.nil,X,pos,ks,vs,c,h=>by
  obtain⟨rfl,rfl⟩:=JR h;exact _mF
 |.cons k v r,X,pos,ks,vs,c,h=>by
  obtain⟨x,ks',y,vs',rfl,rfl,h1,h2,h3⟩:=JS h;exact _kk (sE k c h1).pe (sE v c h2).pe (sP r c h3)
theorem sA{G:GI}{Φ:List (Str×SpM)}:∀(ies:IEs) {X:Cx} {es:List Expr},Cok X G Φ->chkEs G ies X.env.scope X.N es=true->PA X es (liA X.K (wEs Φ ies))
 |.nil,X,es,c,h=>by
  cases es with
  |cons _ _=>cases Et h
  |nil=>
   refine pa_nil.weak λσ H Q hw=>?_;obtain⟨σm,M,rs,rh,hw⟩:=hw;exact hw _ _ (Kp.refl _) .nil rh
 |.cons a as,X,es,c,h=>by
  cases es with
  |nil=>cases h
  |cons x xs=>
   obtain⟨x',xs',e',h⟩:=Eu h;cases e';refine(WR (sE a c h.1).pe (sA as c h.2) (YE h.1)).weak λσ H Q hw=>?_;have:wEs Φ (.cons a as)=λσ M Q=>wE Φ a σ M λv M1=>wEs Φ as σ M1 λvs M2=>Q (v::vs) M2:=rfl;rw[this]at hw;exact _nm (te:=wE Φ a) (t:=wEs Φ as) (X9 c.mon a) (mon_es c.mon as) hw
theorem sO{G:GI}{Φ:List (Str×SpM)}:∀(io:IO) {X:Cx} {e:Option Expr},Cok X G Φ->chkO G io X.env.scope X.N e=true->PO X e (liO X.K (wO Φ io))
 |.none,X,e,c,h=>by
  cases e with
  |some _=>cases _hh h
  |none=>
   intro pins s σ H Q I hw;refine TK pins s σ H Q I ?_;obtain⟨σm,M,rs,rh,hw⟩:=hw;exact hw _ (Kp.refl _) rh
 |.some a,X,e,c,h=>by
  cases e with
  |none=>exact absurd h XE
  |some x=>
   obtain⟨x',e',h⟩:=_hg h;cases e';intro pins s σ H Q I hw;refine TL (sE a c h).pe pins s σ H Q I ?_;obtain⟨σm,M,rs,rh,hw⟩:=hw;refine⟨σm,M,rs,rh,X9 c.mon a (λv M1 ⟨i,e,q⟩=>?_) hw⟩;subst e;intro u H1 k1 r1 rh1;obtain rfl:=r1.inv;exact⟨i,rfl,q H1 k1 rh1⟩
theorem sI{G:GI}{Φ:List (Str×SpM)}:∀(io:IO) {X:Cx} {es:List Expr},Cok X G Φ->chkI G io X.env.scope X.N es=true->PTs X es (ttOf X.K Φ io)
 |.none,X,es,c,h=>by
  cases es with
  |cons _ _=>cases _hj h
  |nil=>exact .inl ⟨rfl,rfl⟩
 |.some a,X,es,c,h=>by
  obtain⟨x,rfl,h1,h2⟩:=_hi h;exact .inr ⟨x,rfl,(sE a c h2).pt h1⟩
theorem sSr{G:GI}{Φ:List (Str×SpM)}:∀(s:ISr) {X:Cx} {tg e:Expr},Cok X G Φ->chkSr G s X.env.scope X.N e=true->PI X tg e (liSr X (wSr Φ s))
 |.seq a,X,tg,e,c,h=>by
  refine(_mL (sE a c h).pe).weak λσ H R hw=>?_;obtain⟨σm,M,rs,rh,hw⟩:=hw;refine⟨σm,M,rs,rh,X9 c.mon a (λv M1 q=>?_) hw⟩;intro u H1 k1 r1 rh1;rcases q with⟨xs,e,q⟩|⟨b,xs,e,hb,q⟩|q|⟨z,e,q⟩
  ·rcases e with e|e
   ·subst e;obtain⟨_,_,rfl,h1,q1⟩:=r1.inv;exact .inl ⟨_,rfl,.inr (.inl ⟨_,SqT.of h1,q _ _ k1 rh1 (.inl ⟨_,_,h1,q1,rfl⟩)⟩)⟩
   ·subst e;obtain⟨_,_,rfl,h1,q1⟩:=r1.inv;exact .inl ⟨_,rfl,.inl ⟨_,h1.sq,q _ _ k1 rh1 (.inr ⟨_,_,h1,q1,rfl⟩)⟩⟩
  ·subst e;obtain rfl:=r1.inv;obtain⟨vs,e2,_⟩:=rh1.lst hb;exact .inl ⟨_,rfl,.inl ⟨_,SqL.of e2,q _ _ k1 rh1 rfl⟩⟩
  ·exact q.elim
  ·subst e;obtain rfl:=r1.inv;exact .inr ⟨z,rfl,q _ _ k1 rh1 rfl⟩
 |.rng a,X,tg,e,c,h=>by
  obtain⟨p,x,p2,rfl,h2,h3,h4⟩:=_nu h;refine(SD (UO h3).1 (c.bls _ h2) (WR (sE a c h4).pe pa_nil (YE h4)) (YE h4)).weak λσ H R hw=>?_;obtain⟨σm,M,rs,rh,hw⟩:=hw;refine⟨σm,M,rs,rh,X9 c.mon a (λv M1 ⟨j,e,q1,q2,q⟩=>?_) hw⟩;subst e;intro u H1 k1 r1 rh1;obtain rfl:=r1.inv;exact⟨j,rfl,q1,q2,q _ _ k1 rh1 rfl⟩
end
end L2
namespace L2
set_option genInjectivity false
set_option genCtorIdx false
open PySem PySem.Spec PyProof.Rows
mutual
inductive IS where
 |pass|brk|cnt|never
 |ret (e:IE)|retN
 |set (i:Nat) (e:IE)
 |asg (t:ITgs) (e:IE)
 |put (o i e:IE)
 |fset (c:Str) (o:IE) (f:Str) (e:IE)
 |expr (e:IE)
 |ite (c:IE) (a b:ISs)
 |for_ (t:ITg) (s:ISr) (b:ISs)
 |while_ (c:IE) (b:ISs)
inductive ISs where|nil|cons (s:IS) (r:ISs)
end
structure EndM where
 nx:Sm->MH->Prop
 rt:QM
mutual
def wS(Φ:List (Str×SpM)):IS->EndM->Sm->MH->Prop
 |.pass,D,σ,M=>D.nx σ M
 |.brk,_,_,_=>False
 |.cnt,_,_,_=>False
 |.never,_,_,_=>False
 |.ret e,D,σ,M=>wE Φ e σ M D.rt
 |.retN,D,_,M=>D.rt .non M
 |.set i e,D,σ,M=>wE Φ e σ M λv M1=>D.nx (σ.set i (some v)) M1
 |.asg t e,D,σ,M=>wE Φ e σ M λv M1=>∃xs,v=.tup xs/\wTgs t xs σ λσ'=>D.nx σ' M1
 |.put o i e,D,σ,M=>wE Φ e σ M λv M1=>wE Φ o σ M1 λx M2=>wE Φ i σ M2 λy M3=>wPut x y v M3 λM4=>D.nx σ M4
 |.fset c o f e,D,σ,M=>wE Φ e σ M λv M1=>wE Φ o σ M1 λx M2=>∃a fs,x=.ref a/\M2 a=some (.ins c fs)/\fs.length<1000/\D.nx σ (updM M2 a (.ins c (putM fs f v)))
 |.expr e,D,σ,M=>wE Φ e σ M λ_ M1=>D.nx σ M1
 |.ite c a b,D,σ,M=>wE Φ c σ M λx M1=>onB x λk=>(if k=true then wSs Φ a D σ M1 else wSs Φ b D σ M1)
 |.for_ t s b,D,σ,M=>wSr Φ s σ M λS M1=>∃J:Nat->Sm->MH->Prop,J 0 σ M1/\(∀i σ M,J i σ M->S.ok M)/\
   (∀i x σ M,S.items[i]?=some x->J i σ M->wTg t x σ λσ2=>wSs Φ b {nx:=J (i+1),rt:=λv M=>S.okT M/\D.rt v (S.thaw M)} σ2 M)/\∀σ M,J S.len σ M->D.nx σ (S.thaw M)
 |.while_ c b,D,σ,M=>∃J:Nat->Sm->MH->Prop,(∃m,J m σ M)/\∀m σ M,J m σ M->wE Φ c σ M λx M1=>∃k,x=.bl k/\
   (if k=true then wSs Φ b {nx:=λσ' M'=>∃m',m'<m/\J m' σ' M',rt:=D.rt} σ M1 else D.nx σ M1)
def wSs(Φ:List (Str×SpM)):ISs->EndM->Sm->MH->Prop
 |.nil,D,σ,M=>D.nx σ M
 |.cons s r,D,σ,M=>wS Φ s {nx:=λσ M=>wSs Φ r D σ M,rt:=D.rt} σ M
end
theorem K3{Φ:List (Str×SpM)}{c:IE}{a b:ISs}{D:EndM}{σ:Sm}{M:MH}:wS Φ (.ite c a b) D σ M=wE Φ c σ M λx M1=>∃k,x=.bl k/\(if k=true then wSs Φ a D σ M1 else wSs Φ b D σ M1):=by rw[wS];simp only[W9]
structure EndM.Le (D D':EndM):Prop where
 nx:∀σ M,D.nx σ M->D'.nx σ M
 rt:∀v M,D.rt v M->D'.rt v M
mutual
theorem EB{Φ:List (Str×SpM)}(hΦ:∀(j:Nat) f sp,Φ[j]?=some (f,sp)->MonW sp):∀(s:IS) {D D':EndM} {σ:Sm} {M:MH},D.Le D'->wS Φ s D σ M->wS Φ s D' σ M
 |.pass,D,D',σ,M,l,h=>by exact l.nx _ _ h
 |.brk,D,D',σ,M,l,h=>h.elim
 |.cnt,D,D',σ,M,l,h=>h.elim
 |.never,D,D',σ,M,l,h=>h.elim
 |.ret e,D,D',σ,M,l,h=>by exact X9 hΦ e l.rt h
 |.retN,D,D',σ,M,l,h=>by exact l.rt _ _ h
 |.set i e,D,D',σ,M,l,h=>by exact X9 hΦ e (λv M1 h1=>l.nx _ _ h1) h
 |.asg t e,D,D',σ,M,l,h=>by exact X9 hΦ e (λv M1 ⟨xs,e,h1⟩=>⟨xs,e,mon_tgs t (λσ' h2=>l.nx _ _ h2) h1⟩) h
 |.put o i e,D,D',σ,M,l,h=>by
  exact X9 hΦ e (λv M1 h1=>X9 hΦ o (λx M2 h2=>X9 hΦ i (λy M3 h3=>JD (λM4 h4=>l.nx _ _ h4) h3) h2) h1) h
 |.fset c o f e,D,D',σ,M,l,h=>by
  exact X9 hΦ e (λv M1 h1=>X9 hΦ o (λx M2 ⟨a,fs,e1,e2,e3,h2⟩=>⟨a,fs,e1,e2,e3,l.nx _ _ h2⟩) h1) h
 |.expr e,D,D',σ,M,l,h=>by exact X9 hΦ e (λv M1 h1=>l.nx _ _ h1) h
 |.ite c a b,D,D',σ,M,l,h=>by
  rw[K3]at h ⊢;exact X9 hΦ c (λx M1 ⟨k,e,h1⟩=>⟨k,e,YR (mon_ss hΦ a l) (mon_ss hΦ b l) h1⟩) h
 |.for_ t s b,D,D',σ,M,l,h=>by
  refine mon_sr hΦ s (λS M1 ⟨J,j0,j1,j2,j3⟩=>⟨J,j0,j1,λi x σ M hx hj=>?_,λσ M hj=>l.nx _ _ (j3 σ M hj)⟩) h;exact Vg t (λσ2 h2=>by refine mon_ss hΦ b ?_ h2;exact⟨λ_ _ z=>z,λ_ _ z=>⟨z.1,l.rt _ _ z.2⟩⟩) (j2 i x σ M hx hj)
 |.while_ c b,D,D',σ,M,l,h=>by
  obtain⟨J,j0,j1⟩:=h;refine⟨J,j0,λm σ M hj=>X9 hΦ c (λx M1 ⟨k,e,h1⟩=>⟨k,e,YR (λz=>by refine mon_ss hΦ b ?_ z;exact⟨λ_ _ z=>z,l.rt⟩) (l.nx _ _) h1⟩) (j1 m σ M hj)⟩
theorem mon_ss{Φ:List (Str×SpM)}(hΦ:∀(j:Nat) f sp,Φ[j]?=some (f,sp)->MonW sp):∀(s:ISs) {D D':EndM} {σ:Sm} {M:MH},D.Le D'->wSs Φ s D σ M->wSs Φ s D' σ M
 |.nil,D,D',σ,M,l,h=>by exact l.nx _ _ h
 |.cons s r,D,D',σ,M,l,h=>by
  refine EB hΦ s ?_ h;exact⟨λσ M h1=>mon_ss hΦ r l h1,l.rt⟩
end
theorem _q3{Φ:List (Str×SpM)}(hΦ:∀(j:Nat) f sp,Φ[j]?=some (f,sp)->MonW sp) {s:IS} {r:ISs} {D:EndM} {σ:Sm} {M:MH} (P:Sm->MH->Prop) (h1:wS Φ s {nx:=P,rt:=D.rt} σ M) (h2:∀σ M,P σ M->wSs Φ r D σ M):wSs Φ (.cons s r) D σ M:=by
 refine EB hΦ s ?_ h1;exact⟨h2,λ_ _ z=>z⟩
def K4:Expr->Bool
 |.Tuple ..=>false|_=>true
def Ae:Expr->Bool
 |.ListComp ..=>false|.SetComp ..=>false|.DictComp ..=>false|_=>true
def K5:Stmt->Option (Option Expr)|.Return v _=>some v|_=>none
def Af:Stmt->Option (List Expr×Expr)|.Assign ts v _=>some (ts,v)|_=>none
def asEx:Stmt->Option Expr|.Expr v _=>some v|_=>none
def K6:Stmt->Option (Expr×List Stmt×List Stmt)|.If t x y _=>some (t,x,y)|_=>none
def K7:Stmt->Option (Expr×Expr×List Stmt×List Stmt)|.For t i b r _=>some (t,i,b,r)|_=>none
def asWh:Stmt->Option (Expr×List Stmt×List Stmt)|.While t b r _=>some (t,b,r)|_=>none
section
variable{e:Stmt}
theorem _l6{x:Option Expr}(h:K5 e=some x):∃p,e=.Return x p:=by revert h;cases e<;>first|exact nos|(intro h;cases h;exact⟨_,rfl⟩)
theorem CL{x:List Expr×Expr}(h:Af e=some x):∃p,e=.Assign x.1 x.2 p:=by revert h;cases e<;>first|exact nos|(intro h;cases h;exact⟨_,rfl⟩)
theorem _o9{x:Expr}(h:asEx e=some x):∃p,e=.Expr x p:=by revert h;cases e<;>first|exact nos|(intro h;cases h;exact⟨_,rfl⟩)
theorem _l8{x:Expr×List Stmt×List Stmt}(h:K6 e=some x):∃p,e=.If x.1 x.2.1 x.2.2 p:=by revert h;cases e<;>first|exact nos|(intro h;cases h;exact⟨_,rfl⟩)
theorem _l9{x:Expr×Expr×List Stmt×List Stmt}(h:K7 e=some x):∃p,e=.For x.1 x.2.1 x.2.2.1 x.2.2.2 p:=by revert h;cases e<;>first|exact nos|(intro h;cases h;exact⟨_,rfl⟩)
theorem _o7{x:Expr×List Stmt×List Stmt}(h:asWh e=some x):∃p,e=.While x.1 x.2.1 x.2.2 p:=by revert h;cases e<;>first|exact nos|(intro h;cases h;exact⟨_,rfl⟩)
end
mutual
def chkS(G:GI)(sc:Scope)(N:List Str):IS->Stmt->Bool
 |.pass,_=>false
 |.brk,_=>false
 |.cnt,_=>false
 |.never,_=>true
 |.ret e,s=>(K5 s).any λo=>o.any λx=>chkE G e sc N x
 |.retN,_=>false
 |.set i e,s=>(Af s).any λq=>(the1 q.1).any λt=>(YX t).any λx=>decide (N[i]?=some x)&&locB sc x&&chkE G e sc N q.2
 |.asg t e,s=>(Af s).any λq=>(the1 q.1).any λg=>(Wb g).any λes=>chkTgs sc N N.length true t es&&chkE G e sc N q.2&&K4 q.2
 |.put o i e,s=>(Af s).any λq=>(the1 q.1).any λt=>(Wc t).any λa=>chkE G o sc N a.1&&chkE G i sc N a.2&&A5 a.2&&chkE G e sc N q.2
 |.fset c o f e,s=>(Af s).any λq=>(the1 q.1).any λt=>(Vi t).any λa=>decide (a.2.1=f)&&G.cls.contains (c,f)&&chkE G o sc N a.1&&chkE G e sc N q.2
 |.expr e,s=>(asEx s).any λv=>chkE G e sc N v&&Ae v
 |.ite c a b,s=>(K6 s).any λq=>tok c&&chkE G c sc N q.1&&chkSs G sc N a q.2.1&&chkSs G sc N b q.2.2
 |.for_ t r b,s=>(K7 s).any λq=>Zd sc N N.length true t q.1&&chkSr G r sc N q.2.1&&A6 q.2.1&&chkSs G sc N b q.2.2.1&&non0 q.2.2.2
 |.while_ c b,s=>(asWh s).any λq=>tok c&&chkE G c sc N q.1&&chkSs G sc N b q.2.1&&non0 q.2.2
def chkSs(G:GI)(sc:Scope)(N:List Str):ISs->List Stmt->Bool
 |.nil,l=>non0 l
 |.cons s r,l=>(hd1 l).any λq=>chkS G sc N s q.1&&chkSs G sc N r q.2
end
def liD(K:X4)(H:Hp)(D:Ends):EndM where
 nx:=λσm M=>∀σ H',Kp H H'->RS K H' σm σ->RH K M H'->D.nx σ H'
 rt:=Dn K H D.rt
theorem liD.on{K:X4}{H H1:Hp}{D:Ends}(k:Kp H H1):(liD K H D).Le (liD K H1 D):=
 ⟨λ_ _ h σ H' k'=>h σ H' (k.trans k'),λ_ _ h=>h.on k⟩
def liSt(K:X4)(t:EndM->Sm->MH->Prop):TS:=λD σ H=>∃σm M,RS K H σm σ/\RH K M H/\t (liD K H D) σm M
theorem _hQ{e:Expr}{x:Str}{p:Pos}{ln:Nat}{env:Env}(h:Ae e=true):Zw e (some (.Name x p)) ln env=pure false:=by cases e<;>first|rfl|cases h
theorem _hP{e:Expr}{ln:Nat}{env:Env}(h:Ae e=true):Zw e none ln env=pure false:=by cases e<;>first|rfl|cases h
theorem _k3{e:Expr}{es:List Expr}{k:Nat}{p:Pos}{ln:Nat}{env:Env}:Zw e (some (.Tuple es k p)) ln env=pure false:=by cases e<;>rfl
theorem _k5{e a:Expr}{f:Str}{p:Pos}{ln:Nat}{env:Env}:Zw e (some (.Attribute a f p)) ln env=pure false:=by cases e<;>rfl
theorem _k4{e a b:Expr}{p:Pos}{ln:Nat}{env:Env}:Zw e (some (.Subscript a b p)) ln env=pure false:=by cases e<;>rfl
theorem _hR{elt:Expr}{gs:List Comprehension}{scope:Scope}{pos p:Pos}{x:Str}{ln:Nat}{env:Env}:∃b:Bool,Zw (.ListComp elt gs scope pos) (some (.Name x p)) ln env=pure b:=⟨_,rfl⟩
theorem _nU{G:GI}{ie:IE}{sc:Scope}{N:List Str}{e:Expr}(h:chkE G ie sc N e=true):Ae e=true\/∃own fr src tg test elt,ie=.comp own fr src tg test elt:=by
 revert h;cases e<;>first
  |exact λ_=>.inl rfl
  |(cases ie<;>first
    |exact nob
    |exact λ_=>.inr ⟨_,_,_,_,_,_,rfl⟩)
section
variable{G:GI}{sc:Scope}{N:List Str}{st:Stmt}
theorem _kQ{e:IE}(h:chkS G sc N (.ret e) st=true):∃x p,st=.Return (some x) p/\chkE G e sc N x=true:=by
 replace h:=Xg h;obtain⟨o,h1,h⟩:=h;obtain⟨p,rfl⟩:=_l6 h1;replace h:=Xg h;obtain⟨x,rfl,h⟩:=h;exact⟨x,p,rfl,h⟩
theorem _kP{i:Nat}{e:IE}(h:chkS G sc N (.set i e) st=true):∃x px v p,st=.Assign [.Name x px] v p/\N[i]?=some x/\locB sc x=true/\chkE G e sc N v=true:=by
 replace h:=Xg h;obtain⟨⟨ts,v⟩,h1,h⟩:=h;obtain⟨p,rfl⟩:=CL h1;replace h:=Xg h;obtain⟨t,h2,h⟩:=h;obtain rfl:=_r h2;replace h:=Xg h;obtain⟨x,h3,h⟩:=h;obtain⟨px,rfl⟩:=_c h3;replace h:=Xd h;obtain⟨h,h6⟩:=h;replace h:=Xd h;obtain⟨h4,h5⟩:=h;exact⟨x,px,v,p,rfl,XL h4,h5,h6⟩
theorem _kU{t:ITgs}{e:IE}(h:chkS G sc N (.asg t e) st=true):∃es k pt v p,st=.Assign [.Tuple es k pt] v p/\chkTgs sc N N.length true t es=true/\chkE G e sc N v=true/\K4 v=true:=by
 replace h:=Xg h;obtain⟨⟨ts,v⟩,h1,h⟩:=h;obtain⟨p,rfl⟩:=CL h1;replace h:=Xg h;obtain⟨g,h2,h⟩:=h;obtain rfl:=_r h2;replace h:=Xg h;obtain⟨es,h3,h⟩:=h;obtain⟨k,pt,rfl⟩:=CH h3;replace h:=Xd h;obtain⟨h,h6⟩:=h;replace h:=Xd h;obtain⟨h4,h5⟩:=h;exact⟨es,k,pt,v,p,rfl,h4,h5,h6⟩
theorem _kR{o i e:IE}(h:chkS G sc N (.put o i e) st=true):∃a b pt v p,st=.Assign [.Subscript a b pt] v p/\chkE G o sc N a=true/\chkE G i sc N b=true/\A5 b=true/\chkE G e sc N v=true:=by
 replace h:=Xg h;obtain⟨⟨ts,v⟩,h1,h⟩:=h;obtain⟨p,rfl⟩:=CL h1;replace h:=Xg h;obtain⟨g,h2,h⟩:=h;obtain rfl:=_r h2;replace h:=Xg h;obtain⟨⟨a,b⟩,h3,h⟩:=h;obtain⟨pt,rfl⟩:=CI h3;replace h:=Xd h;obtain⟨h,h7⟩:=h;replace h:=Xd h;obtain⟨h,h6⟩:=h;replace h:=Xd h;obtain⟨h4,h5⟩:=h;exact⟨a,b,pt,v,p,rfl,h4,h5,h6,h7⟩
theorem _iP{c f:Str}{o e:IE}(h:chkS G sc N (.fset c o f e) st=true):∃a pt v p,st=.Assign [.Attribute a f pt] v p/\G.cls.contains (c,f)=true/\chkE G o sc N a=true/\chkE G e sc N v=true:=by
 replace h:=Xg h;obtain⟨⟨ts,v⟩,h1,h⟩:=h;obtain⟨p,rfl⟩:=CL h1;replace h:=Xg h;obtain⟨g,h2,h⟩:=h;obtain rfl:=_r h2;replace h:=Xg h;obtain⟨⟨a,nm,pt⟩,h3,h⟩:=h;obtain rfl:=Ac h3;simp only[XW]at h;obtain⟨⟨⟨a1,a2⟩,a3⟩,a4⟩:=h;obtain rfl:=XL a1;exact⟨a,pt,v,p,rfl,a2,a3,a4⟩
theorem _iQ{e:IE}(h:chkS G sc N (.expr e) st=true):∃v p,st=.Expr v p/\chkE G e sc N v=true/\Ae v=true:=by
 replace h:=Xg h;obtain⟨v,h1,h⟩:=h;obtain⟨p,rfl⟩:=_o9 h1;exact⟨v,p,rfl,Xd h⟩
theorem _kS{c:IE}{a b:ISs}(h:chkS G sc N (.ite c a b) st=true):∃t x y p,st=.If t x y p/\tok c=true/\chkE G c sc N t=true/\chkSs G sc N a x=true/\chkSs G sc N b y=true:=by
 replace h:=Xg h;obtain⟨⟨t,x,y⟩,h1,h⟩:=h;obtain⟨p,rfl⟩:=_l8 h1;replace h:=Xd h;obtain⟨h,h5⟩:=h;replace h:=Xd h;obtain⟨h,h4⟩:=h;replace h:=Xd h;obtain⟨h2,h3⟩:=h;exact⟨t,x,y,p,rfl,h2,h3,h4,h5⟩
theorem _kT{t:ITg}{s:ISr}{b:ISs}(h:chkS G sc N (.for_ t s b) st=true):∃tg it body p,st=.For tg it body [] p/\Zd sc N N.length true t tg=true/\chkSr G s sc N it=true/\A6 it=true/\chkSs G sc N b body=true:=by
 replace h:=Xg h;obtain⟨⟨tg,it,body,els⟩,h1,h⟩:=h;obtain⟨p,rfl⟩:=_l9 h1;replace h:=Xd h;obtain⟨h,h6⟩:=h;replace h:=Xd h;obtain⟨h,h5⟩:=h;replace h:=Xd h;obtain⟨h,h4⟩:=h;replace h:=Xd h;obtain⟨h2,h3⟩:=h;obtain rfl:=Yl h6;exact⟨tg,it,body,p,rfl,h2,h3,h4,h5⟩
theorem _hl{c:IE}{b:ISs}(h:chkS G sc N (.while_ c b) st=true):∃t body p,st=.While t body [] p/\tok c=true/\chkE G c sc N t=true/\chkSs G sc N b body=true:=by
 replace h:=Xg h;obtain⟨⟨tg,body,els⟩,h1,h⟩:=h;obtain⟨p,rfl⟩:=_o7 h1;replace h:=Xd h;obtain⟨h,h5⟩:=h;replace h:=Xd h;obtain⟨h,h4⟩:=h;replace h:=Xd h;obtain⟨h2,h3⟩:=h;obtain rfl:=Yl h5;exact⟨tg,body,p,rfl,h2,h3,h4⟩
theorem _iO{sts:List Stmt}(h:chkSs G sc N .nil sts=true):sts=[]:=by
 exact Yl h
theorem _hk{s:IS}{r:ISs}{sts:List Stmt}(h:chkSs G sc N (.cons s r) sts=true):∃x xs,sts=x::xs/\chkS G sc N s x=true/\chkSs G sc N r xs=true:=by
 replace h:=Xg h;obtain⟨⟨x,xs⟩,h1,h⟩:=h;exact⟨x,xs,U8 h1,Xd h⟩
end
mutual
theorem sS{G:GI}{Φ:List (Str×SpM)}:∀(is:IS) {X:Cx} {st:Stmt},Cok X G Φ->(∀x,X.fn x=true)->chkS G X.env.scope X.N is st=true->PS X st (liSt X.K (wS Φ is))
 |.pass,X,st,c,hf,h=>absurd h XE
 |.brk,X,st,c,hf,h=>absurd h XE
 |.cnt,X,st,c,hf,h=>absurd h XE
 |.never,X,st,c,hf,h=>by
  refine ps_never.weak λD σ H hw=>?_;obtain⟨σm,M,rs,rh,hw⟩:=hw;exact hw
 |.ret e,X,st,c,hf,h=>by
  obtain⟨v,p,rfl,h⟩:=_kQ h;refine(Sk (sE e c h).pe).weak λD σ H hw=>?_;obtain⟨σm,M,rs,rh,hw⟩:=hw;exact⟨σm,M,rs,rh,hw⟩
 |.retN,X,st,c,hf,h=>absurd h XE
 |.set i e,X,st,c,hf,h=>by
   obtain⟨x,px,v,p,rfl,h1,h2,h3⟩:=_kP h;have rd:∀D σ H,liSt X.K (wS Φ (.set i e)) D σ H->liE X.K (wE Φ e) σ H λv H1=>D.nx (σ.set i (some v)) H1:=λD σ H hw=>by
    obtain⟨σm,M,rs,rh,hw⟩:=hw;refine⟨σm,M,rs,rh,X9 c.mon e (λv M1 q=>?_) hw⟩;intro u H1 k1 r1 rh1;exact q _ _ k1 ((rs.mono k1).set r1 i) rh1
   rcases _nU h3 with hn|⟨own,fr,src,tg,test,elt,rfl⟩
   ·exact(HU c.nd h1 (CJ h2) (sE e c h3).pe (_hQ hn) (.inl (hf _))).weak rd
   ·obtain⟨y,t,it,ifs,scope,p3,rfl,i1,i2,i3,i4,i5,i6,i7⟩:=JQ h3;obtain⟨b,hb⟩:=_hR (elt:=y) (gs:=[⟨t,it,ifs,0⟩]) (scope:=scope) (pos:=p3) (p:=px) (x:=x) (ln:=p.line) (env:=X.env);cases b with
    |false=>exact(HU c.nd h1 (CJ h2) (sE _ c h3).pe hb (.inl (hf _))).weak rd
    |true=>
     refine(_fj own fr (g:=gOf X.K tg) (te:=liE X.K (wE Φ elt)) (tt:=ttOf X.K Φ test) c.nd h1 (CJ h2) (λe s h=>by rw[c.nox]at h;exact h) c.calm i1 (sSr src (tg:=t) c i4)
      (λC fp s₃ H₃=>sTg (X:=cxC X scope own fr C fp s₃ H₃) (lim:=own.length) (all:=false) c.calm i3 (λz=>by cases z) tg i5) (λC fp s₃ H₃=>sI (X:=cxC X scope own fr C fp s₃ H₃) test (c.comp (W3 i1).kind i3) i6)
      (λC fp s₃ H₃=>(sE (X:=cxC X scope own fr C fp s₃ H₃) elt (c.comp (W3 i1).kind i3) i7).pe) hb (EA i2 _) (.inl (hf _))).thaw.weak λD σ H hw=>?_
     exact JX c.mon i5 (rd D σ H hw)
 |.asg t e,X,st,c,hf,h=>by
   obtain⟨es,k,pt,v,p,rfl,h1,h2,h3⟩:=_kU h;have hT:Zd X.env.scope X.N X.N.length true (.tup t) (.Tuple es k pt)=true:=h1;refine(HS (sE e c h2).pe (sTg (lim:=X.N.length) (all:=true) c.calm c.nd (λ_=>hf) (.tup t) hT) (_k3 (e:=v) (es:=es) (k:=k) (p:=pt) (ln:=p.line) (env:=X.env)) (by cases v<;>first|rfl|cases h3) rfl).weak λD σ H hw=>?_
   obtain⟨σm,M,rs,rh,hw⟩:=hw;refine⟨σm,M,rs,rh,X9 c.mon e (λv M1 ⟨xs,e,q⟩=>?_) hw⟩;intro u H1 k1 r1 rh1;refine CK (Ψ:=λ_=>True) (lim:=X.N.length) (λ_ _ _ _ z=>z) (.tup t) hT r1 (rs.mono k1) trivial (P:=λσ'=>(liD X.K H D).nx σ' M1) ⟨xs,e,q⟩ λσm' σ' q' rs' _=>?_;exact q' _ _ k1 rs' rh1
 |.put o i e,X,st,c,hf,h=>by
   obtain⟨a,b,pt,v,p,rfl,h1,h2,h3,h4⟩:=_kR h;have hg:PG X (.Subscript a b pt) (gSub (liE X.K (wE Φ o)) (liE X.K (wE Φ i)) (JE X.K)):=Su (sE o c h1).pe (sE i c h2).pe (_mj (by have:=c.room;lia)) (by intro v;cases b<;>first|rfl|cases h3)
   refine(HS (sE e c h4).pe hg (_k4 (e:=v) (a:=a) (b:=b) (p:=pt) (ln:=p.line) (env:=X.env)) rfl rfl).weak λD σ H hw=>?_;obtain⟨σm,M,rs,rh,hw⟩:=hw;refine⟨σm,M,rs,rh,X9 c.mon e (λv M1 q1=>?_) hw⟩;intro u H1 k1 r1 rh1;refine⟨σm,M1,rs.mono k1,rh1,X9 c.mon o (λx M2 q2=>?_) q1⟩;intro u2 H2 k2 r2 rh2;refine⟨σm,M2,rs.mono (k1.trans k2),rh2,X9 c.mon i (λy M3 q3=>?_) q2⟩;intro u3 H3 k3 r3 rh3;refine⟨x,y,v,M3,r2.mono k3,r3,r1.mono (k2.trans k3),rh3,JD (λM4 q4=>?_) q3⟩;intro H4 k4 rh4;have kk:=k1.trans (k2.trans (k3.trans k4));exact q4 _ _ kk (rs.mono kk) rh4
 |.fset cn o f e,X,st,c,hf,h=>by
  obtain⟨a,pt,v,p,rfl,h1,h2,h3⟩:=_iP h;obtain⟨C,hC,cl,na⟩:=c.cls cn f h1;refine(Ti (sE o c h2).pe (sE e c h3).pe _k5).weak λD σ H hw=>?_;obtain⟨σm,M,rs,rh,hw⟩:=hw;refine⟨σm,M,rs,rh,X9 c.mon e (λv M1 q1=>?_) hw⟩;intro u H1 k1 r1 rh1;refine⟨σm,M1,rs.mono k1,rh1,X9 c.mon o (λx M2 ⟨b,fs,e1,e2,e3,q2⟩=>?_) q1⟩;subst e1;intro u2 H2 k2 r2 rh2;obtain rfl:=r2.inv;obtain⟨C',dx,vs,g1,g2,g3⟩:=rh2.ins e2;rw[hC]at g2;cases g2;have k3:=Kp.upd g1 rfl (.ins C dx (putF f u vs));have kk:=k1.trans (k2.trans k3);refine⟨b,C,dx,vs,rfl,g1,cl,na,by rw[<- g3.length];exact e3,?_⟩
  exact q2 _ _ kk (rs.mono kk) (rh2.put k3 (o:=.ins cn (putM fs f v)) ⟨hC,(Jd (r1.mono k2) g3).mono k3⟩)
 |.expr e,X,st,c,hf,h=>by
  obtain⟨v,p,rfl,h1,h2⟩:=_iQ h;refine(Sj (sE e c h1).pe (_hP h2)).weak λD σ H hw=>?_;obtain⟨σm,M,rs,rh,hw⟩:=hw;refine⟨σm,M,rs,rh,X9 c.mon e (λv M1 q=>?_) hw⟩;intro u H1 k1 r1 rh1;exact q _ _ k1 (rs.mono k1) rh1
 |.ite d a b,X,st,c,hf,h=>by
  obtain⟨t,x,y,p,rfl,h1,h2,h3,h4⟩:=_kS h;refine(Sl ((sE d c h2).pt h1) (sSs a c hf h3) (sSs b c hf h4)).weak λD σ H hw=>?_;obtain⟨σm,M,rs,rh,hw⟩:=hw;rw[K3]at hw;refine⟨σm,M,rs,rh,X9 c.mon d (λx M1 ⟨k,e,q⟩=>⟨k,e,λH1 k1 rh1=>?_⟩) hw⟩;exact YR (λq=>⟨σm,M1,rs.mono k1,rh1,mon_ss c.mon a (liD.on k1) q⟩) (λq=>⟨σm,M1,rs.mono k1,rh1,mon_ss c.mon b (liD.on k1) q⟩) q
 |.for_ t s b,X,st,c,hf,h=>by
   obtain⟨tg,it,body,p,rfl,h1,h2,h3,h4⟩:=_kT h;refine(SF (by rw[c.nox];exact PassesOwn.never) c.calm (sSr s (tg:=tg) c h2) (sTg (lim:=X.N.length) (all:=true) c.calm c.nd (λ_=>hf) t h1) (sSs b c hf h4) (EA h3 _)).thaw.weak λD σ H hw=>?_
   obtain⟨σm,M,rs,rh,hw⟩:=hw;refine⟨σm,M,rs,rh,mon_sr c.mon s (λS M1 ⟨J,j0,j1,j2,j3⟩=>?_) hw⟩;intro I H1 k1 rh1 sit;refine⟨λi m σ' H'=>m=S.len - i/\i≤S.len/\Kp H1 H'/\∃σm' M',RS X.K H' σm' σ'/\RH X.K M' H'/\J i σm' M',⟨_,rfl,YH _,Kp.refl _,σm,M1,rs.mono k1,rh1,j0⟩,?_⟩;rintro i m σ2 H2 ⟨rfl,hi,k2,σm2,M2,rs2,rh2,hj⟩;obtain⟨goes,stops⟩:=JW sit k2 rh2 (j1 i σm2 M2 hj);by_cases hlt:i<S.len
   ·obtain⟨go,yld⟩:=goes i hlt;refine .inr ⟨go,λσ' H'=>Kp H1 H'/\∃σm' M',RS X.K H' σm' σ'/\RH X.K M' H'/\J (i+1) σm' M',λσ' H' ⟨a,z⟩=>⟨S.len - (i+1),by lia,rfl,hlt,a,z⟩,λx H' y=>?_⟩
    obtain⟨e,m,hm,rm⟩:=yld x H' y;subst e;refine CK (Ψ:=λ_=>True) (lim:=X.N.length) (λ_ _ _ _ z=>z) t h1 rm rs2 trivial (j2 i m σm2 M2 hm hj) λσm3 σ3 q rs3 _=>?_;refine⟨σm3,M2,rs3,rh2,?_⟩;refine mon_ss c.mon b ?_ q;refine⟨λσ' M' z σv H3 k3 rs' rh'=>⟨k2.trans k3,σ',M',rs',rh',z⟩,λv M' z u H3 k3 r3 rh'=>?_⟩
    ·obtain⟨H4,th,k4,rh4⟩:=Ez sit rh' z.1;exact⟨H4,th,z.2 u H4 (k1.trans (k2.trans (k3.trans k4))) (r3.mono k4) rh4⟩
   ·have e:i=S.len:=by lia
    subst e;obtain⟨H4,th,k4,rh4⟩:=Ez sit rh2 (JV (j1 _ σm2 M2 hj));exact .inl ⟨stops _ (Xe _),H4,th,j3 σm2 M2 hj _ _ (k1.trans (k2.trans k4)) (rs2.mono k4) rh4⟩
 |.while_ d b,X,st,c,hf,h=>by
   obtain⟨tst,body,p,rfl,h1,h2,h3⟩:=_hl h;refine(Sw (by rw[c.nox];exact PassesOwn.never) ((sE d c h2).pt h1) (sSs b c hf h3)).weak λD σ H hw=>?_
   obtain⟨σm,M,rs,rh,hw⟩:=hw;obtain⟨J,⟨m0,j0⟩,j1⟩:=hw;refine⟨λm σ' H'=>Kp H H'/\∃σm' M',RS X.K H' σm' σ'/\RH X.K M' H'/\J m σm' M',⟨m0,Kp.refl _,σm,M,rs,rh,j0⟩,?_⟩;rintro m σ2 H2 ⟨k2,σm2,M2,rs2,rh2,hj⟩;refine⟨σm2,M2,rs2,rh2,X9 c.mon d (λx M1 ⟨k,e,q⟩=>⟨k,e,λH3 k3 rh3=>?_⟩) (j1 m σm2 M2 hj)⟩;refine YR (λq=>?_) (λq=>q _ _ (k2.trans k3) (rs2.mono k3) rh3) q;refine⟨λσ' H'=>∃m',m'<m/\Kp H H'/\∃σm' M',RS X.K H' σm' σ'/\RH X.K M' H'/\J m' σm' M',λσ' H' z=>z,σm2,M1,rs2.mono k3,rh3,?_⟩;refine mon_ss c.mon b ?_ q;refine⟨?_,λv M' z=>z.on (k2.trans k3)⟩
   ·rintro σ' M' ⟨m',hm,z⟩ σv H4 k4 rs' rh';exact⟨m',hm,k2.trans (k3.trans k4),σ',M',rs',rh',z⟩
theorem sSs{G:GI}{Φ:List (Str×SpM)}:∀(is:ISs) {X:Cx} {sts:List Stmt},Cok X G Φ->(∀x,X.fn x=true)->chkSs G X.env.scope X.N is sts=true->PSs X sts (liSt X.K (wSs Φ is))
 |.nil,X,sts,c,hf,h=>by
   cases _iO h;refine pss_nil.weak λD σ H hw=>?_;obtain⟨σm,M,rs,rh,hw⟩:=hw;exact hw σ H (Kp.refl _) rs rh
 |.cons s r,X,sts,c,hf,h=>by
   obtain⟨x,xs,rfl,h1,h2⟩:=_hk h;refine(Sh (sS s c hf h1) (sSs r c hf h2)).weak λD σ H hw=>?_;obtain⟨σm,M,rs,rh,hw⟩:=hw;refine⟨σm,M,rs,rh,?_⟩;refine EB c.mon s ?_ hw;refine⟨λσ' M' z σv H1 k1 rs' rh'=>?_,λv M' z=>z⟩;exact⟨σ',M',rs',rh',mon_ss c.mon r (liD.on k1) z⟩
end
end L2
namespace L2
open PySem PySem.Spec PyProof.Rows
structure Fts (P:Xv) (w:Xn) (K:X4) (mg:Str->Option X0) (base:Heap) (k:Nat) (G:GI) (Φ:List (Str×SpM)):Prop where
 bls:∀x,G.bl.contains x=true->mg x=none
 gls:∀x i,G.gl.lookup x=some i->∃tk,mg x=some (.int i tk)
 fnn:∀(j:Nat) f,G.fns[j]?=some f->∃sp,Φ[j]?=some (f,sp)
 mon:∀(j:Nat) f sp,Φ[j]?=some (f,sp)->MonW sp
 fns:∀(j:Nat) f sp,G.fns[j]?=some f->Φ[j]?=some (f,sp)->∃fa fd ps,FnOk P w K mg base CX0 k fa fd ps (liSp K sp)/\mg f=some (.ref fa)/\XZ K (.ref fa)=true/\Binds K fd ps []
 mts:∀(j:Nat) c m,G.mts.contains (j,c,m)=true->∃f sp,Φ[j]?=some (f,sp)/\∃C fa fd ps,FnOk P w K mg base CX0 k fa fd ps (liSp K sp)/\Xy K Xp c=some (some (.ref C))/\Cls K C/\Meth K C m fa/\Binds K fd ps []
 mks:∀(j:Nat) c,G.mks.contains (j,c)=true->∃f sp,Φ[j]?=some (f,sp)/\∃k' C fa fd ps,k'+1≤k/\FnOk P w K mg base CX0 k' fa fd ps (liSp K sp)/\Xy K Xp c=some (some (.ref C))/\mg c=some (.ref C)/\Mk K C fa/\Binds K fd ps []
 cls:∀c f,G.cls.contains (c,f)=true->∃C,Xy K Xp c=some (some (.ref C))/\Cls K C/\NoAttr K C f
def Ag(n:Nat)(vs:List MV):Sm:=vs.map some++Xj (n - vs.length) none
theorem _k6{K:X4}(r:RMs K H ms vs):RS K H (Ag N.length ms) (ZH N vs):=by
 unfold Ag ZH;have hl:=r.length;refine⟨by simp[hl],λi m e=>?_⟩
 by_cases hi:i<ms.length
 ·rw[Zz (by simpa using hi),Xr]at e
  cases q:ms[i]? with
  |none=>rw[q]at e;cases e
  |some x=>
   rw[q]at e;have ex:x=m:=Y7 (Y7 e);subst ex;obtain⟨u,hu,ru⟩:=r.get q;exact⟨u,by rw[Zz (by simpa [<- hl]using hi),Xr,hu];rfl,ru⟩
 ·rw[Zh (by simpa using hi),GY]at e
  split at e<;>cases e
theorem Fun.okM{K:X4}{st:Stmt}{k:Nat}
  (F:Fun K x qual st f fd) (S:FnScope N ps (X5 st)) (T:Fts P w K mg base k G Φ) (ir:ISs) (hc:chkSs G (X5 st) N ir (Xf st)=true)
  (len:∀vs M Q,sp vs M Q->vs.length=ps.length) (h:∀vs M Q,sp vs M Q->wSs Φ ir {nx:=λ_ M'=>Q .non M',rt:=Q} (Ag N.length vs) M):FnOk P w K mg base CX0 (k+1) f fd ps (liSp K sp):=by
 refine F.ok S (λvs H Q E hs=>?_) λcdv A outer s H vs Q E hr hs=>?_
 ·obtain⟨ms,M,r,rh,q⟩:=hs;rw[<- r.length];exact len _ _ _ q
 obtain⟨ms,M,r,rh,q⟩:=hs;have c:Cok (cxOf CX0 P w K mg base N qual (X5 st) f cdv A outer s H E).nox G Φ:=
  ⟨(by have:=hr.un;show(A.deeper _).units+70<cLine;lia),rfl,rfl,(by show(if(X5 st).kind.isAnnotationScope then HH else(X5 st).kind)=.function;rw[S.kind];rfl),S.nd,T.bls,T.gls,T.fnn,T.mon,
   (λj f sp hg hj=>let⟨fa,fd,ps,F,hm,hk,hb⟩:=T.fns j f sp hg hj;⟨k,fa,fd,ps,hr,F,hm,hk,hb⟩),
   (λj c m h=>let⟨f,sp,hj,C,fa,fd,ps,F,hC,cl,hm,hb⟩:=T.mts j c m h;⟨f,sp,hj,k,C,fa,fd,ps,hr,F,hC,cl,hm,hb⟩),
   (λj c h=>let⟨f,sp,hj,k',C,fa,fd,ps,hk,F,hC,hm,mk1,hb⟩:=T.mks j c h;⟨f,sp,hj,k',C,fa,fd,ps,hr.mono hk,F,hC,hm,mk1,hb⟩),T.cls⟩
 refine⟨_,sSs ir c (λ_=>rfl) hc,Ag N.length ms,M,_k6 r,rh,?_⟩;refine mon_ss T.mon ir ?_ (h ms M _ q);exact⟨λσ M' z σv H' k1 rs' rh'=>z _ _ k1 .non rh',λv M' z=>z⟩
def K8:SpM:=λvs M Q=>∃ns:List Int,vs=[.frl (ns.map .int)]/\ns.length≤63/\∀M',Q (.bl true) M'
def CM(K:X4):Sp:=λvs H Q _=>∃(a:Addr) (ns:List Int),vs=[.ref a]/\FrL K H a (ns.map V.int)/\ns.length≤63/\∀H',Q (.bl true) H'
theorem _nn{K:X4}{k:Nat}(F:FnOk P w K mg base CX0 k f fd ps (liSp K K8)):FnOk P w K mg base CX0 k f fd ps (CM K):=
 F.imp λvs H Q E ⟨a,ns,e,hs,hl,q⟩=>by
  subst e;refine⟨[.frl (ns.map .int)],λ_=>none,.cons (.frl hs (RMs.ints ns)) .nil,λ_ _ z=>(by cases z),ns,rfl,hl,λM'=>?_⟩
  intro v H' k r rh;cases r;exact q _
theorem _pX{K:X4}(o:Only H)(h:SqL K H a vs):FrL K H a vs:=by
 rcases h with(h|⟨ob,h⟩)|h
 ·rcases o a with z|⟨ob,xs,z⟩
  ·rw[h]at z;cases z
  ·rw[h]at z;cases z
 ·exact .inl ⟨ob,h⟩
 ·exact .inr h
theorem _pD{K:X4}{k:Nat}(hb:∀x∈G.bl,mg x=none)(hg:∀p∈G.gl,∃tk,mg p.1=some (.int p.2 tk))(hf:Φ.map (·.1)=G.fns)
  (hm:∀p∈Φ++Ψ,MonW p.2) (hF:∀p∈Φ,∃fa fd ps,FnOk P w K mg base CX0 k fa fd ps (liSp K p.2)/\mg p.1=some (.ref fa)/\XZ K (.ref fa)=true/\Binds K fd ps [])
  (ht:∀q∈G.mts,∃f sp,(Φ++Ψ)[q.1]?=some (f,sp)/\∃C fa fd ps,FnOk P w K mg base CX0 k fa fd ps (liSp K sp)/\Xy K Xp q.2.1=some (some (.ref C))/\Cls K C/\Meth K C q.2.2 fa/\Binds K fd ps [])
  (hk:∀q∈G.mks,∃f sp,(Φ++Ψ)[q.1]?=some (f,sp)/\∃k' C fa fd ps,k'+1≤k/\FnOk P w K mg base CX0 k' fa fd ps (liSp K sp)/\Xy K Xp q.2=some (some (.ref C))/\mg q.2=some (.ref C)/\Mk K C fa/\Binds K fd ps [])
  (hc:∀q∈G.cls,∃C,Xy K Xp q.1=some (some (.ref C))/\Cls K C/\NoAttr K C q.2):Fts P w K mg base k G (Φ++Ψ)where
 bls:=λx h=>hb x (by simpa using h)
 gls:=λx i h=>hg (x,i) (VR h)
 fnn:=λj f h=>by
  rw[<- hf,Xr]at h;cases e:Φ[j]? with
  |none=>rw[e]at h;cases h
  |some p=>rw[e]at h;cases h;exact⟨p.2,by rw[Zz (XG.mp e).1,e]⟩
 mon:=λj f sp h=>hm (f,sp) (Xw h)
 fns:=λj f sp hj h=>by
  rw[<- hf,Xr]at hj;cases e:Φ[j]? with
  |none=>rw[e]at hj;cases hj
  |some p=>
   rw[Zz (XG.mp e).1,e]at h;cases h;exact hF (f,sp) (Xw e)
 mts:=λj c m h=>ht (j,c,m) (by simpa using h)
 mks:=λj c h=>hk (j,c) (by simpa using h)
 cls:=λc f h=>hc (c,f) (by simpa using h)
theorem Ua{K:X4}{k:Nat}(e:Φ++Ψ=Χ)(hb:∀x∈G.bl,mg x=none)(hg:∀p∈G.gl,∃tk,mg p.1=some (.int p.2 tk))(hf:Φ.map (·.1)=G.fns)
  (hm:∀p∈Χ,MonW p.2) (hF:∀p∈Φ,∃fa fd ps,FnOk P w K mg base CX0 k fa fd ps (liSp K p.2)/\mg p.1=some (.ref fa)/\XZ K (.ref fa)=true/\Binds K fd ps [])
  (ht:∀q∈G.mts,∃f sp,Χ[q.1]?=some (f,sp)/\∃C fa fd ps,FnOk P w K mg base CX0 k fa fd ps (liSp K sp)/\Xy K Xp q.2.1=some (some (.ref C))/\Cls K C/\Meth K C q.2.2 fa/\Binds K fd ps [])
  (hk:∀q∈G.mks,∃f sp,Χ[q.1]?=some (f,sp)/\∃k' C fa fd ps,k'+1≤k/\FnOk P w K mg base CX0 k' fa fd ps (liSp K sp)/\Xy K Xp q.2=some (some (.ref C))/\mg q.2=some (.ref C)/\Mk K C fa/\Binds K fd ps [])
  (hc:∀q∈G.cls,∃C,Xy K Xp q.1=some (some (.ref C))/\Cls K C/\NoAttr K C q.2):Fts P w K mg base k G Χ:=by
 subst e;exact _pD hb hg hf hm hF ht hk hc
structure Fn1 (K:X4) (x:Str) (st:Stmt) (f:Addr) (d:Xi):Prop where
 a:Xy K Xp x=some (some (.ref f))
 F:Fun K x x st f d
structure FnT (K:X4) (mg:Str->Option X0) (x:Str) (ps:List Str) (st:Stmt) (f:Addr) (d:Xi):Prop where
 F:Fun K x x st f d
 b:Binds K d ps []
 m:mg x=some (.ref f)
theorem Fn1.t{K:X4}{st:Stmt}(H:Fn1 K x st f d)(X:K.In h)(G:h.Ns Xp mg)
  (b:∀(kV doc pm:X0) (an:Option Addr) (cdv ct:X0) (us:List X0),us.length=ps.length->bindArgs (Yd x x (Ys st) (Xf st) (X5 st) .none kV doc pm an cdv ct) ⟨us,[]⟩=pure (ps.zip us)):FnT K mg x ps st f d:=⟨H.F,H.F.binds b,Yx X G H.a⟩
theorem Fn1.bt{K:X4}{st:Stmt}(H:Fn1 K x st f d)
  (r:∀(kV doc pm:X0) (an:Option Addr) (cdv ct v:X0),bindArgs (Yd x x (Ys st) (Xf st) (X5 st) .none kV doc pm an cdv ct) ⟨[v],[]⟩=pure [(y,v)]) (s:X2) (v:X0):BindsTo s d ⟨[v],[]⟩ [(y,v)]:=by
 obtain⟨_,_,kV,doc,pm,an,cdv,ct,_,rfl,_⟩:=H.F.ex;exact .of_eq (r kV doc pm an cdv ct v)
theorem us0{p:List X0->Prop}(h:p [])(us:List X0)(hl:us.length=0):p us:=by cases us with|nil=>exact h|cons _ _=>cases hl
theorem us1{p:List X0->Prop}(h:∀a0,p [a0])(us:List X0)(hl:us.length=1):p us:=by cases us with|nil=>cases hl|cons a r=>exact us0 (p:=λr=>p (a::r)) (h a) r (WO hl)
theorem us2{p:List X0->Prop}(h:∀a0 a1,p [a0,a1])(us:List X0)(hl:us.length=2):p us:=by cases us with|nil=>cases hl|cons a r=>exact us1 (p:=λr=>p (a::r)) (h a) r (WO hl)
theorem us3{p:List X0->Prop}(h:∀a0 a1 a2,p [a0,a1,a2])(us:List X0)(hl:us.length=3):p us:=by cases us with|nil=>cases hl|cons a r=>exact us2 (p:=λr=>p (a::r)) (h a) r (WO hl)
theorem us4{p:List X0->Prop}(h:∀a0 a1 a2 a3,p [a0,a1,a2,a3])(us:List X0)(hl:us.length=4):p us:=by cases us with|nil=>cases hl|cons a r=>exact us3 (p:=λr=>p (a::r)) (h a) r (WO hl)
theorem us5{p:List X0->Prop}(h:∀a0 a1 a2 a3 a4,p [a0,a1,a2,a3,a4])(us:List X0)(hl:us.length=5):p us:=by cases us with|nil=>cases hl|cons a r=>exact us4 (p:=λr=>p (a::r)) (h a) r (WO hl)
section
variable{M:MH}{Q:QM}{i j:Int}{x y:MV}{a b:Addr}
theorem _ri:wBin .Add (.int i) (.int j) M Q=Q (.int (i+j)) M:=rfl
theorem _qN:wBin .Sub (.int i) (.int j) M Q=Q (.int (i - j)) M:=rfl
theorem _r6:wBin .Mult (.int i) (.int j) M Q=(CMul i j/\Q (.int (i*j)) M):=rfl
theorem _p0:wBin .FloorDiv (.int i) (.int j) M Q=(WY i j/\Q (.int (i/j)) M):=rfl
theorem _r7:wBin .Mod (.int i) (.int j) M Q=(0<j/\Q (.int (i%j)) M):=rfl
theorem _qY:wBin .Pow (.int i) (.int j) M Q=(CPow i j/\Q (.int (i^j.toNat)) M):=rfl
theorem _qT:wBin .LShift (.int i) (.int j) M Q=(CPow i j/\Q (.int (i*2^j.toNat)) M):=rfl
theorem _rg:wBin .BitAnd (.int i) (.int j) M Q=Q (.int (Cl i j)) M:=rfl
theorem _qB:wBin .BitXor (.int i) (.int j) M Q=Q (.int (Cm i j)) M:=rfl
theorem _p4{x y:Str}:wBin .Add (.str x) (.str y) M Q=(x.length+y.length≤sizeLine/\Q (.str (x++y)) M):=rfl
theorem _oN{x:Str}:wBin .Mult (.str x) (.int i) M Q=(x.length≤16/\ -1000≤i/\i≤1000/\Q (.str (Txt.mul x i)) M):=rfl
theorem _p3:wBin .Add (.tup xs) (.tup ys) M Q=(xs≠ []/\xs.length+ys.length≤sizeLine/\Q (.tup (xs++ys)) M):=rfl
theorem _oM:wBin .Mult (.tup xs) (.int i) M Q=(xs≠ []/\1≤i/\xs.length*i.toNat≤1000000/\Q (.tup (Xj i.toNat xs).flatten) M):=rfl
theorem _oO:wBin .Mult (.ref a) (.int i) M Q=∃xs,M a=some (.lst xs)/\ -(2^63)≤i/\i<2^63/\xs.length*i.toNat≤sizeLine/\∀p,M p=none->Q (.ref p) (updM M p (.lst (Xj i.toNat xs).flatten)):=rfl
theorem q_lt:wCmp .Lt (.int i) (.int j) M Q=Q (.bl (decide (i<j))) M:=propext ⟨fun⟨_,_,e,f,h⟩=>by cases e;cases f;exact h,λh=>⟨i,j,rfl,rfl,h⟩⟩
theorem q_le:wCmp .LtE (.int i) (.int j) M Q=Q (.bl (decide (i≤j))) M:=propext ⟨λh=>Or.elim h (fun⟨_,_,e,f,h⟩=>by cases e;cases f;exact h) (fun⟨_,_,e,_⟩=>nomatch e),λh=>Or.inl ⟨i,j,rfl,rfl,h⟩⟩
theorem _r8{x y:Str}:wCmp .LtE (.str x) (.str y) M Q=Q (.bl (!decide (y.cps.toList<x.cps.toList))) M:=propext ⟨λh=>Or.elim h (fun⟨_,_,e,_⟩=>nomatch e) (fun⟨_,_,e,f,h⟩=>by cases e;cases f;exact h),λh=>Or.inr ⟨x,y,rfl,rfl,h⟩⟩
theorem q_gt:wCmp .Gt (.int i) (.int j) M Q=Q (.bl (decide (j<i))) M:=propext ⟨fun⟨_,_,e,f,h⟩=>by cases e;cases f;exact h,λh=>⟨i,j,rfl,rfl,h⟩⟩
theorem _re:wCmp .Eq (.int i) (.int j) M Q=Q (.bl (decide (i=j))) M:=rfl
theorem _r5:wCmp .NotEq (.int i) (.int j) M Q=Q (.bl (!decide (i=j))) M:=rfl
theorem _rd{x y:Str}:wCmp .Eq (.str x) (.str y) M Q=Q (.bl (decide (x=y))) M:=rfl
theorem _r3{x y:Str}:wCmp .NotEq (.str x) (.str y) M Q=Q (.bl (!decide (x=y))) M:=rfl
theorem q_is:wCmp .Is x .non M Q=Q (.bl (UN x)) M:=propext ⟨λh=>Or.elim h (λh=>h.2) (fun⟨_,e,_⟩=>nomatch e),λh=>Or.inl ⟨rfl,h⟩⟩
theorem _mz:wCmp .IsNot x .non M Q=Q (.bl (!UN x)) M:=propext ⟨λh=>Or.elim h (λh=>h.2) (fun⟨_,e,_⟩=>nomatch e),λh=>Or.inl ⟨rfl,h⟩⟩
theorem _r4:wCmp .NotEq (.ref a) y M Q=wEq (.ref a) y M λb=>Q (.bl (!b)) M:=rfl
theorem q_in:wCmp .In x y M Q=wIn x y M λb=>Q (.bl b) M:=rfl
theorem _r2:wCmp .NotIn x y M Q=wIn x y M λb=>Q (.bl (!b)) M:=rfl
theorem K9{k:Bool->Prop}(h:M a=some (.lst xs))(hb:M b=some (.lst []))(q:k xs.isEmpty):wEq (.ref a) (.ref b) M k:=.inr (.inl ⟨a,b,xs,rfl,rfl,h,hb,q⟩)
theorem _kZ{k:Bool->Prop}(n:eqS x y=none)(h:Alike M m x y)(le:m≤60)(q:k true):wEq x y M k:=by
 unfold wEq;rw[n];exact .inl ⟨m,le,h,q⟩
theorem Alike.flat(n:Nat)(f:YJ x=true):Alike M n x x:=by
 cases n<;>rw[Alike]
 ·exact⟨f,rfl⟩
 ·exact .inl ⟨f,rfl⟩
theorem Alike.tup(e:xs.length=ys.length)(h:∀(i:Nat) u v,xs[i]?=some u->ys[i]?=some v->Alike M n u v):Alike M (n+1) (.tup xs) (.tup ys):=by
 rw[Alike];exact .inr (.inl ⟨xs,ys,rfl,rfl,e,h⟩)
theorem Alike.lst(h1:LstM M x xs)(h2:LstM M y ys)(e:xs.length=ys.length)(h:∀(i:Nat) u v,xs[i]?=some u->ys[i]?=some v->Alike M n u v):Alike M (n+1) x y:=by
 rw[Alike];exact .inr (.inr (.inl ⟨xs,ys,h1,h2,e,h⟩))
def ixO(o:Option MO)(y:MV)(M:MH)(Q:QM):Prop:=match o with
 |some (.lst xs)=>∃i v,y=.int i/\atI xs i=some v/\Q v M
 |some (.dic kvs)=>∃kk v,keyM y=some kk/\valM kvs kk=some v/\Q v M
 |some (.fdic _ kvs)=>∃kk v,keyM y=some kk/\valM kvs kk=some v/\Q v M
 |_=>False
theorem Ka:wIx (.ref a) y M Q=ixO (M a) y M Q:=propext ⟨λh=>by
  rcases h with⟨xs,i,v,e,r⟩|⟨kvs,kk,v,e,r⟩|⟨o,kvs,kk,v,e,r⟩
  ·rw[e];exact⟨i,v,r⟩
  ·rw[e];exact⟨kk,v,r⟩
  ·rw[e];exact⟨kk,v,r⟩,λh=>by
  cases e:M a with
  |none=>rw[e]at h;exact h.elim
  |some o=>
   rw[e]at h;cases o with
   |lst xs=>obtain⟨i,v,r⟩:=h;exact .inl ⟨xs,i,v,e,r⟩
   |dic kvs=>obtain⟨kk,v,r⟩:=h;exact .inr (.inl ⟨kvs,kk,v,e,r⟩)
   |ins _ _=>exact h.elim
   |fdic o kvs=>obtain⟨kk,v,r⟩:=h;exact .inr (.inr ⟨o,kvs,kk,v,e,r⟩)⟩
theorem Kb:ixO (some (.lst xs)) (.int i) M Q=∃v,atI xs i=some v/\Q v M:=propext ⟨fun⟨_,v,e,h⟩=>by cases e;exact⟨v,h⟩,fun⟨v,h⟩=>⟨i,v,rfl,h⟩⟩
theorem _mx{kvs:List (Key×MV)}{x:Str}:ixO (some (.dic kvs)) (.str x) M Q=∃v,valM kvs (Xm x)=some v/\Q v M:=propext ⟨fun⟨_,v,e,h⟩=>by cases e;exact⟨v,h⟩,fun⟨v,h⟩=>⟨_,v,rfl,h⟩⟩
theorem Kc:wIx (.tup xs) (.int i) M Q=∃v,atI xs i=some v/\Q v M:=propext ⟨fun⟨_,v,e,h⟩=>by cases e;exact⟨v,h⟩,fun⟨v,h⟩=>⟨i,v,rfl,h⟩⟩
theorem _ra:wIx (.frl xs) (.int i) M Q=∃v,atI xs i=some v/\Q v M:=propext ⟨fun⟨_,v,e,h⟩=>by cases e;exact⟨v,h⟩,fun⟨v,h⟩=>⟨i,v,rfl,h⟩⟩
theorem _r9:wIx (.str z) (.int i) M Q=(z.length≤sizeLine/\∃c,atI z.cps.toList i=some c/\Q (.str ⟨#[c]⟩) M):=propext ⟨fun⟨_,c,e,h1,h2⟩=>by cases e;exact⟨h1,c,h2⟩,fun⟨h1,c,h2⟩=>⟨i,c,rfl,h1,h2⟩⟩
theorem _qS{lo:Option Int}:wSl (.frl xs) lo hi M Q=∀p,M p=none->Q (.ref p) (updM M p (.lst (cutM xs lo hi))):=rfl
theorem _qR{lo:Option Int}:wSl (.tup xs) lo hi M Q=Q (.tup (cutM xs lo hi)) M:=rfl
theorem _oR:wBi .len [.tup xs] M Q=Q (.int xs.length) M:=rfl
theorem _oU:wBi .len [.frl xs] M Q=Q (.int xs.length) M:=rfl
theorem _oS:wBi .len [.str z] M Q=(z.length≤sizeLine/\Q (.int z.length) M):=rfl
def lenO(o:Option MO)(M:MH)(Q:QM):Prop:=match o with
 |some (.lst xs)=>Q (.int xs.length) M
 |some (.dic kvs)=>Q (.int kvs.length) M
 |_=>False
theorem _oT:wBi .len [.ref a] M Q=lenO (M a) M Q:=propext ⟨λh=>by
  rcases h with⟨xs,e,h⟩|⟨kvs,e,h⟩<;>(rw[e];exact h),λh=>by
  cases e:M a with
  |none=>rw[e]at h;exact h.elim
  |some o=>
   rw[e]at h;cases o with
   |lst xs=>exact .inl ⟨xs,e,h⟩
   |dic kvs=>exact .inr ⟨kvs,e,h⟩
   |ins _ _=>exact h.elim
   |fdic _ _=>exact h.elim⟩
theorem _mw:lenO (some (.lst xs)) M Q=Q (.int xs.length) M:=rfl
def isO(o:Option Ty7)(c:Ty7)(M:MH)(Q:QM):Prop:=match o with
 |some T=>c≠.none/\Q (.bl (isTy T c)) M
 |none=>False
theorem _rb:wBi .isinst [x,.ty c] M Q=isO (tyM M x) c M Q:=propext (by
 have e:wBi .isinst [x,.ty c] M Q=∃T,tyM M x=some T/\c≠.none/\Q (.bl (isTy T c)) M:=by cases x<;>rfl
 rw[e];exact⟨fun⟨T,e,h⟩=>by rw[e];exact h,λh=>by
  cases e:tyM M x with
  |none=>rw[e]at h;exact h.elim
  |some T=>rw[e]at h;exact⟨T,rfl,h⟩⟩)
def isO2(o:Option Ty7)(c d:Ty7)(M:MH)(Q:QM):Prop:=match o with
 |some T=>c≠.none/\d≠.none/\Q (.bl (isTy T c||isTy T d)) M
 |none=>False
theorem _oY:wBi .isinst [x,.tup [.ty c,.ty d]] M Q=isO2 (tyM M x) c d M Q:=propext (by
 have e:wBi .isinst [x,.tup [.ty c,.ty d]] M Q=∃T,tyM M x=some T/\c≠.none/\d≠.none/\Q (.bl (isTy T c||isTy T d)) M:=by cases x<;>rfl
 rw[e];exact⟨fun⟨T,e,h⟩=>by rw[e];exact h,λh=>by
  cases e:tyM M x with
  |none=>rw[e]at h;exact h.elim
  |some T=>rw[e]at h;exact⟨T,rfl,h⟩⟩)
theorem _my:isO2 (some T) c d M Q=(c≠.none/\d≠.none/\Q (.bl (isTy T c||isTy T d)) M):=rfl
theorem _oX:isO (some T) c M Q=(c≠.none/\Q (.bl (isTy T c)) M):=rfl
theorem _qF:tyM M (.int i)=some .int:=rfl
theorem _qD{k:Str}:tyM M (.str k)=some .str:=rfl
theorem _qC:tyM M (.tup xs)=some .tuple:=rfl
noncomputable def tyO:Option MO->Option Ty7
 |some (.lst _)=>some .list
 |some (.dic _)=>some .dict
 |_=>none
theorem _qE:tyM M (.ref a)=tyO (M a):=by
 cases e:M a with
 |none=>simp[tyM,tyO,e]
 |some o=>cases o<;>simp[tyM,tyO,e]
theorem _oG:tyO (some (.lst xs))=some .list:=rfl
theorem _rh:wBi .all [.ref a] M Q=∃bs:List Bool,M a=some (.lst (bs.map MV.bl))/\Q (.bl (bs.all id)) M:=rfl
theorem _mB:wBi .dictL [.ref a] M Q=∃ps:List (Key×MV),M a=some (.lst (ps.map prM))/\∀p,M p=none->Q (.ref p) (updM M p (.dic (Yk ps))):=rfl
theorem _mu:wBi .list [.tup xs] M Q=∀p,M p=none->Q (.ref p) (updM M p (.lst xs)):=rfl
theorem _mv:wBi .list [.ref a] M Q=∃xs,M a=some (.lst xs)/\∀p,M p=none->Q (.ref p) (updM M p (.lst xs)):=rfl
theorem _oH:wBi .tuple [.ref a] M Q=∃xs,M a=some (.lst xs)/\Q (.tup xs) M:=rfl
theorem _mA:wBi .dict [.tup xs] M Q=∃ps:List (Key×MV),xs=ps.map prM/\∀p,M p=none->Q (.ref p) (updM M p (.dic (Yk ps))):=rfl
theorem _p1:wBi .dict [.ref a] M Q=∃kvs,M a=some (.dic kvs)/\∀p,M p=none->Q (.ref p) (updM M p (.dic kvs)):=rfl
def apO(o:Option MO)(a:Addr)(y:MV)(M:MH)(Q:QM):Prop:=match o with
 |some (.lst xs)=>xs.length<sizeLine/\Q .non (updM M a (.lst (xs++[y])))
 |_=>False
theorem _rf:wMts .append (.ref a) [y] M Q=apO (M a) a y M Q:=propext ⟨fun⟨xs,e,h⟩=>by rw[e];exact h,λh=>by
  cases e:M a with
  |none=>rw[e]at h;exact h.elim
  |some o=>
   rw[e]at h;cases o with
   |lst xs=>exact⟨xs,e,h⟩
   |dic kvs=>exact h.elim
   |ins _ _=>exact h.elim
   |fdic _ _=>exact h.elim⟩
theorem _p2:apO (some (.lst xs)) a y M Q=(xs.length<sizeLine/\Q .non (updM M a (.lst (xs++[y])))):=rfl
theorem _rc:wMts .extend (.ref a) [.ref b] M Q=∃xs,M a=some (.lst xs)/\∃ys,M b=some (.lst ys)/\xs.length+ys.length≤sizeLine/\Q .non (updM M a (.lst (xs++ys))):=rfl
theorem _oL:mtOk .append x M=(∃a xs,x=.ref a/\M a=some (.lst xs)):=rfl
theorem _oK:mtOk .extend x M=(∃a xs,x=.ref a/\M a=some (.lst xs)):=rfl
def puO(o:Option MO)(a:Addr)(i v:MV)(M:MH)(Q:MH->Prop):Prop:=match o with
 |some (.lst xs)=>∃k j,i=.int k/\ixN xs.length k=some j/\Q (updM M a (.lst (xs.set j v)))
 |some (.dic kvs)=>∃kk,keyM i=some kk/\kvs.length<sizeLine/\Q (updM M a (.dic (putM kvs kk v)))
 |_=>False
theorem _qX:wPut (.ref a) x v M R=puO (M a) a x v M R:=propext ⟨λh=>by
  rcases h with⟨xs,k,j,e,r⟩|⟨kvs,kk,e,r⟩
  ·rw[e];exact⟨k,j,r⟩
  ·rw[e];exact⟨kk,r⟩,λh=>by
  cases e:M a with
  |none=>rw[e]at h;exact h.elim
  |some o=>
   rw[e]at h;cases o with
   |lst xs=>obtain⟨k,j,r⟩:=h;exact .inl ⟨xs,k,j,e,r⟩
   |dic kvs=>obtain⟨kk,r⟩:=h;exact .inr ⟨kvs,kk,e,r⟩
   |ins _ _=>exact h.elim
   |fdic _ _=>exact h.elim⟩
theorem _oJ:puO (some (.lst xs)) a (.int i) v M R=∃j,ixN xs.length i=some j/\R (updM M a (.lst (xs.set j v))):=propext ⟨fun⟨_,j,e,h⟩=>by cases e;exact⟨j,h⟩,fun⟨j,h⟩=>⟨i,j,rfl,h⟩⟩
theorem _mt:puO (some (.dic kvs)) a (.str z) v M R=(kvs.length<sizeLine/\R (updM M a (.dic (putM kvs (Xm z) v)))):=propext ⟨fun⟨_,e,h⟩=>by cases e;exact h,λh=>⟨_,rfl,h⟩⟩
def srO(o:Option MO)(a:Addr)(M:MH)(Q:Src->MH->Prop):Prop:=match o with
 |some (.lst xs)=>Q (.lst a xs) M
 |_=>False
def srV(v:MV)(M:MH)(Q:Src->MH->Prop):Prop:=(∃xs,(v=.tup xs\/v=.frl xs)/\Q (.tup xs) M)\/(∃a xs,v=.ref a/\M a=some (.lst xs)/\Q (.lst a xs) M)\/False\/∃z,v=.str z/\Q (.str z) M
theorem _qU:wSr Φ (.seq e) σ M R=wE Φ e σ M λv M1=>srV v M1 R:=rfl
theorem _qQ:srV (.ref a) M R=srO (M a) a M R:=propext ⟨λh=>by
  rcases h with⟨xs,e,h⟩|⟨b,xs,e,f,h⟩|h|⟨z,e,_⟩
  ·rcases e with e|e<;>cases e
  ·cases e;rw[f];exact h
  ·exact h.elim
  ·exact(nomatch e),λh=>by
  cases e:M a with
  |none=>rw[e]at h;exact h.elim
  |some o=>
   rw[e]at h;cases o with
   |lst xs=>exact .inr (.inl ⟨a,xs,rfl,e,h⟩)
   |dic kvs=>exact h.elim
   |ins _ _=>exact h.elim
   |fdic _ _=>exact h.elim⟩
theorem _qP:srV (.str z) M R=R (.str z) M:=propext ⟨λh=>by
  rcases h with⟨xs,e,h⟩|⟨_,_,e,_⟩|h|⟨_,e,h⟩
  ·rcases e with e|e<;>exact(nomatch e)
  ·exact(nomatch e)
  ·exact h.elim
  ·cases e;exact h,λh=>.inr (.inr (.inr ⟨z,rfl,h⟩))⟩
theorem _qI:Src.thaw M (.tup xs)=M:=rfl
theorem _qH:Src.thaw M (.lst a xs)=M:=rfl
theorem _qG:Src.thaw M (.rng i n)=M:=rfl
theorem _r1:Src.okT M (.tup xs)=True:=rfl
theorem _r0:Src.okT M (.lst a xs)=True:=rfl
theorem _qZ:Src.okT M (.rng i n)=True:=rfl
theorem _oI:srO (some (.lst xs)) a M R=R (.lst a xs) M:=rfl
theorem _qO:srV (.tup zs) M R=R (.tup zs) M:=propext ⟨λh=>by
  rcases h with⟨xs,e,h⟩|h
  ·rcases e with e|e
   ·cases e;exact h
   ·exact nomatch e
  ·rcases h with⟨_,_,e,_⟩|h|⟨_,e,_⟩<;>first|exact h.elim|exact(nomatch e),λh=>.inl ⟨zs,.inl rfl,h⟩⟩
def rgV(v:MV)(M:MH)(Q:Src->MH->Prop):Prop:=∃j,v=.int j/\ -(2^62)≤j/\j<2^62/\Q (.rng 0 j.toNat) M
theorem _qV:wSr Φ (.rng e) σ M R=wE Φ e σ M λv M1=>rgV v M1 R:=rfl
theorem _qW:rgV (.int i) M R=(-(2^62)≤i/\i<2^62/\R (.rng 0 i.toNat) M):=propext ⟨fun⟨_,e,h⟩=>by cases e;exact h,λh=>⟨i,rfl,h⟩⟩
theorem _oQ:wBi .max [.int i,.int j] M Q=Q (.int (if j>i then j else i)) M:=rfl
theorem _oP:wBi .min [.int i,.int j] M Q=Q (.int (if j<i then j else i)) M:=rfl
theorem _oZ{k:Bool}:wBi .int [.bl k] M Q=Q (.int (if k then 1 else 0)) M:=rfl
end
theorem v_s{k:MV->Prop}:onV (some (some v)) k=k v:=rfl
theorem b_0{k:Bool->Prop}:onB (.bl b) k=k b:=rfl
theorem f_s{k:SpM->Prop}:onF (some (f,sp)) k=k sp:=rfl
theorem _rz:wE Φ (.var i) σ M Q=onV σ[i]? (λv=>Q v M):=rfl
theorem _rG:wE Φ (.int i) σ M Q=(Q (.int i) M):=rfl
theorem _rB:wE Φ (.str x) σ M Q=(Q (.str x) M):=rfl
theorem e_bl:wE Φ (.bl b) σ M Q=(Q (.bl b) M):=rfl
theorem _rD:wE Φ (.non) σ M Q=(Q .non M):=rfl
theorem _rI:wE Φ (.glb x i) σ M Q=(Q (.int i) M):=rfl
theorem e_ty:wE Φ (.ty c) σ M Q=(Q (.ty c) M):=rfl
theorem _rN:wE Φ (.bin op a b) σ M Q=(wE Φ a σ M λx M1=>wE Φ b σ M1 λy M2=>wBin op x y M2 Q):=rfl
theorem _rE:wE Φ (.neg a) σ M Q=(wE Φ a σ M λx M1=>∃i,x=.int i/\Q (.int (-i)) M1):=rfl
theorem _rC:wE Φ (.not a) σ M Q=(wE Φ a σ M λx M1=>onB x λb=>Q (.bl (!b)) M1):=rfl
theorem _rL:wE Φ (.cmp op a b) σ M Q=(wE Φ a σ M λx M1=>wE Φ b σ M1 λy M2=>wCmp op x y M2 Q):=rfl
theorem _rM:wE Φ (.chn op op' a b c) σ M Q=(wE Φ a σ M λx M1=>wE Φ b σ M1 λy M2=>wCmp op x y M2 λz M3=>onB z λk=>(if k=true then wE Φ c σ M3 λw M4=>wCmp op' y w M4 Q else Q (.bl false) M3)):=rfl
theorem _rO:wE Φ (.and a b) σ M Q=(wE Φ a σ M λx M1=>onB x λc=>(if c=true then wE Φ b σ M1 Q else Q (.bl false) M1)):=rfl
theorem e_or:wE Φ (.or a b) σ M Q=(wE Φ a σ M λx M1=>onB x λc=>(if c=true then Q (.bl true) M1 else wE Φ b σ M1 Q)):=rfl
theorem _rH:wE Φ (.ife c a b) σ M Q=(wE Φ c σ M λx M1=>onB x λk=>(if k=true then wE Φ a σ M1 Q else wE Φ b σ M1 Q)):=rfl
theorem _rA:wE Φ (.tup es) σ M Q=(wEs Φ es σ M λvs M1=>vs.length≤sizeLine/\Q (.tup vs) M1):=rfl
theorem _rF:wE Φ (.lst es) σ M Q=(wEs Φ es σ M λvs M1=>vs.length≤sizeLine/\∀p,M1 p=none->Q (.ref p) (updM M1 p (.lst vs))):=rfl
theorem _rK{Φ:List (Str×SpM)}{σ:Sm}{M:MH}{Q:QM}:wE Φ (.dic) σ M Q=(∀p,M p=none->Q (.ref p) (updM M p (.dic []))):=rfl
theorem e_ix:wE Φ (.ix a b) σ M Q=(wE Φ a σ M λx M1=>wE Φ b σ M1 λy M2=>wIx x y M2 Q):=rfl
theorem e_sl{lo:IO}:wE Φ (.sl a lo hi) σ M Q=(wE Φ a σ M λx M1=>wO Φ lo σ M1 λl M2=>wO Φ hi σ M2 λh M3=>wSl x l h M3 Q):=rfl
theorem _q1:wE Φ (.call j e es) σ M Q=(wE Φ e σ M λv M1=>wEs Φ es σ M1 λvs M2=>onF Φ[j]? λsp=>sp (v::vs) M2 Q):=rfl
theorem e_b2:wE Φ (.b2 f e) σ M Q=(wE Φ e σ M λv M1=>wB2 f v M1 Q):=rfl
theorem e_bi:wE Φ (.bi f e es) σ M Q=(wE Φ e σ M λv M1=>wEs Φ es σ M1 λvs M2=>wBi f (v::vs) M2 Q):=rfl
theorem e_mt:wE Φ (.mt m o es) σ M Q=(wE Φ o σ M λx M1=>mtOk m x M1/\wEs Φ es σ M1 λvs M2=>wMts m x vs M2 Q):=rfl
theorem _rJ:wE Φ (.fld c o f) σ M Q=(wE Φ o σ M λx M1=>∃a fs v,x=.ref a/\M1 a=some (.ins c fs)/\valM fs f=some v/\Q v M1):=rfl
theorem _nS:wE Φ (.mcall j c m o es) σ M Q=(wE Φ o σ M λx M1=>∃a fs,x=.ref a/\M1 a=some (.ins c fs)/\valM fs m=none/\wEs Φ es σ M1 λvs M2=>∃f sp,Φ[j]?=some (f,sp)/\sp (.ref a::vs) M2 Q):=rfl
theorem _pZ:wE Φ (.make j c e es) σ M Q=(wE Φ e σ M λv M1=>wEs Φ es σ M1 λvs M2=>∃f sp,Φ[j]?=some (f,sp)/\∀p,M2 p=none->sp (.ref p::v::vs) (updM M2 p (.ins c [])) λu M3=>u=.non/\Q (.ref p) M3):=rfl
theorem _q0{Φ:List (Str×SpM)}{σ:Sm}{M:MH}{Q:QM}{ps:IPs}:wE Φ (.disp ps) σ M Q=(∀p,M p=none->wPs Φ ps σ (updM M p (.dic [])) λl M2=>M2 p=some (.dic [])/\l.length≤15/\Q (.ref p) (updM M2 p (.dic (Yk l)))):=rfl
theorem CN{own:List Str}{fr:List Nat}:wE Φ (.comp own fr src tg test elt) σ M Q=(wSr Φ src σ M λS M1=>S.len<sizeLine/\∀D,M1 D=none->∃J:Nat->List MV->MH->Prop,J 0 [] (updM M1 D (.lst []))/\
   (∀i ys M2,J i ys M2->M2 D=some (.lst ys)/\ys.length≤i/\S.ok M2)/\
   (∀i x ys M2,S.items[i]?=some x->J i ys M2->wTg tg x (sCm own fr σ) λσ2=>wI Φ test σ2 M2 λb M4=>
    if b=true then wE Φ elt σ2 M4 λy M5=>M5 D=some (.lst ys)/\J (i+1) (ys++[y]) (updM M5 D (.lst (ys++[y])))else J (i+1) ys M4)/\
   ∀ys M2,J S.len ys M2->Q (.ref D) (S.thaw M2)):=rfl
theorem CO{M M':MH}{S:Src}(h:S.okF M):S.thaw M'=M':=by
 cases S<;>first|rfl|exact h.elim
theorem _L{own:List Str}{fr:List Nat}{α:Type}(xs:List α)(f g:α->MV)
  (hs:wSr Φ src σ M λS M1=>S.items=xs.map f/\xs.length<sizeLine/\S.okF M1/\M1=M)
  (ht:∀x∈xs,∀M',(∀a o,M a=some o->M' a=some o)->wTg tg (f x) (sCm own fr σ) λσ2=>wE Φ elt σ2 M' λy M2=>y=g x/\M2=M')
  (hΦ:∀(j:Nat) f sp,Φ[j]?=some (f,sp)->MonW sp) (q:∀D,M D=none->Q (.ref D) (updM M D (.lst (xs.map g)))):wE Φ (.comp own fr src tg .none elt) σ M Q:=by
 rw[CN];refine mon_sr hΦ src (λS M1 ⟨h1,h2,h3,h4⟩=>?_) hs;subst h4;have hl:S.len=xs.length:=by rw[<- S.items_len,h1,Xc]
 refine⟨by rw[hl];exact h2,λD hD=>⟨λi ys M2=>M2=updM M1 D (.lst ys)/\ys=(xs.take i).map g,⟨rfl,by simp⟩,?_,?_,?_⟩⟩
 ·rintro i ys M2 ⟨rfl,rfl⟩;refine⟨Xb,by rw[Xc,YN];lia,?_⟩
  cases S with
  |tup _=>trivial
  |rng _ _=>trivial
  |str _=>trivial
  |lst a zs=>
   have:a≠D:=by intro e;subst e;have h3:M1 a=some (.lst zs):=h3;rw[h3]at hD;cases hD
   show updM M1 D _ a=_;rw[X7 this];exact h3
 ·rintro i x ys M2 hx ⟨rfl,rfl⟩;rw[h1]at hx;have hi:i<xs.length:=by have:=(XG.mp hx).1;rw[Xc]at this;exact this
  rw[Xr,Xa hi]at hx;cases hx;refine Vg tg (λσ2 h=>?_) (ht xs[i] (XU hi) (updM M1 D (.lst ((xs.take i).map g))) (λa o e=>by
   rw[X7 (by intro z;subst z;rw[e]at hD;cases hD)];exact e))
  rw[wI,if_pos rfl];refine X9 hΦ elt (λy M2 ⟨e1,e2⟩=>?_) h;subst e1 e2;refine⟨Xb,YC,?_⟩;rw[ZC,Xa hi,XV]
  rfl
 ·rintro ys M2 ⟨rfl,rfl⟩;rw[hl,Vy (Xe _),CO h3];exact q D hD
theorem _jo{own:List Str}{fr:List Nat}{α:Type}(xs:List α)(f g:α->MV)
  (hs:wSr Φ src σ M λS M1=>S.items=xs.map f/\xs.length<sizeLine/\S.okF M1/\∀a o,M a=some o->M1 a=some o)
  (ht:∀x∈xs,∀M',(∀a o,M a=some o->M' a=some o)->wTg tg (f x) (sCm own fr σ) λσ2=>wE Φ elt σ2 M' λy M2=>y=g x/\∀a o,M' a=some o->M2 a=some o)
  (hΦ:∀(j:Nat) f sp,Φ[j]?=some (f,sp)->MonW sp) (q:∀D M',M D=none->(∀a o,M a=some o->M' a=some o)->M' D=some (.lst (xs.map g))->Q (.ref D) M'):wE Φ (.comp own fr src tg .none elt) σ M Q:=by
 rw[CN];refine mon_sr hΦ src (λS M1 ⟨h1,h2,h3,h4⟩=>?_) hs;have hl:S.len=xs.length:=by rw[<- S.items_len,h1,Xc]
 have fre:∀D,M1 D=none->M D=none:=λD hD=>by
  cases e:M D with
  |none=>rfl
  |some o=>rw[h4 _ _ e]at hD;cases hD
 have ne:∀{a D:Addr} {o:MO},M1 a=some o->M1 D=none->a≠D:=λh h' z=>by subst z;rw[h]at h';cases h'
 refine⟨by rw[hl];exact h2,λD hD=>⟨λi ys M2=>(∀a o,M1 a=some o->M2 a=some o)/\M2 D=some (.lst ys)/\ys=(xs.take i).map g,⟨λa o e=>by rw[X7 (ne e hD)];exact e,Xb,by simp⟩,?_,?_,?_⟩⟩
 ·rintro i ys M2 ⟨s2,d2,rfl⟩;refine⟨d2,by rw[Xc,YN];lia,?_⟩
  cases S with
  |tup _=>trivial
  |rng _ _=>trivial
  |str _=>trivial
  |lst a zs=>exact s2 _ _ h3
 ·rintro i x ys M2 hx ⟨s2,d2,rfl⟩;rw[h1]at hx;have hi:i<xs.length:=by have:=(XG.mp hx).1;rw[Xc]at this;exact this
  rw[Xr,Xa hi]at hx;cases hx;refine Vg tg (λσ2 h=>?_) (ht xs[i] (XU hi) M2 (λa o e=>s2 _ _ (h4 _ _ e)));rw[wI,if_pos rfl];refine X9 hΦ elt (λy M3 ⟨e1,e2⟩=>?_) h;subst e1;refine⟨e2 _ _ d2,λa o e=>by rw[X7 (ne e hD)];exact e2 _ _ (s2 _ _ e),Xb,?_⟩
  rw[ZC,Xa hi,XV]
  rfl
 ·rintro ys M2 ⟨s2,d2,rfl⟩;rw[hl,Vy (Xe _)]at d2;rw[CO h3];exact q D M2 (fre D hD) (λa o e=>s2 _ _ (h4 _ _ e)) d2
theorem _qM:wTg (.nm i) v σ R=R (σ.set i (some v)):=rfl
theorem _qJ:wTg (.tup ts) (.tup xs) σ R=wTgs ts xs σ R:=by
 exact propext ⟨fun⟨_,e,h⟩=>by cases e;exact h,λh=>⟨_,rfl,h⟩⟩
theorem _qL{t:ITg}:wTgs (.cons t ts) (v::r) σ R=wTg t v σ λσ'=>wTgs ts r σ' R:=by
 exact propext ⟨fun⟨_,_,e,h⟩=>by cases e;exact h,λh=>⟨_,_,rfl,h⟩⟩
theorem _qK:wTgs .nil [] σ R=R σ:=propext ⟨λh=>h.2,λh=>⟨rfl,h⟩⟩
section
variable{M:MH}
theorem Alike.tupFlat{xs:List MV}(n:Nat)(f:xs.all YJ=true):Alike M (n+1) (.tup xs) (.tup xs):=
 .tup rfl λi u v e e'=>by
  rw[e]at e';cases e';exact .flat n (Wx.mp f u (Xw e))
end
section
variable{Φ:List (Str×SpM)}{D:EndM}{σ:Sm}{M:MH}
theorem _qu:wSs Φ .nil D σ M=D.nx σ M:=rfl
theorem _oA:wSs Φ (.cons s r) D σ M=wS Φ s {nx:=λσ M=>wSs Φ r D σ M,rt:=D.rt} σ M:=rfl
theorem _qs:wS Φ (.ret e) D σ M=wE Φ e σ M D.rt:=rfl
theorem _qr:wS Φ (.set i e) D σ M=wE Φ e σ M λv M1=>D.nx (σ.set i (some v)) M1:=rfl
theorem _qx{t:ITgs}:wS Φ (.asg t e) D σ M=wE Φ e σ M λv M1=>∃xs,v=.tup xs/\wTgs t xs σ λσ'=>D.nx σ' M1:=rfl
theorem _qt:wS Φ (.put o i e) D σ M=wE Φ e σ M λv M1=>wE Φ o σ M1 λx M2=>wE Φ i σ M2 λy M3=>wPut x y v M3 λM4=>D.nx σ M4:=rfl
theorem _oy:wS Φ (.fset c o f e) D σ M=wE Φ e σ M λv M1=>wE Φ o σ M1 λx M2=>∃a fs,x=.ref a/\M2 a=some (.ins c fs)/\fs.length<1000/\D.nx σ (updM M2 a (.ins c (putM fs f v))):=rfl
theorem _oz:wS Φ (.expr e) D σ M=wE Φ e σ M λ_ M1=>D.nx σ M1:=rfl
theorem _qv:wS Φ (.ite c a b) D σ M=wE Φ c σ M λx M1=>onB x λk=>(if k=true then wSs Φ a D σ M1 else wSs Φ b D σ M1):=rfl
theorem _qw{t:ITg}:wS Φ (.for_ t s b) D σ M=wSr Φ s σ M λS M1=>∃J:Nat->Sm->MH->Prop,J 0 σ M1/\(∀i σ M,J i σ M->S.ok M)/\
   (∀i x σ M,S.items[i]?=some x->J i σ M->wTg t x σ λσ2=>wSs Φ b {nx:=J (i+1),rt:=λv M=>S.okT M/\D.rt v (S.thaw M)} σ2 M)/\∀σ M,J S.len σ M->D.nx σ (S.thaw M):=rfl
theorem _mp:wS Φ (.while_ c b) D σ M=∃J:Nat->Sm->MH->Prop,(∃m,J m σ M)/\∀m σ M,J m σ M->wE Φ c σ M λx M1=>∃k,x=.bl k/\
   (if k=true then wSs Φ b {nx:=λσ' M'=>∃m',m'<m/\J m' σ' M',rt:=D.rt} σ M1 else D.nx σ M1):=rfl
theorem _pz:wO Φ .none σ M Q=Q none M:=rfl
theorem _py:wO Φ (.some e) σ M Q=wE Φ e σ M λv M1=>∃i,v=.int i/\Q (some i) M1:=rfl
theorem _pY:wEs Φ .nil σ M Q=Q [] M:=rfl
theorem _nR:wEs Φ (.cons e es) σ M Q=wE Φ e σ M λv M1=>wEs Φ es σ M1 λvs M2=>Q (v::vs) M2:=rfl
theorem _p8{Q:List (Key×MV)->MH->Prop}:wPs Φ .nil σ M Q=Q [] M:=rfl
theorem _mE{k v:IE}{r:IPs}{Q:List (Key×MV)->MH->Prop}:wPs Φ (.cons k v r) σ M Q=wE Φ k σ M λx M1=>∃kk,keyM x=some kk/\wE Φ v σ M1 λy M2=>wPs Φ r σ M2 λl M3=>Q ((kk,y)::l) M3:=rfl
end
section
variable{Φ:List (Str×SpM)}{σ σ':Sm}{M M':MH}{Q:QM}{x x' y y' z z':MV}{o o':Option MO}{vs vs':List MV}
end
end L2
namespace My
open PySem L2
noncomputable def top(i:Nat):Stmt:=PySem.Challenge.pw_bellferry_k52_samples.main.body.getD i (.Pass ⟨0,0,0,0⟩)
abbrev Ah:Stmt:=top 13
abbrev Ai:Stmt:=top 14
abbrev Aj:Stmt:=top 15
abbrev Ak:Stmt:=top 16
abbrev Al:Stmt:=top 17
abbrev Am:Stmt:=top 18
abbrev An:Stmt:=top 20
abbrev Ao:Stmt:=top 21
abbrev Ap:Stmt:=top 23
abbrev Aq:Stmt:=top 24
abbrev Ar:Stmt:=top 25
abbrev As:Stmt:=top 26
abbrev At:Stmt:=top 27
abbrev Au:Stmt:=top 28
abbrev Ub:Stmt:=Zb (top 30) 0
abbrev Uc:Stmt:=Zb (top 30) 1
abbrev Ud:Stmt:=Zb (top 30) 2
abbrev Ue:Stmt:=Zb (top 30) 3
abbrev Uf:Stmt:=Zb (top 30) 4
abbrev Ug:Stmt:=Zb (top 31) 0
abbrev Uh:Stmt:=Zb (top 31) 1
abbrev Ui:Stmt:=Zb (top 31) 2
abbrev Av:Stmt:=top 33
abbrev Aw:Stmt:=top 34
abbrev Ax:Stmt:=top 35
abbrev Ay:Stmt:=top 36
abbrev Az:Stmt:=top 37
abbrev AA:Stmt:=top 38
abbrev AB:Stmt:=top 40
abbrev AC:Stmt:=top 41
abbrev AD:Stmt:=top 42
abbrev AE:Stmt:=top 43
abbrev AF:Stmt:=top 54
abbrev AG:Stmt:=top 55
abbrev AH:Stmt:=top 56
abbrev AI:Stmt:=top 57
abbrev AJ:Stmt:=top 58
abbrev AK:Stmt:=top 59
abbrev AL:Stmt:=top 60
abbrev AM:Stmt:=top 61
abbrev AN:Stmt:=top 62
abbrev AO:Stmt:=top 63
abbrev AQ:Stmt:=top 64
abbrev AR:Stmt:=top 65
abbrev AS:Stmt:=top 66
abbrev AT:Stmt:=top 67
abbrev AU:Stmt:=top 68
abbrev AV:Stmt:=top 69
abbrev AW:Stmt:=top 72
abbrev AX:Stmt:=top 73
abbrev Uj:Stmt:=Zb (top 75) 0
abbrev Uk:Stmt:=Zb (top 75) 1
abbrev Ul:Stmt:=Zb (top 75) 2
abbrev Um:Stmt:=Zb (top 75) 3
abbrev AY:Stmt:=top 77
abbrev AZ:Stmt:=top 79
abbrev B0:Stmt:=top 80
abbrev B1:Stmt:=top 81
abbrev B3:Stmt:=top 82
abbrev B4:Stmt:=top 83
abbrev B5:Stmt:=top 84
abbrev B6:Stmt:=top 85
abbrev B7:Stmt:=top 86
abbrev B8:Stmt:=top 87
set_option genInjectivity false in
set_option genSizeOf false in
structure Adr where
 hV:Addr
 cm:Xi
 cI:Addr
 cB:Xi
 fG:Addr
 dW:Xi
 ck:Addr
 dg:Xi
 gH:Addr
 eD:Xi
 gG:Addr
 dz:Xi
 em:Addr
 cO:Xi
 gC:Addr
 fO:Xi
 fZ:Addr
 fF:Xi
 cL:Addr
 cC:Xi
 cP:Addr
 di:Xi
 cD:Addr
 df:Xi
 gh:Addr
 dQ:Xi
 fv:Addr
 eK:Xi
 aR:Addr
 bC:Xi
 bv:Addr
 aY:Xi
 bM:Addr
 cb:Xi
 bh:Addr
 bR:Xi
 bf:Addr
 aZ:Xi
 aP:Addr
 bX:Xi
 bB:Addr
 ca:Xi
 bS:Addr
 bQ:Xi
 dD:Addr
 eB:Xi
 gT:Addr
 cA:Xi
 eh:Addr
 cM:Xi
 dm:Addr
 fj:Xi
 cF:Addr
 gk:Xi
 gc:Addr
 cf:Xi
 fk:Addr
 dl:Xi
 dw:Addr
 eO:Xi
 d0:Addr
 cQ:Xi
 cw:Addr
 i9:Xi
 dR:Addr
 dS:Xi
 dC:Addr
 dM:Xi
 fY:Addr
 dc:Xi
 fJ:Addr
 de:Xi
 gS:Addr
 fL:Xi
 dy:Addr
 dh:Xi
 fX:Addr
 i0:Xi
 gU:Addr
 fU:Xi
 cv:Addr
 eE:Xi
 cJ:Addr
 gY:Xi
 dL:Addr
 gJ:Xi
 dj:Addr
 ga:Xi
 gQ:Addr
 gF:Xi
 fK:Addr
 du:Xi
 eJ:Addr
 gX:Xi
 dA:Addr
 cG:Xi
 eC:Addr
 ee:Xi
 gq:Addr
 i8:Xi
 aQ:Addr
 bj:Xi
 bu:Addr
 b9:Xi
 bI:Addr
 bV:Xi
 bg:Addr
 bA:Xi
 ci:Addr
 cH:Xi
 cy:Addr
 fR:Xi
 gD:Addr
 eQ:Xi
 gB:Addr
 dr:Xi
 fN:Addr
 hZ:Xi
 dP:Addr
 eL:Xi
 dH:Addr
 fz:Xi
 dF:Addr
 cV:Xi
 dB:Addr
 dX:Xi
 fI:Addr
 eW:Xi
 ai:Addr
 am:Addr
 aa:Addr
structure Txt (K:X4) (mg:Str->Option X0) (t:Adr):Prop where
 aV:FnT K mg "is_whole" ["value"] Ah t.hV t.cm
 aL:FnT K mg "is_width" ["number"] Ai t.cI t.cB
 aC:FnT K mg "two_to" ["exponent"] Aj t.fG t.dW
 bO:FnT K mg "fits" ["width","number"] Ak t.ck t.dg
 aE:FnT K mg "cut" ["width","number"] Al t.gH t.eD
 bo:FnT K mg "amid" ["old","new","choice"] Am t.gG t.dz
 aW:FnT K mg "code_of" ["n"] An t.em t.cO
 c8:FnT K mg "number_of" ["word"] Ao t.gC t.fO
 aT:FnT K mg "first_sign" ["word"] Ap t.fZ t.fF
 aU:FnT K mg "shown" ["sign","word","moment"] Aq t.cL t.cC
 b7:FnT K mg "first_sight" ["word","stages"] Ar t.cP t.di
 aS:FnT K mg "sampled" ["sign","since","choice"] As t.cD t.df
 bZ:FnT K mg "moved" ["sight","word"] At t.gh t.dQ
 bD:FnT K mg "used" ["sight"] Au t.fv t.eK
 cT:Fun K "__init__" "Side.__init__" Ub t.aR t.bC
 fH:Binds K t.bC ["self","turn","stages"] []
 ii:Meth K t.ai "__init__" t.aR
 cR:Fun K "ring_ahead" "Side.ring_ahead" Uc t.bv t.aY
 ce:Binds K t.aY ["self"] []
 bb:Meth K t.ai "ring_ahead" t.bv
 dO:Fun K "less_the_seen" "Side.less_the_seen" Ud t.bM t.cb
 bn:Binds K t.cb ["self"] []
 bY:Meth K t.ai "less_the_seen" t.bM
 fV:Fun K "grow" "Side.grow" Ue t.bh t.bR
 bE:Binds K t.bR ["self"] []
 bN:Meth K t.ai "grow" t.bh
 gK:Fun K "show_and_see" "Side.show_and_see" Uf t.bf t.aZ
 bq:Binds K t.aZ ["self","moment","choice","other_sign"] []
 bz:Meth K t.ai "show_and_see" t.bf
 gO:Fun K "__init__" "Ferry.__init__" Ug t.aP t.bX
 fi:Binds K t.bX ["self","k","stages"] []
 ic:Meth K t.am "__init__" t.aP
 gZ:Fun K "ring_giver" "Ferry.ring_giver" Uh t.bB t.ca
 ef:Binds K t.ca ["self","moment","choice","word"] []
 gL:Meth K t.am "ring_giver" t.bB
 ff:Fun K "ring_taker" "Ferry.ring_taker" Ui t.bS t.bQ
 ge:Binds K t.bQ ["self","moment","choice","wished"] []
 gR:Meth K t.am "ring_taker" t.bS
 aw:FnT K mg "parts_within" ["T"] Av t.dD t.eB
 aq:FnT K mg "size_of" ["T"] Aw t.gT t.cA
 ax:FnT K mg "names_read" ["T"] Ax t.eh t.cM
 aI:FnT K mg "vars_in" ["T"] Ay t.dm t.fj
 aH:FnT K mg "worth_of_two" ["form","left","right","width"] Az t.cF t.gk
 ab:FnT K mg "worth" ["T","width","words"] AA t.gc t.cf
 bc:FnT K mg "wish" ["width","steps","number","words"] AB t.fk t.dl
 aM:FnT K mg "number_after" ["width","steps","number","words"] AC t.dw t.eO
 aK:FnT K mg "words_after" ["width","step","words","word"] AD t.d0 t.cQ
 b0:FnT K mg "after" ["width","steps","number","words","word"] AE t.cw t.i9
 bP:FnT K mg "is_name" ["text"] AF t.dR t.dS
 aG:FnT K mg "refuse_name" ["text","earlier"] AG t.dC t.dM
 ay:FnT K mg "refuse_unknown" ["name","known"] AH t.fY t.dc
 aN:FnT K mg "refuse_ferry_names" ["ferries"] AI t.fJ t.de
 bp:FnT K mg "refuse_variables" ["width","pairs"] AJ t.gS t.fL
 br:FnT K mg "refuse_term" ["T","known"] AK t.dy t.dh
 bm:FnT K mg "refuse_step" ["step","known","count","ferry_names"] AL t.fX t.i0
 bK:FnT K mg "refuse_island" ["width","island","ferry_names"] AM t.gU t.fU
 aO:FnT K mg "refuse_islands" ["width","islands","ferry_names"] AN t.cv t.eE
 aF:FnT K mg "refuse_ferry" ["ferry","island_names"] AO t.cJ t.gY
 bw:FnT K mg "refuse_wrong_end" ["name","step","givers","takers"] AQ t.dL t.gJ
 aJ:FnT K mg "refuse_wrong_ends" ["islands","ferries"] AR t.dj t.ga
 aj:FnT K mg "frozen" ["value"] AS t.gQ t.gF
 b8:FnT K mg "made" ["width","islands","ferries"] AT t.fK t.du
 cc:FnT K mg "one_called" ["row","name"] AU t.eJ t.gX
 bF:FnT K mg "island_of" ["world","name"] AV t.dA t.cG
 bU:FnT K mg "what_alone" ["asked"] AW t.eC t.ee
 bW:FnT K mg "is_wish_of" ["asked","ferry_name"] AX t.gq t.i8
 fS:Fun K "__init__" "Run.__init__" Uj t.aQ t.bj
 fA:Binds K t.bj ["self","world"] []
 ib:Meth K t.aa "__init__" t.aQ
 eP:Fun K "ring" "Run.ring" Uk t.bu t.b9
 fW:Binds K t.b9 ["self","name","choice"] []
 dq:Meth K t.aa "ring" t.bu
 eX:Fun K "ring_ferry" "Run.ring_ferry" Ul t.bI t.bV
 fT:Binds K t.bV ["self","ferry","name","choice","asked"] []
 dG:Meth K t.aa "ring_ferry" t.bI
 dk:Fun K "go_on" "Run.go_on" Um t.bg t.bA
 fq:Binds K t.bA ["self","name","steps","word"] []
 cq:Meth K t.aa "go_on" t.bg
 bd:FnT K mg "_law_cell_at" ["script","k"] AY t.ci t.cH
 aX:FnT K mg "_law_name" ["number","k"] AZ t.cy t.fR
 bG:FnT K mg "_law_term" ["number","names"] B0 t.gD t.eQ
 c7:FnT K mg "_law_step" ["number","name","names","ferries","many"] B1 t.gB t.dr
 be:FnT K mg "_law_island" ["number","k","naming","ferries","around"] B3 t.fN t.hZ
 bL:FnT K mg "_law_things" ["script","around"] B4 t.dP t.eL
 bH:FnT K mg "_law_rings" ["cells","islands"] B5 t.dH t.fz
 bJ:FnT K mg "_law_code" ["count","k"] B6 t.dF t.cV
 c9:FnT K mg "_law_sample" ["own","other","k","choice"] B7 t.dB t.dX
 hG:FnT K mg "law" ["script"] B8 t.fI t.eW
 ac:Xy K Xp "Side"=some (some (.ref t.ai))
 cN:mg "Side"=some (.ref t.ai)
 ag:Cls K t.ai
 eG:Mk K t.ai t.aR
 fh:NoAttr K t.ai "turn"
 gA:NoAttr K t.ai "total"
 cS:NoAttr K t.ai "sign"
 eY:NoAttr K t.ai "sight"
 aA:Xy K Xp "Ferry"=some (some (.ref t.am))
 fM:mg "Ferry"=some (.ref t.am)
 aB:Cls K t.am
 dt:Mk K t.am t.aP
 dI:NoAttr K t.am "places"
 dJ:NoAttr K t.am "giver"
 cu:NoAttr K t.am "taker"
 ae:Xy K Xp "Run"=some (some (.ref t.aa))
 fw:mg "Run"=some (.ref t.aa)
 ak:Cls K t.aa
 dY:Mk K t.aa t.aQ
 gW:NoAttr K t.aa "world"
 cX:NoAttr K t.aa "moment"
 cW:NoAttr K t.aa "next_numbers"
 cY:NoAttr K t.aa "words_now"
 dU:NoAttr K t.aa "steps_so_far"
 ia:NoAttr K t.aa "boats"
 fB:NoAttr K t.aa "given_so_far"
 gg:NoAttr K t.aa "taken_so_far"
 cK:mg "all"=none
 gE:mg "bool"=none
 cU:mg "dict"=none
 dZ:mg "int"=none
 dE:mg "isinstance"=none
 cx:mg "len"=none
 cE:mg "list"=none
 e9:mg "max"=none
 gP:mg "min"=none
 cZ:mg "range"=none
 ft:mg "set"=none
 cj:mg "sorted"=none
 eZ:mg "tuple"=none
 gM:∃tk,mg "MOST_WIDTH"=some (.int 64 tk)
 fD:∃tk,mg "MOST_LETTERS"=some (.int 8 tk)
 gz:∃tk,mg "MOST_ISLANDS"=some (.int 5 tk)
 fP:∃tk,mg "MOST_FERRIES"=some (.int 6 tk)
 cr:∃tk,mg "MOST_VARS"=some (.int 6 tk)
 gN:∃tk,mg "MOST_STEPS"=some (.int 12 tk)
 eU:∃tk,mg "MOST_PARTS"=some (.int 30 tk)
 gI:∃tk,mg "MOST_DEPTH"=some (.int 8 tk)
 fc:∃tk,mg "MOST_K"=some (.int 3 tk)
 fQ:∃tk,mg "MOST_STAGES"=some (.int 3 tk)
 fu:∃tk,mg "BITS_A_FERRY"=some (.int 8 tk)
theorem _fh:FnScope ["value"] ["value"] (X5 Ah):=mkSc
theorem _fg:FnScope ["number"] ["number"] (X5 Ai):=mkSc
theorem _i0:FnScope ["exponent","answer","k"] ["exponent"] (X5 Aj):=mkSc
theorem _mn:FnScope ["width","number"] ["width","number"] (X5 Ak):=mkSc
theorem _ox:FnScope ["width","number"] ["width","number"] (X5 Al):=mkSc
theorem _mo:FnScope ["old","new","choice"] ["old","new","choice"] (X5 Am):=mkSc
theorem _gZ:FnScope ["n"] ["n"] (X5 An):=mkSc
theorem _dW:FnScope ["word","n","above"] ["word"] (X5 Ao):=mkSc
theorem _d8:FnScope ["word"] ["word"] (X5 Ap):=mkSc
theorem _kb:FnScope ["sign","word","moment"] ["sign","word","moment"] (X5 Aq):=mkSc
theorem _bS:FnScope ["word","stages"] ["word","stages"] (X5 Ar):=mkSc
theorem _gX:FnScope ["sign","since","choice"] ["sign","since","choice"] (X5 As):=mkSc
theorem _kc:FnScope ["sight","word"] ["sight","word"] (X5 At):=mkSc
theorem _ml:FnScope ["sight"] ["sight"] (X5 Au):=mkSc
theorem _ac:FnScope ["self","turn","stages"] ["self","turn","stages"] (X5 Ub):=mkSc
theorem _7V:FnScope ["self"] ["self"] (X5 Uc):=mkSc
theorem _5f:FnScope ["self"] ["self"] (X5 Ud):=mkSc
theorem _e3:FnScope ["self"] ["self"] (X5 Ue):=mkSc
theorem _6v:FnScope ["self","moment","choice","other_sign","seen"] ["self","moment","choice","other_sign"] (X5 Uf):=mkSc
theorem _8S:FnScope ["self","k","stages"] ["self","k","stages"] (X5 Ug):=mkSc
theorem _7y:FnScope ["self","moment","choice","word","words","gives"] ["self","moment","choice","word"] (X5 Uh):=mkSc
theorem _7x:FnScope ["self","moment","choice","wished","word","place"] ["self","moment","choice","wished"] (X5 Ui):=mkSc
theorem _aI:FnScope ["T"] ["T"] (X5 Av):=mkSc
theorem _gW:FnScope ["T","parts","deepest","part","size"] ["T"] (X5 Aw):=mkSc
theorem _d6:FnScope ["T","names","part"] ["T"] (X5 Ax):=mkSc
theorem _gV:FnScope ["T"] ["T"] (X5 Ay):=mkSc
theorem _aG:FnScope ["form","left","right","width"] ["form","left","right","width"] (X5 Az):=mkSc
theorem _ka:FnScope ["T","width","words","first"] ["T","width","words"] (X5 AA):=mkSc
theorem _mk:FnScope ["width","steps","number","words","step"] ["width","steps","number","words"] (X5 AB):=mkSc
theorem _aJ:FnScope ["width","steps","number","words","step"] ["width","steps","number","words"] (X5 AC):=mkSc
theorem _bO:FnScope ["width","step","words","word","behind"] ["width","step","words","word"] (X5 AD):=mkSc
theorem _kd:FnScope ["width","steps","number","words","word"] ["width","steps","number","words","word"] (X5 AE):=mkSc
theorem _gY:FnScope ["text"] ["text"] (X5 AF):=mkSc
theorem _bR:FnScope ["text","earlier"] ["text","earlier"] (X5 AG):=mkSc
theorem _8P:FnScope ["name","known"] ["name","known"] (X5 AH):=mkSc
theorem _5e:FnScope ["ferries","earlier","ferry"] ["ferries"] (X5 AI):=mkSc
theorem _7w:FnScope ["width","pairs","earlier","pair","name"] ["width","pairs"] (X5 AJ):=mkSc
theorem _bP:FnScope ["T","known","size","name"] ["T","known"] (X5 AK):=mkSc
theorem _bQ:FnScope ["step","known","count","ferry_names"] ["step","known","count","ferry_names"] (X5 AL):=mkSc
theorem _ab:FnScope ["width","island","ferry_names","known","step"] ["width","island","ferry_names"] (X5 AM):=mkSc
theorem _8Q:FnScope ["width","islands","ferry_names","earlier","island"] ["width","islands","ferry_names"] (X5 AN):=mkSc
theorem _aH:FnScope ["ferry","island_names"] ["ferry","island_names"] (X5 AO):=mkSc
theorem _7v:FnScope ["name","step","givers","takers"] ["name","step","givers","takers"] (X5 AQ):=mkSc
theorem _6u:FnScope ["islands","ferries","givers","takers","island","step"] ["islands","ferries"] (X5 AR):=mkSc
theorem Kd:FnScope ["value"] ["value"] (X5 AS):=mkSc
theorem _mm:FnScope ["width","islands","ferries","island_names","ferry"] ["width","islands","ferries"] (X5 AT):=mkSc
theorem _d5:FnScope ["row","name","one"] ["row","name"] (X5 AU):=mkSc
theorem _dX:FnScope ["world","name"] ["world","name"] (X5 AV):=mkSc
theorem _d4:FnScope ["asked"] ["asked"] (X5 AW):=mkSc
theorem _d7:FnScope ["asked","ferry_name"] ["asked","ferry_name"] (X5 AX):=mkSc
theorem _aL:FnScope ["self","world"] ["self","world"] (X5 Uj):=mkSc
theorem _fi:FnScope ["self","name","choice","steps","number","asked","what","samples","j","ferry","told"] ["self","name","choice"] (X5 Uk):=mkSc
theorem _8R:FnScope ["self","ferry","name","choice","asked","boat","wished","told"] ["self","ferry","name","choice","asked"] (X5 Ul):=mkSc
theorem _e4:FnScope ["self","name","steps","word","went"] ["self","name","steps","word"] (X5 Um):=mkSc
theorem _aK:FnScope ["script","k"] ["script","k"] (X5 AY):=mkSc
theorem _e1:FnScope ["number","k","letters","fill","other","long","at","sign"] ["number","k"] (X5 AZ):=mkSc
theorem _dZ:FnScope ["number","names","one","other"] ["number","names"] (X5 B0):=mkSc
theorem _e0:FnScope ["number","name","names","ferries","many","takes","gives","rest"] ["number","name","names","ferries","many"] (X5 B1):=mkSc
theorem _bV:FnScope ["number","k","naming","ferries","around","name","names","pairs","many","ending","steps","j"] ["number","k","naming","ferries","around"] (X5 B3):=mkSc
theorem _bT:FnScope ["script","around","head","naming","width","many","ferries","k","number","giver","taker","ends","islands"] ["script","around"] (X5 B4):=mkSc
theorem _d9:FnScope ["cells","islands","rings","cell"] ["cells","islands"] (X5 B5):=mkSc
theorem _e2:FnScope ["count","k","rest"] ["count","k"] (X5 B6):=mkSc
theorem _bU:FnScope ["own","other","k","choice","now","ahead"] ["own","other","k","choice"] (X5 B7):=mkSc
theorem _ow:FnScope ["script","width","islands","ferries","run","sides","ferry","moment","name","choice","event","due","j","two","other","many"] ["script"] (X5 B8):=mkSc
noncomputable def GB:List Str:=["all","bool","dict","int","isinstance","len","list","max","min","range","set","sorted","tuple"]
noncomputable def GL:List (Str×Int):=[("MOST_WIDTH",64),("MOST_LETTERS",8),("MOST_ISLANDS",5),("MOST_FERRIES",6),("MOST_VARS",6),("MOST_STEPS",12),("MOST_PARTS",30),("MOST_DEPTH",8),("MOST_K",3),("MOST_STAGES",3),("BITS_A_FERRY",8)]
theorem Uo{K:X4}{mg:Str->Option X0}{t:Adr}(T:Txt K mg t):∀x∈GB,mg x=none:=(fMc ⟨T.cK,(fMc ⟨T.gE,(fMc ⟨T.cU,(fMc ⟨T.dZ,(fMc ⟨T.dE,(fMc ⟨T.cx,(fMc ⟨T.cE,(fMc ⟨T.e9,(fMc ⟨T.gP,(fMc ⟨T.cZ,(fMc ⟨T.ft,(fMc ⟨T.cj,(fMc ⟨T.eZ,nl0⟩)⟩)⟩)⟩)⟩)⟩)⟩)⟩)⟩)⟩)⟩)⟩)⟩)
theorem Up{K:X4}{mg:Str->Option X0}{t:Adr}(T:Txt K mg t):∀p∈GL,∃tk,mg p.1=some (.int p.2 tk):=(fMc ⟨T.gM,(fMc ⟨T.fD,(fMc ⟨T.gz,(fMc ⟨T.fP,(fMc ⟨T.cr,(fMc ⟨T.gN,(fMc ⟨T.eU,(fMc ⟨T.gI,(fMc ⟨T.fc,(fMc ⟨T.fQ,(fMc ⟨T.fu,nl0⟩)⟩)⟩)⟩)⟩)⟩)⟩)⟩)⟩)⟩)⟩)
noncomputable def GC:List (Str×Str):=[("Side","turn"),("Side","total"),("Side","sign"),("Side","sight"),("Ferry","places"),("Ferry","giver"),("Ferry","taker"),("Run","world"),("Run","moment"),("Run","next_numbers"),("Run","words_now"),("Run","steps_so_far"),("Run","boats"),("Run","given_so_far"),("Run","taken_so_far")]
theorem Uq{K:X4}{mg:Str->Option X0}{t:Adr}(T:Txt K mg t):∀q∈GC,∃C,Xy K Xp q.1=some (some (.ref C))/\Cls K C/\NoAttr K C q.2:=(fMc ⟨⟨_,T.ac,T.ag,T.fh⟩,(fMc ⟨⟨_,T.ac,T.ag,T.gA⟩,(fMc ⟨⟨_,T.ac,T.ag,T.cS⟩,(fMc ⟨⟨_,T.ac,T.ag,T.eY⟩,(fMc ⟨⟨_,T.aA,T.aB,T.dI⟩,(fMc ⟨⟨_,T.aA,T.aB,T.dJ⟩,(fMc ⟨⟨_,T.aA,T.aB,T.cu⟩,(fMc ⟨⟨_,T.ae,T.ak,T.gW⟩,(fMc ⟨⟨_,T.ae,T.ak,T.cX⟩,(fMc ⟨⟨_,T.ae,T.ak,T.cW⟩,(fMc ⟨⟨_,T.ae,T.ak,T.cY⟩,(fMc ⟨⟨_,T.ae,T.ak,T.dU⟩,(fMc ⟨⟨_,T.ae,T.ak,T.ia⟩,(fMc ⟨⟨_,T.ae,T.ak,T.fB⟩,(fMc ⟨⟨_,T.ae,T.ak,T.gg⟩,nl0⟩)⟩)⟩)⟩)⟩)⟩)⟩)⟩)⟩)⟩)⟩)⟩)⟩)⟩)⟩)
theorem fE{P:Xv}{w:Xn}{K:X4}{mg:Str->Option X0}{base:Heap}{x:Str}{ps:List Str}{st:Stmt}{f:Addr}{d:Xi}(h:FnT K mg x ps st f d){j k:Nat}{sp:SpM}(o:FnOk P w K mg base CX0 j f d ps (liSp K sp))(l:j≤k:=by decide):∃fa fd ps,FnOk P w K mg base CX0 k fa fd ps (liSp K sp)/\mg x=some (.ref fa)/\XZ K (.ref fa)=true/\Binds K fd ps []:=⟨_,_,_,o.mono l,h.m,h.F.kp,h.b⟩
theorem fC{P:Xv}{w:Xn}{K:X4}{mg:Str->Option X0}{base:Heap}{t:Adr}(T:Txt K mg t){k:Nat}{G:GI}{Φ:List (Str×SpM)}(e:Φ.map (·.1)=G.fns)(hm:∀p∈Φ,MonW p.2)(hF:∀p∈Φ,∃fa fd ps,FnOk P w K mg base CX0 k fa fd ps (liSp K p.2)/\mg p.1=some (.ref fa)/\XZ K (.ref fa)=true/\Binds K fd ps [])
  (b:G.bl=GB:=by rfl) (g:G.gl=GL:=by rfl) (c:G.cls=GC:=by rfl) (m:G.mts=[]:=by rfl) (n:G.mks=[]:=by rfl):Fts P w K mg base k G Φ:=
 Ua (VD Φ) (b▸Uo T) (g▸Up T) e hm hF (by rw[m];exact λ_ h=>nomatch h) (by rw[n];exact λ_ h=>nomatch h) (c▸Uq T)
noncomputable def Ke:ISs:=.cons (.ret (.and (.bi .isinst (.var 0) (.cons (.ty .int) .nil)) (.not (.bi .isinst (.var 0) (.cons (.ty .bool) .nil))))) .nil
abbrev EC:ISs:=Ke
def Kf:GI:={bl:=GB,gl:=GL,fns:=[],mts:=[],mks:=[],cls:=GC}
theorem _fR:chkSs Kf (X5 Ah) ["value"] EC (Xf Ah)=true:=by decide+kernel
noncomputable def Kg:ISs:=.cons (.ret (.and (.call 0 (.var 0) .nil) (.chn .LtE .LtE (.int 1) (.var 0) (.glb "MOST_WIDTH" 64)))) .nil
abbrev ED:ISs:=Kg
def Kh:GI:={bl:=GB,gl:=GL,fns:=["is_whole"],mts:=[],mks:=[],cls:=GC}
theorem _fQ:chkSs Kh (X5 Ai) ["number"] ED (Xf Ai)=true:=by decide+kernel
def Ki:ISs:=.cons (.ret (.var 1)) .nil
def Kj:ISs:=.cons (.set 1 (.bin .Mult (.var 1) (.int 2))) .nil
def Kk:ISs:=.cons (.for_ (.nm 2) (.rng (.var 0)) Kj) Ki
def Kl:ISs:=.cons (.set 1 (.int 1)) Kk
abbrev EE:ISs:=Kl
def Km:GI:={bl:=GB,gl:=GL,fns:=[],mts:=[],mks:=[],cls:=GC}
theorem _jq:chkSs Km (X5 Aj) ["exponent","answer","k"] EE (Xf Aj)=true:=by decide+kernel
noncomputable def Kn:ISs:=.cons (.ret (.and (.call 0 (.var 1) .nil) (.chn .LtE .Lt (.int 0) (.var 1) (.call 1 (.var 0) .nil)))) .nil
abbrev EF:ISs:=Kn
def Ko:GI:={bl:=GB,gl:=GL,fns:=["is_whole","two_to"],mts:=[],mks:=[],cls:=GC}
theorem _nY:chkSs Ko (X5 Ak) ["width","number"] EF (Xf Ak)=true:=by decide+kernel
def Kq:ISs:=.cons (.ret (.bin .Mod (.var 1) (.call 0 (.var 0) .nil))) .nil
abbrev EG:ISs:=Kq
def Kr:GI:={bl:=GB,gl:=GL,fns:=["two_to"],mts:=[],mks:=[],cls:=GC}
theorem _q6:chkSs Kr (X5 Al) ["width","number"] EG (Xf Al)=true:=by decide+kernel
noncomputable def Ks:ISs:=.cons (.ret (.bin .BitXor (.var 0) (.bin .BitAnd (.bin .BitXor (.var 0) (.var 1)) (.var 2)))) .nil
abbrev EH:ISs:=Ks
def Kt:GI:={bl:=GB,gl:=GL,fns:=[],mts:=[],mks:=[],cls:=GC}
theorem _nZ:chkSs Kt (X5 Am) ["old","new","choice"] EH (Xf Am)=true:=by decide+kernel
def Ku:ISs:=.cons (.ret (.bin .BitXor (.var 0) (.bin .FloorDiv (.var 0) (.int 2)))) .nil
abbrev EI:ISs:=Ku
def Kv:GI:={bl:=GB,gl:=GL,fns:=[],mts:=[],mks:=[],cls:=GC}
theorem _ht:chkSs Kv (X5 An) ["n"] EI (Xf An)=true:=by decide+kernel
def Kw:ISs:=.cons (.ret (.var 1)) .nil
def Kx:ISs:=.cons (.set 2 (.bin .FloorDiv (.var 2) (.int 2))) .nil
def Ky:ISs:=.cons (.set 1 (.bin .BitXor (.var 1) (.var 2))) Kx
def Kz:ISs:=.cons (.while_ (.cmp .Gt (.var 2) (.int 0)) Ky) Kw
def KA:ISs:=.cons (.set 2 (.bin .FloorDiv (.var 0) (.int 2))) Kz
def KB:ISs:=.cons (.set 1 (.var 0)) KA
abbrev EJ:ISs:=KB
def KC:GI:={bl:=GB,gl:=GL,fns:=[],mts:=[],mks:=[],cls:=GC}
theorem _eM:chkSs KC (X5 Ao) ["word","n","above"] EJ (Xf Ao)=true:=by decide+kernel
noncomputable def KD:ISs:=.cons (.ret (.tup (.cons (.var 0) (.cons (.var 0) (.cons (.neg (.int 1)) .nil))))) .nil
abbrev EK:ISs:=KD
def KE:GI:={bl:=GB,gl:=GL,fns:=[],mts:=[],mks:=[],cls:=GC}
theorem _dG:chkSs KE (X5 Ap) ["word"] EK (Xf Ap)=true:=by decide+kernel
noncomputable def KF:ISs:=.cons (.ret (.tup (.cons (.var 1) (.cons (.ix (.var 0) (.int 0)) (.cons (.var 2) .nil))))) .nil
abbrev EL:ISs:=KF
def KG:GI:={bl:=GB,gl:=GL,fns:=[],mts:=[],mks:=[],cls:=GC}
theorem _l3:chkSs KG (X5 Aq) ["sign","word","moment"] EL (Xf Aq)=true:=by decide+kernel
def KH:ISs:=.cons (.ret (.bin .Mult (.tup (.cons (.var 0) .nil)) (.var 1))) .nil
abbrev EM:ISs:=KH
def KI:GI:={bl:=GB,gl:=GL,fns:=[],mts:=[],mks:=[],cls:=GC}
theorem _cf:chkSs KI (X5 Ar) ["word","stages"] EM (Xf Ar)=true:=by decide+kernel
def KJ:ISs:=.cons (.ret (.ix (.var 0) (.int 0))) .nil
noncomputable def KK:ISs:=.cons (.ret (.call 0 (.ix (.var 0) (.int 1)) (.cons (.ix (.var 0) (.int 0)) (.cons (.var 2) .nil)))) .nil
def KL:ISs:=.cons (.ite (.cmp .Gt (.ix (.var 0) (.int 2)) (.var 1)) KK .nil) KJ
abbrev EN:ISs:=KL
def KM:GI:={bl:=GB,gl:=GL,fns:=["amid"],mts:=[],mks:=[],cls:=GC}
theorem _hr:chkSs KM (X5 As) ["sign","since","choice"] EN (Xf As)=true:=by decide+kernel
noncomputable def KN:ISs:=.cons (.ret (.sl (.bin .Add (.tup (.cons (.var 1) .nil)) (.var 0)) .none (.some (.neg (.int 1))))) .nil
abbrev EO:ISs:=KN
def KO:GI:={bl:=GB,gl:=GL,fns:=[],mts:=[],mks:=[],cls:=GC}
theorem _l4:chkSs KO (X5 At) ["sight","word"] EO (Xf At)=true:=by decide+kernel
def KP:ISs:=.cons (.ret (.ix (.var 0) (.neg (.int 1)))) .nil
abbrev EQ:ISs:=KP
def KQ:GI:={bl:=GB,gl:=GL,fns:=[],mts:=[],mks:=[],cls:=GC}
theorem _nW:chkSs KQ (X5 Au) ["sight"] EQ (Xf Au)=true:=by decide+kernel
noncomputable def KR:ISs:=.cons (.fset "Side" (.var 0) "sight" (.call 1 (.call 0 (.int 0) .nil) (.cons (.var 2) .nil))) .nil
def KS:ISs:=.cons (.fset "Side" (.var 0) "sign" (.call 2 (.call 0 (.int 0) .nil) .nil)) KR
def KU:ISs:=.cons (.fset "Side" (.var 0) "total" (.int 0)) KS
def KW:ISs:=.cons (.fset "Side" (.var 0) "turn" (.var 1)) KU
abbrev ER:ISs:=KW
def KY:GI:={bl:=GB,gl:=GL,fns:=["code_of","first_sight","first_sign"],mts:=[],mks:=[],cls:=GC}
theorem _ao:chkSs KY (X5 Ub) ["self","turn","stages"] ER (Xf Ub)=true:=by decide+kernel
def KZ:ISs:=.cons (.ret (.ix (.fld "Side" (.var 0) "sign") (.int 2))) .nil
abbrev ES:ISs:=KZ
def L0:GI:={bl:=GB,gl:=GL,fns:=[],mts:=[],mks:=[],cls:=GC}
theorem _8C:chkSs L0 (X5 Uc) ["self"] ES (Xf Uc)=true:=by decide+kernel
noncomputable def L1:ISs:=.cons (.ret (.bin .Mod (.bin .Sub (.fld "Side" (.var 0) "total") (.call 0 (.call 1 (.fld "Side" (.var 0) "sight") .nil) .nil)) (.fld "Side" (.var 0) "turn"))) .nil
abbrev ET:ISs:=L1
def L3:GI:={bl:=GB,gl:=GL,fns:=["number_of","used"],mts:=[],mks:=[],cls:=GC}
theorem _6g:chkSs L3 (X5 Ud) ["self"] ET (Xf Ud)=true:=by decide+kernel
noncomputable def L4:ISs:=.cons (.fset "Side" (.var 0) "total" (.bin .Add (.fld "Side" (.var 0) "total") (.int 1))) .nil
abbrev EU:ISs:=L4
def L5:GI:={bl:=GB,gl:=GL,fns:=[],mts:=[],mks:=[],cls:=GC}
theorem _eT:chkSs L5 (X5 Ue) ["self"] EU (Xf Ue)=true:=by decide+kernel
def L6:ISs:=.cons (.ret (.var 4)) .nil
def L7:ISs:=.cons (.fset "Side" (.var 0) "sight" (.call 1 (.fld "Side" (.var 0) "sight") (.cons (.var 4) .nil))) L6
def L8:ISs:=.cons (.fset "Side" (.var 0) "sign" (.call 3 (.fld "Side" (.var 0) "sign") (.cons (.call 0 (.bin .Mod (.fld "Side" (.var 0) "total") (.fld "Side" (.var 0) "turn")) .nil) (.cons (.var 1) .nil)))) L7
def L9:ISs:=.cons (.set 4 (.call 2 (.var 3) (.cons (.mcall 4 "Side" "ring_ahead" (.var 0) .nil) (.cons (.var 2) .nil)))) L8
abbrev EV:ISs:=L9
def La:GI:={bl:=GB,gl:=GL,fns:=["code_of","moved","sampled","shown"],mts:=[(4,"Side","ring_ahead")],mks:=[],cls:=GC}
theorem _6B:chkSs La (X5 Uf) ["self","moment","choice","other_sign","seen"] EV (Xf Uf)=true:=by decide+kernel
noncomputable def Lb:ISs:=.cons (.fset "Ferry" (.var 0) "taker" (.make 2 "Side" (.call 1 (.bin .Add (.var 1) (.int 1)) .nil) (.cons (.var 2) .nil))) .nil
def Lc:ISs:=.cons (.fset "Ferry" (.var 0) "giver" (.make 2 "Side" (.call 1 (.bin .Add (.var 1) (.int 1)) .nil) (.cons (.var 2) .nil))) Lb
def Ld:ISs:=.cons (.fset "Ferry" (.var 0) "places" (.bin .Mult (.lst (.cons (.call 0 (.int 0) .nil) .nil)) (.call 1 (.var 1) .nil))) Lc
abbrev EW:ISs:=Ld
def Lf:GI:={bl:=GB,gl:=GL,fns:=["first_sign","two_to"],mts:=[],mks:=[(2,"Side")],cls:=GC}
theorem _9c:chkSs Lf (X5 Ug) ["self","k","stages"] EW (Xf Ug)=true:=by decide+kernel
noncomputable def Lg:ISs:=.cons (.ret (.tup (.cons (.var 5) (.cons (.mcall 3 "Side" "show_and_see" (.fld "Ferry" (.var 0) "giver") (.cons (.var 1) (.cons (.var 2) (.cons (.fld "Side" (.fld "Ferry" (.var 0) "taker") "sign") .nil)))) .nil)))) .nil
def EX:ISs:=.cons (.fset "Ferry" (.var 0) "places" (.comp ["k"] [1,4,0] (.rng (.bi .len (.var 4) .nil)) (.nm 0) .none (.call 0 (.ix (.fld "Ferry" (.var 3) "places") (.var 0)) (.cons (.ix (.var 2) (.var 0)) (.cons (.var 1) .nil))))) Lg
noncomputable def Lh:ISs:=.cons (.expr (.mcall 1 "Side" "grow" (.fld "Ferry" (.var 0) "giver") .nil)) .nil
def Li:ISs:=.cons (.put (.var 4) (.bin .Mod (.fld "Side" (.fld "Ferry" (.var 0) "giver") "total") (.bi .len (.var 4) .nil)) (.var 3)) Lh
def EY:ISs:=.cons (.ite (.var 5) Li .nil) EX
def Lj:ISs:=.cons (.set 5 (.and (.cmp .IsNot (.var 3) .non) (.cmp .Lt (.mcall 2 "Side" "less_the_seen" (.fld "Ferry" (.var 0) "giver") .nil) (.bi .len (.var 4) .nil)))) EY
def Lk:ISs:=.cons (.set 4 (.comp ["place"] [] (.seq (.fld "Ferry" (.var 0) "places")) (.nm 0) .none (.ix (.var 0) (.int 0)))) Lj
abbrev EZ:ISs:=Lk
def Ll:GI:={bl:=GB,gl:=GL,fns:=["shown"],mts:=[(1,"Side","grow"),(2,"Side","less_the_seen"),(3,"Side","show_and_see")],mks:=[],cls:=GC}
theorem _7R:chkSs Ll (X5 Uh) ["self","moment","choice","word","words","gives"] EZ (Xf Uh)=true:=by decide+kernel
noncomputable def F0:ISs:=.cons (.ret (.tup (.cons (.var 4) (.cons (.mcall 4 "Side" "show_and_see" (.fld "Ferry" (.var 0) "taker") (.cons (.var 1) (.cons (.var 2) (.cons (.fld "Side" (.fld "Ferry" (.var 0) "giver") "sign") .nil)))) .nil)))) .nil
noncomputable def Lm:ISs:=.cons (.expr (.mcall 1 "Side" "grow" (.fld "Ferry" (.var 0) "taker") .nil)) .nil
def Ln:ISs:=.cons (.set 4 (.call 0 (.var 5) (.cons (.mcall 3 "Side" "ring_ahead" (.fld "Ferry" (.var 0) "taker") .nil) (.cons (.var 2) .nil)))) Lm
def Lo:ISs:=.cons (.set 5 (.ix (.fld "Ferry" (.var 0) "places") (.bin .Mod (.fld "Side" (.fld "Ferry" (.var 0) "taker") "total") (.bi .len (.fld "Ferry" (.var 0) "places") .nil)))) Ln
def Lp:ISs:=.cons (.ite (.and (.var 3) (.cmp .NotEq (.mcall 2 "Side" "less_the_seen" (.fld "Ferry" (.var 0) "taker") .nil) (.int 0))) Lo .nil) F0
def Lq:ISs:=.cons (.set 4 .non) Lp
abbrev F1:ISs:=Lq
def Lr:GI:={bl:=GB,gl:=GL,fns:=["sampled"],mts:=[(1,"Side","grow"),(2,"Side","less_the_seen"),(3,"Side","ring_ahead"),(4,"Side","show_and_see")],mks:=[],cls:=GC}
theorem _7Q:chkSs Lr (X5 Ui) ["self","moment","choice","wished","word","place"] F1 (Xf Ui)=true:=by decide+kernel
def F2:ISs:=.cons (.ret (.bi .list (.sl (.var 0) (.some (.int 1)) .none) .nil)) .nil
def F3:ISs:=.cons (.ret (.lst .nil)) .nil
def Ls:ISs:=.cons (.ite (.or (.cmp .Eq (.ix (.var 0) (.int 0)) (.str "num")) (.cmp .Eq (.ix (.var 0) (.int 0)) (.str "var"))) F3 .nil) F2
abbrev F4:ISs:=Ls
def Lu:GI:={bl:=GB,gl:=GL,fns:=[],mts:=[],mks:=[],cls:=GC}
theorem _by:chkSs Lu (X5 Av) ["T"] F4 (Xf Av)=true:=by decide+kernel
noncomputable def Lv:ISs:=.cons (.ret (.tup (.cons (.var 1) (.cons (.bin .Add (.var 2) (.int 1)) .nil)))) .nil
def Lw:ISs:=.cons (.set 2 (.bi .max (.var 2) (.cons (.ix (.var 4) (.int 1)) .nil))) .nil
def Lx:ISs:=.cons (.set 1 (.bin .Add (.var 1) (.ix (.var 4) (.int 0)))) Lw
def Ly:ISs:=.cons (.set 4 (.call 1 (.var 3) .nil)) Lx
def Lz:ISs:=.cons (.for_ (.nm 3) (.seq (.call 0 (.var 0) .nil)) Ly) Lv
def LA:ISs:=.cons (.set 2 (.int 0)) Lz
def LB:ISs:=.cons (.set 1 (.int 1)) LA
abbrev F5:ISs:=LB
def LC:GI:={bl:=GB,gl:=GL,fns:=["parts_within","size_of"],mts:=[],mks:=[],cls:=GC}
theorem _hq:chkSs LC (X5 Aw) ["T","parts","deepest","part","size"] F5 (Xf Aw)=true:=by decide+kernel
def LD:ISs:=.cons (.ret (.var 1)) .nil
def LE:ISs:=.cons (.expr (.mt .extend (.var 1) (.cons (.call 0 (.var 2) .nil) .nil))) .nil
def LF:ISs:=.cons (.for_ (.nm 2) (.seq (.call 1 (.var 0) .nil)) LE) LD
def F6:ISs:=.cons (.set 1 (.lst .nil)) LF
def LG:ISs:=.cons (.ret (.lst (.cons (.ix (.var 0) (.int 1)) .nil))) .nil
def LH:ISs:=.cons (.ite (.cmp .Eq (.ix (.var 0) (.int 0)) (.str "var")) LG .nil) F6
abbrev F7:ISs:=LH
def LI:GI:={bl:=GB,gl:=GL,fns:=["names_read","parts_within"],mts:=[],mks:=[],cls:=GC}
theorem _dE:chkSs LI (X5 Ax) ["T","names","part"] F7 (Xf Ax)=true:=by decide+kernel
def LJ:ISs:=.cons (.ret (.b2 .ssrt (.call 0 (.var 0) .nil))) .nil
abbrev F8:ISs:=LJ
def LK:GI:={bl:=GB,gl:=GL,fns:=["names_read"],mts:=[],mks:=[],cls:=GC}
theorem _hp:chkSs LK (X5 Ay) ["T"] F8 (Xf Ay)=true:=by decide+kernel
def LL:ISs:=.cons (.ret (.ife (.cmp .Eq (.var 1) (.var 2)) (.int 1) (.int 0))) .nil
def LM:ISs:=.cons (.ret (.ife (.cmp .Lt (.var 1) (.var 2)) (.int 1) (.int 0))) .nil
def F9:ISs:=.cons (.ite (.cmp .Eq (.var 0) (.str "less")) LM .nil) LL
noncomputable def LN:ISs:=.cons (.ret (.call 0 (.var 3) (.cons (.bin .Mult (.var 1) (.var 2)) .nil))) .nil
def CP:ISs:=.cons (.ite (.cmp .Eq (.var 0) (.str "times")) LN .nil) F9
noncomputable def LO:ISs:=.cons (.ret (.call 0 (.var 3) (.cons (.bin .Sub (.var 1) (.var 2)) .nil))) .nil
def B9:ISs:=.cons (.ite (.cmp .Eq (.var 0) (.str "minus")) LO .nil) CP
noncomputable def LP:ISs:=.cons (.ret (.call 0 (.var 3) (.cons (.bin .Add (.var 1) (.var 2)) .nil))) .nil
def LQ:ISs:=.cons (.ite (.cmp .Eq (.var 0) (.str "plus")) LP .nil) B9
abbrev Fa:ISs:=LQ
def LR:GI:={bl:=GB,gl:=GL,fns:=["cut"],mts:=[],mks:=[],cls:=GC}
theorem _bw:chkSs LR (X5 Az) ["form","left","right","width"] Fa (Xf Az)=true:=by decide+kernel
noncomputable def LS:ISs:=.cons (.ret (.call 2 (.ix (.var 0) (.int 0)) (.cons (.var 3) (.cons (.call 1 (.ix (.var 0) (.int 2)) (.cons (.var 1) (.cons (.var 2) .nil))) (.cons (.var 1) .nil))))) .nil
noncomputable def LT:ISs:=.cons (.ret (.call 1 (.ife (.cmp .NotEq (.var 3) (.int 0)) (.ix (.var 0) (.int 2)) (.ix (.var 0) (.int 3))) (.cons (.var 1) (.cons (.var 2) .nil)))) .nil
def Fb:ISs:=.cons (.ite (.cmp .Eq (.ix (.var 0) (.int 0)) (.str "pick")) LT .nil) LS
def Fc:ISs:=.cons (.set 3 (.call 1 (.ix (.var 0) (.int 1)) (.cons (.var 1) (.cons (.var 2) .nil)))) Fb
def LU:ISs:=.cons (.ret (.ix (.var 2) (.ix (.var 0) (.int 1)))) .nil
def CQ:ISs:=.cons (.ite (.cmp .Eq (.ix (.var 0) (.int 0)) (.str "var")) LU .nil) Fc
def LV:ISs:=.cons (.ret (.call 0 (.var 1) (.cons (.ix (.var 0) (.int 1)) .nil))) .nil
def LW:ISs:=.cons (.ite (.cmp .Eq (.ix (.var 0) (.int 0)) (.str "num")) LV .nil) CQ
abbrev Fd:ISs:=LW
def LX:GI:={bl:=GB,gl:=GL,fns:=["cut","worth","worth_of_two"],mts:=[],mks:=[],cls:=GC}
theorem _l2:chkSs LX (X5 AA) ["T","width","words","first"] Fd (Xf AA)=true:=by decide+kernel
def Fe:ISs:=.cons (.ret (.tup (.cons (.str "own") .nil))) .nil
noncomputable def LY:ISs:=.cons (.ret (.tup (.cons (.str "give") (.cons (.ix (.var 4) (.int 1)) (.cons (.call 0 (.ix (.var 4) (.int 2)) (.cons (.var 0) (.cons (.var 3) .nil))) .nil))))) .nil
def CS:ISs:=.cons (.ite (.cmp .Eq (.ix (.var 4) (.int 0)) (.str "give")) LY .nil) Fe
noncomputable def LZ:ISs:=.cons (.ret (.tup (.cons (.str "take") (.cons (.ix (.var 4) (.int 1)) .nil)))) .nil
def Ff:ISs:=.cons (.ite (.cmp .Eq (.ix (.var 4) (.int 0)) (.str "take")) LZ .nil) CS
def Fg:ISs:=.cons (.set 4 (.ix (.var 1) (.var 2))) Ff
def Fh:ISs:=.cons (.ret .non) .nil
def Mb:ISs:=.cons (.ite (.cmp .Eq (.var 2) (.bi .len (.var 1) .nil)) Fh .nil) Fg
abbrev Fi:ISs:=Mb
def Mc:GI:={bl:=GB,gl:=GL,fns:=["worth"],mts:=[],mks:=[],cls:=GC}
theorem _nV:chkSs Mc (X5 AB) ["width","steps","number","words","step"] Fi (Xf AB)=true:=by decide+kernel
def Ba:ISs:=.cons (.ret (.bin .Add (.var 2) (.int 1))) .nil
def Md:ISs:=.cons (.ret (.ix (.var 4) (.int 2))) .nil
def Me:ISs:=.cons (.ite (.and (.cmp .Eq (.ix (.var 4) (.int 0)) (.str "jump")) (.cmp .NotEq (.call 0 (.ix (.var 4) (.int 1)) (.cons (.var 0) (.cons (.var 3) .nil))) (.int 0))) Md .nil) Ba
def Mf:ISs:=.cons (.set 4 (.ix (.var 1) (.var 2))) Me
abbrev Fj:ISs:=Mf
def Mg:GI:={bl:=GB,gl:=GL,fns:=["worth"],mts:=[],mks:=[],cls:=GC}
theorem _bz:chkSs Mg (X5 AC) ["width","steps","number","words","step"] Fj (Xf AC)=true:=by decide+kernel
def Bb:ISs:=.cons (.ret (.var 4)) .nil
noncomputable def Mh:ISs:=.cons (.put (.var 4) (.ix (.var 1) (.int 1)) (.call 0 (.ix (.var 1) (.int 2)) (.cons (.var 0) (.cons (.var 2) .nil)))) .nil
def Bc:ISs:=.cons (.ite (.cmp .Eq (.ix (.var 1) (.int 0)) (.str "put")) Mh .nil) Bb
def Mi:ISs:=.cons (.put (.var 4) (.ix (.var 1) (.int 2)) (.var 3)) .nil
def Mj:ISs:=.cons (.ite (.cmp .Eq (.ix (.var 1) (.int 0)) (.str "take")) Mi .nil) Bc
def Ml:ISs:=.cons (.set 4 (.bi .dict (.var 2) .nil)) Mj
abbrev Fk:ISs:=Ml
def Mm:GI:={bl:=GB,gl:=GL,fns:=["worth"],mts:=[],mks:=[],cls:=GC}
theorem _cb:chkSs Mm (X5 AD) ["width","step","words","word","behind"] Fk (Xf AD)=true:=by decide+kernel
noncomputable def Mn:ISs:=.cons (.ret (.tup (.cons (.call 0 (.var 0) (.cons (.var 1) (.cons (.var 2) (.cons (.var 3) .nil)))) (.cons (.call 1 (.var 0) (.cons (.ix (.var 1) (.var 2)) (.cons (.var 3) (.cons (.var 4) .nil)))) .nil)))) .nil
abbrev Fl:ISs:=Mn
def Mo:GI:={bl:=GB,gl:=GL,fns:=["number_after","words_after"],mts:=[],mks:=[],cls:=GC}
theorem _l5:chkSs Mo (X5 AE) ["width","steps","number","words","word"] Fl (Xf AE)=true:=by decide+kernel
noncomputable def Mp:ISs:=.cons (.ret (.and (.chn .LtE .LtE (.int 1) (.bi .len (.var 0) .nil) (.glb "MOST_LETTERS" 8)) (.bi .all (.comp ["sign"] [] (.seq (.var 0)) (.nm 0) .none (.chn .LtE .LtE (.str "a") (.var 0) (.str "z"))) .nil))) .nil
abbrev Fm:ISs:=Mp
def Mq:GI:={bl:=GB,gl:=GL,fns:=[],mts:=[],mks:=[],cls:=GC}
theorem _hs:chkSs Mq (X5 AF) ["text"] Fm (Xf AF)=true:=by decide+kernel
def Zc7:ISs:=.cons .never .nil
def Mr:ISs:=.cons (.ite (.cmp .In (.var 0) (.var 1)) Zc7 .nil) .nil
def Zc8:ISs:=.cons .never .nil
def Ms:ISs:=.cons (.ite (.not (.call 0 (.var 0) .nil)) Zc8 .nil) Mr
abbrev Fn:ISs:=Ms
def Mt:GI:={bl:=GB,gl:=GL,fns:=["is_name"],mts:=[],mks:=[],cls:=GC}
theorem _ce:chkSs Mt (X5 AG) ["text","earlier"] Fn (Xf AG)=true:=by decide+kernel
def Z90:ISs:=.cons .never .nil
def Mu:ISs:=.cons (.ite (.cmp .NotIn (.var 0) (.var 1)) Z90 .nil) .nil
abbrev Fo:ISs:=Mu
def Mv:GI:={bl:=GB,gl:=GL,fns:=[],mts:=[],mks:=[],cls:=GC}
theorem _99:chkSs Mv (X5 AH) ["name","known"] Fo (Xf AH)=true:=by decide+kernel
def Mw:ISs:=.cons (.expr (.mt .append (.var 1) (.cons (.ix (.var 2) (.int 0)) .nil))) .nil
def Mx:ISs:=.cons (.expr (.call 0 (.ix (.var 2) (.int 0)) (.cons (.var 1) .nil))) Mw
def Mz:ISs:=.cons (.for_ (.nm 2) (.seq (.var 0)) Mx) .nil
def MA:ISs:=.cons (.set 1 (.lst .nil)) Mz
abbrev Fp:ISs:=MA
def MB:GI:={bl:=GB,gl:=GL,fns:=["refuse_name"],mts:=[],mks:=[],cls:=GC}
theorem _6f:chkSs MB (X5 AI) ["ferries","earlier","ferry"] Fp (Xf AI)=true:=by decide+kernel
def Z7J:ISs:=.cons .never .nil
def MC:ISs:=.cons (.ite (.not (.call 0 (.var 0) (.cons (.ix (.var 3) (.int 1)) .nil))) Z7J .nil) .nil
def MD:ISs:=.cons (.expr (.mt .append (.var 2) (.cons (.var 4) .nil))) MC
def ME:ISs:=.cons (.expr (.call 1 (.var 4) (.cons (.var 2) .nil))) MD
def MF:ISs:=.cons (.set 4 (.ix (.var 3) (.int 0))) ME
def MG:ISs:=.cons (.for_ (.nm 3) (.seq (.var 1)) MF) .nil
def MI:ISs:=.cons (.set 2 (.lst .nil)) MG
abbrev Fq:ISs:=MI
def MJ:GI:={bl:=GB,gl:=GL,fns:=["fits","refuse_name"],mts:=[],mks:=[],cls:=GC}
theorem _7P:chkSs MJ (X5 AJ) ["width","pairs","earlier","pair","name"] Fq (Xf AJ)=true:=by decide+kernel
def MK:ISs:=.cons (.expr (.call 0 (.var 3) (.cons (.var 1) .nil))) .nil
def ML:ISs:=.cons (.for_ (.nm 3) (.seq (.call 2 (.var 0) .nil)) MK) .nil
def Zc6:ISs:=.cons .never .nil
def MM:ISs:=.cons (.ite (.or (.cmp .Gt (.ix (.var 2) (.int 0)) (.glb "MOST_PARTS" 30)) (.cmp .Gt (.ix (.var 2) (.int 1)) (.glb "MOST_DEPTH" 8))) Zc6 .nil) ML
def MN:ISs:=.cons (.set 2 (.call 1 (.var 0) .nil)) MM
abbrev Fr:ISs:=MN
def MP:GI:={bl:=GB,gl:=GL,fns:=["refuse_unknown","size_of","vars_in"],mts:=[],mks:=[],cls:=GC}
theorem _cc:chkSs MP (X5 AK) ["T","known","size","name"] Fr (Xf AK)=true:=by decide+kernel
def MQ:ISs:=.cons (.expr (.call 1 (.ix (.var 0) (.int 2)) (.cons (.var 1) .nil))) .nil
def MR:ISs:=.cons (.expr (.call 1 (.ix (.var 0) (.int 1)) (.cons (.var 3) .nil))) MQ
def MS:ISs:=.cons (.expr (.call 0 (.ix (.var 0) (.int 2)) (.cons (.var 1) .nil))) .nil
def MU:ISs:=.cons (.expr (.call 1 (.ix (.var 0) (.int 1)) (.cons (.var 3) .nil))) MS
def MW:ISs:=.cons (.expr (.call 0 (.ix (.var 0) (.int 2)) (.cons (.var 1) .nil))) .nil
def MX:ISs:=.cons (.expr (.call 1 (.ix (.var 0) (.int 1)) (.cons (.var 1) .nil))) MW
def Zb7:ISs:=.cons .never .nil
def MY:ISs:=.cons (.ite (.not (.chn .LtE .LtE (.int 0) (.ix (.var 0) (.int 2)) (.var 2))) Zb7 .nil) .nil
def MZ:ISs:=.cons (.expr (.call 0 (.ix (.var 0) (.int 1)) (.cons (.var 1) .nil))) MY
def Ft:ISs:=.cons (.ite (.cmp .Eq (.ix (.var 0) (.int 0)) (.str "put")) MX MZ) .nil
def CT:ISs:=.cons (.ite (.cmp .Eq (.ix (.var 0) (.int 0)) (.str "give")) MU Ft) .nil
def N0:ISs:=.cons (.ite (.cmp .Eq (.ix (.var 0) (.int 0)) (.str "take")) MR CT) .nil
abbrev Fu:ISs:=N0
def N1:GI:={bl:=GB,gl:=GL,fns:=["refuse_term","refuse_unknown"],mts:=[],mks:=[],cls:=GC}
theorem _cd:chkSs N1 (X5 AL) ["step","known","count","ferry_names"] Fu (Xf AL)=true:=by decide+kernel
noncomputable def N2:ISs:=.cons (.expr (.call 0 (.var 4) (.cons (.var 3) (.cons (.bi .len (.ix (.var 1) (.int 2)) .nil) (.cons (.var 2) .nil))))) .nil
def N3:ISs:=.cons (.for_ (.nm 4) (.seq (.ix (.var 1) (.int 2))) N2) .nil
def N4:ISs:=.cons (.set 3 (.comp ["pair"] [] (.seq (.ix (.var 1) (.int 1))) (.nm 0) .none (.ix (.var 0) (.int 0)))) N3
def N5:ISs:=.cons (.expr (.call 1 (.var 0) (.cons (.ix (.var 1) (.int 1)) .nil))) N4
def Zal:ISs:=.cons .never .nil
def N6:ISs:=.cons (.ite (.cmp .Gt (.bi .len (.ix (.var 1) (.int 2)) .nil) (.glb "MOST_STEPS" 12)) Zal .nil) N5
def Zam:ISs:=.cons .never .nil
def N7:ISs:=.cons (.ite (.cmp .Gt (.bi .len (.ix (.var 1) (.int 1)) .nil) (.glb "MOST_VARS" 6)) Zam .nil) N6
abbrev Fv:ISs:=N7
def N8:GI:={bl:=GB,gl:=GL,fns:=["refuse_step","refuse_variables"],mts:=[],mks:=[],cls:=GC}
theorem _an:chkSs N8 (X5 AM) ["width","island","ferry_names","known","step"] Fv (Xf AM)=true:=by decide+kernel
def N9:ISs:=.cons (.expr (.call 0 (.var 0) (.cons (.var 4) (.cons (.var 2) .nil)))) .nil
def Na:ISs:=.cons (.expr (.mt .append (.var 3) (.cons (.ix (.var 4) (.int 0)) .nil))) N9
def Nb:ISs:=.cons (.expr (.call 1 (.ix (.var 4) (.int 0)) (.cons (.var 3) .nil))) Na
def Nc:ISs:=.cons (.for_ (.nm 4) (.seq (.var 1)) Nb) .nil
def Nd:ISs:=.cons (.set 3 (.bi .list (.var 2) .nil)) Nc
abbrev Fw:ISs:=Nd
def Nf:GI:={bl:=GB,gl:=GL,fns:=["refuse_island","refuse_name"],mts:=[],mks:=[],cls:=GC}
theorem _9a:chkSs Nf (X5 AN) ["width","islands","ferry_names","earlier","island"] Fw (Xf AN)=true:=by decide+kernel
def Zb8:ISs:=.cons .never .nil
def Nh:ISs:=.cons (.ite (.not (.chn .LtE .LtE (.int 1) (.ix (.var 0) (.int 4)) (.glb "MOST_STAGES" 3))) Zb8 .nil) .nil
def Zb9:ISs:=.cons .never .nil
def Ni:ISs:=.cons (.ite (.not (.chn .LtE .LtE (.int 0) (.ix (.var 0) (.int 3)) (.glb "MOST_K" 3))) Zb9 .nil) Nh
def Zba:ISs:=.cons .never .nil
def Nj:ISs:=.cons (.ite (.cmp .Eq (.ix (.var 0) (.int 1)) (.ix (.var 0) (.int 2))) Zba .nil) Ni
def Nk:ISs:=.cons (.expr (.call 0 (.ix (.var 0) (.int 2)) (.cons (.var 1) .nil))) Nj
def Nm:ISs:=.cons (.expr (.call 0 (.ix (.var 0) (.int 1)) (.cons (.var 1) .nil))) Nk
abbrev Fy:ISs:=Nm
def Nn:GI:={bl:=GB,gl:=GL,fns:=["refuse_unknown"],mts:=[],mks:=[],cls:=GC}
theorem _bx:chkSs Nn (X5 AO) ["ferry","island_names"] Fy (Xf AO)=true:=by decide+kernel
def Z7H:ISs:=.cons .never .nil
def Bd:ISs:=.cons (.ite (.and (.cmp .Eq (.ix (.var 1) (.int 0)) (.str "give")) (.cmp .NotEq (.ix (.var 2) (.ix (.var 1) (.int 1))) (.var 0))) Z7H .nil) .nil
def Z7I:ISs:=.cons .never .nil
def No:ISs:=.cons (.ite (.and (.cmp .Eq (.ix (.var 1) (.int 0)) (.str "take")) (.cmp .NotEq (.ix (.var 3) (.ix (.var 1) (.int 1))) (.var 0))) Z7I .nil) Bd
abbrev Fz:ISs:=No
def Np:GI:={bl:=GB,gl:=GL,fns:=[],mts:=[],mks:=[],cls:=GC}
theorem _7O:chkSs Np (X5 AQ) ["name","step","givers","takers"] Fz (Xf AQ)=true:=by decide+kernel
noncomputable def Nq:ISs:=.cons (.expr (.call 0 (.ix (.var 4) (.int 0)) (.cons (.var 5) (.cons (.var 2) (.cons (.var 3) .nil))))) .nil
def Nr:ISs:=.cons (.for_ (.nm 5) (.seq (.ix (.var 4) (.int 2))) Nq) .nil
def Nu:ISs:=.cons (.for_ (.nm 4) (.seq (.var 0)) Nr) .nil
def Nv:ISs:=.cons (.set 3 (.bi .dictL (.comp ["ferry"] [] (.seq (.var 1)) (.nm 0) .none (.tup (.cons (.ix (.var 0) (.int 0)) (.cons (.ix (.var 0) (.int 2)) .nil)))) .nil)) Nu
def Nw:ISs:=.cons (.set 2 (.bi .dictL (.comp ["ferry"] [] (.seq (.var 1)) (.nm 0) .none (.tup (.cons (.ix (.var 0) (.int 0)) (.cons (.ix (.var 0) (.int 1)) .nil)))) .nil)) Nv
abbrev FA:ISs:=Nw
def Ny:GI:={bl:=GB,gl:=GL,fns:=["refuse_wrong_end"],mts:=[],mks:=[],cls:=GC}
theorem _6A:chkSs Ny (X5 AR) ["islands","ferries","givers","takers","island","step"] FA (Xf AR)=true:=by decide+kernel
def Wd:ISs:=.cons (.ret (.var 0)) .nil
noncomputable def FB:ISs:=.cons (.ret (.bi .tuple (.comp ["part"] [] (.seq (.var 0)) (.nm 0) .none (.call 0 (.var 0) .nil)) .nil)) .nil
def FC:ISs:=.cons (.ite (.bi .isinst (.var 0) (.cons (.tup (.cons (.ty .list) (.cons (.ty .tuple) .nil))) .nil)) FB .nil) Wd
abbrev We:ISs:=FC
def FD:GI:={bl:=GB,gl:=GL,fns:=["frozen"],mts:=[],mks:=[],cls:=GC}
theorem Nz:chkSs FD (X5 AS) ["value"] We (Xf AS)=true:=by decide+kernel
noncomputable def NA:ISs:=.cons (.ret (.call 0 (.tup (.cons (.var 0) (.cons (.var 1) (.cons (.var 2) .nil)))) .nil)) .nil
def NB:ISs:=.cons (.expr (.call 5 (.var 1) (.cons (.var 2) .nil))) NA
def NC:ISs:=.cons (.expr (.call 2 (.var 4) (.cons (.var 3) .nil))) .nil
def ND:ISs:=.cons (.for_ (.nm 4) (.seq (.var 2)) NC) NB
def NE:ISs:=.cons (.set 3 (.comp ["island"] [] (.seq (.var 1)) (.nm 0) .none (.ix (.var 0) (.int 0)))) ND
def NF:ISs:=.cons (.expr (.call 4 (.var 0) (.cons (.var 1) (.cons (.comp ["ferry"] [] (.seq (.var 2)) (.nm 0) .none (.ix (.var 0) (.int 0))) .nil)))) NE
def NG:ISs:=.cons (.expr (.call 3 (.var 2) .nil)) NF
def ZnI:ISs:=.cons .never .nil
def NH:ISs:=.cons (.ite (.cmp .Gt (.bi .len (.var 2) .nil) (.glb "MOST_FERRIES" 6)) ZnI .nil) NG
def ZnJ:ISs:=.cons .never .nil
def NI:ISs:=.cons (.ite (.cmp .Gt (.bi .len (.var 1) .nil) (.glb "MOST_ISLANDS" 5)) ZnJ .nil) NH
def ZnK:ISs:=.cons .never .nil
def NJ:ISs:=.cons (.ite (.not (.call 1 (.var 0) .nil)) ZnK .nil) NI
abbrev FE:ISs:=NJ
def NK:GI:={bl:=GB,gl:=GL,fns:=["frozen","is_width","refuse_ferry","refuse_ferry_names","refuse_islands","refuse_wrong_ends"],mts:=[],mks:=[],cls:=GC}
theorem _nX:chkSs NK (X5 AT) ["width","islands","ferries","island_names","ferry"] FE (Xf AT)=true:=by decide+kernel
def Zdt:ISs:=.cons .never .nil
def NL:ISs:=.cons (.ret (.var 2)) .nil
def NM:ISs:=.cons (.ite (.cmp .Eq (.ix (.var 2) (.int 0)) (.var 1)) NL .nil) .nil
def NN:ISs:=.cons (.for_ (.nm 2) (.seq (.var 0)) NM) Zdt
abbrev FF:ISs:=NN
def NO:GI:={bl:=GB,gl:=GL,fns:=[],mts:=[],mks:=[],cls:=GC}
theorem _dD:chkSs NO (X5 AU) ["row","name","one"] FF (Xf AU)=true:=by decide+kernel
def NP:ISs:=.cons (.ret (.call 0 (.ix (.var 0) (.int 1)) (.cons (.var 1) .nil))) .nil
abbrev FG:ISs:=NP
def NQ:GI:={bl:=GB,gl:=GL,fns:=["one_called"],mts:=[],mks:=[],cls:=GC}
theorem _eN:chkSs NQ (X5 AV) ["world","name"] FG (Xf AV)=true:=by decide+kernel
noncomputable def NR:ISs:=.cons (.ret (.tup (.cons (.str "wait") (.cons (.ix (.var 0) (.int 1)) .nil)))) .nil
def NS:ISs:=.cons (.ret (.tup (.cons (.str "own") .nil))) .nil
def NT:ISs:=.cons (.ite (.cmp .Eq (.ix (.var 0) (.int 0)) (.str "own")) NS .nil) NR
def NU:ISs:=.cons (.ret (.tup (.cons (.str "done") .nil))) .nil
def NV:ISs:=.cons (.ite (.cmp .Is (.var 0) .non) NU .nil) NT
abbrev FH:ISs:=NV
def NW:GI:={bl:=GB,gl:=GL,fns:=[],mts:=[],mks:=[],cls:=GC}
theorem _dC:chkSs NW (X5 AW) ["asked"] FH (Xf AW)=true:=by decide+kernel
noncomputable def NX:ISs:=.cons (.ret (.and (.cmp .IsNot (.var 0) .non) (.and (.cmp .NotEq (.ix (.var 0) (.int 0)) (.str "own")) (.cmp .Eq (.ix (.var 0) (.int 1)) (.var 1))))) .nil
abbrev FI:ISs:=NX
def NY:GI:={bl:=GB,gl:=GL,fns:=[],mts:=[],mks:=[],cls:=GC}
theorem _dF:chkSs NY (X5 AX) ["asked","ferry_name"] FI (Xf AX)=true:=by decide+kernel
noncomputable def NZ:ISs:=.cons (.fset "Run" (.var 0) "taken_so_far" (.bi .dictL (.comp ["ferry"] [] (.seq (.ix (.var 1) (.int 2))) (.nm 0) .none (.tup (.cons (.ix (.var 0) (.int 0)) (.cons (.lst .nil) .nil)))) .nil)) .nil
def O0:ISs:=.cons (.fset "Run" (.var 0) "given_so_far" (.bi .dictL (.comp ["ferry"] [] (.seq (.ix (.var 1) (.int 2))) (.nm 0) .none (.tup (.cons (.ix (.var 0) (.int 0)) (.cons (.lst .nil) .nil)))) .nil)) NZ
def O1:ISs:=.cons (.fset "Run" (.var 0) "boats" (.bi .dictL (.comp ["ferry"] [] (.seq (.ix (.var 1) (.int 2))) (.nm 0) .none (.tup (.cons (.ix (.var 0) (.int 0)) (.cons (.make 0 "Ferry" (.ix (.var 0) (.int 3)) (.cons (.ix (.var 0) (.int 4)) .nil)) .nil)))) .nil)) O0
def O2:ISs:=.cons (.fset "Run" (.var 0) "steps_so_far" (.bi .dictL (.comp ["island"] [] (.seq (.ix (.var 1) (.int 1))) (.nm 0) .none (.tup (.cons (.ix (.var 0) (.int 0)) (.cons (.int 0) .nil)))) .nil)) O1
def O3:ISs:=.cons (.fset "Run" (.var 0) "words_now" (.bi .dictL (.comp ["island"] [] (.seq (.ix (.var 1) (.int 1))) (.nm 0) .none (.tup (.cons (.ix (.var 0) (.int 0)) (.cons (.bi .dict (.ix (.var 0) (.int 1)) .nil) .nil)))) .nil)) O2
def O4:ISs:=.cons (.fset "Run" (.var 0) "next_numbers" (.bi .dictL (.comp ["island"] [] (.seq (.ix (.var 1) (.int 1))) (.nm 0) .none (.tup (.cons (.ix (.var 0) (.int 0)) (.cons (.int 0) .nil)))) .nil)) O3
def O5:ISs:=.cons (.fset "Run" (.var 0) "moment" (.int 0)) O4
def O6:ISs:=.cons (.fset "Run" (.var 0) "world" (.var 1)) O5
abbrev FJ:ISs:=O6
def O7:GI:={bl:=GB,gl:=GL,fns:=[],mts:=[],mks:=[(0,"Ferry")],cls:=GC}
theorem _bB:chkSs O7 (X5 Uj) ["self","world"] FJ (Xf Uj)=true:=by decide+kernel
noncomputable def Be:ISs:=.cons (.ret (.tup (.cons (.var 1) (.cons (.var 4) (.cons (.var 6) (.cons (.var 7) .nil)))))) .nil
noncomputable def Bf:ISs:=.cons (.expr (.mcall 4 "Run" "go_on" (.var 0) (.cons (.var 1) (.cons (.var 3) (.cons (.ife (.cmp .Eq (.ix (.var 6) (.int 0)) (.str "take")) (.ix (.var 6) (.int 2)) .non) .nil))))) .nil
def O8:ISs:=.cons (.ite (.cmp .NotIn (.ix (.var 6) (.int 0)) (.tup (.cons (.str "done") (.cons (.str "wait") .nil)))) Bf .nil) Be
def O9:ISs:=.cons (.fset "Run" (.var 0) "moment" (.bin .Add (.fld "Run" (.var 0) "moment") (.int 1))) O8
def FK:ISs:=.cons (.set 6 (.ix (.var 10) (.int 0))) .nil
def Oa:ISs:=.cons (.ite (.cmp .IsNot (.ix (.var 10) (.int 0)) .non) FK .nil) .nil
def Ob:ISs:=.cons (.expr (.mt .append (.var 7) (.cons (.tup (.cons (.ix (.var 9) (.int 0)) (.cons (.ix (.var 10) (.int 1)) .nil))) .nil))) Oa
def Oc:ISs:=.cons (.set 10 (.mcall 5 "Run" "ring_ferry" (.var 0) (.cons (.var 9) (.cons (.var 1) (.cons (.bin .FloorDiv (.var 2) (.call 1 (.bin .Mult (.glb "BITS_A_FERRY" 8) (.var 8)) .nil)) (.cons (.var 5) .nil)))))) Ob
def Od:ISs:=.cons (.ite (.cmp .In (.var 1) (.tup (.cons (.ix (.var 9) (.int 1)) (.cons (.ix (.var 9) (.int 2)) .nil)))) Oc .nil) .nil
def Oe:ISs:=.cons (.set 9 (.ix (.ix (.fld "Run" (.var 0) "world") (.int 2)) (.var 8))) Od
def Of:ISs:=.cons (.for_ (.nm 8) (.rng (.bi .len (.ix (.fld "Run" (.var 0) "world") (.int 2)) .nil)) Oe) O9
def Og:ISs:=.cons (.set 7 (.lst .nil)) Of
def Oh:ISs:=.cons (.set 6 (.call 2 (.var 5) .nil)) Og
def Oi:ISs:=.cons (.set 5 (.call 3 (.ix (.fld "Run" (.var 0) "world") (.int 0)) (.cons (.var 3) (.cons (.var 4) (.cons (.ix (.fld "Run" (.var 0) "words_now") (.var 1)) .nil))))) Oh
def Oj:ISs:=.cons (.set 4 (.ix (.fld "Run" (.var 0) "next_numbers") (.var 1))) Oi
def Ol:ISs:=.cons (.set 3 (.ix (.call 0 (.fld "Run" (.var 0) "world") (.cons (.var 1) .nil)) (.int 2))) Oj
abbrev FL:ISs:=Ol
def Om:GI:={bl:=GB,gl:=GL,fns:=["island_of","two_to","what_alone","wish"],mts:=[(4,"Run","go_on"),(5,"Run","ring_ferry")],mks:=[],cls:=GC}
theorem _fS:chkSs Om (X5 Uk) ["self","name","choice","steps","number","asked","what","samples","j","ferry","told"] FL (Xf Uk)=true:=by decide+kernel
noncomputable def On:ISs:=.cons (.ret (.tup (.cons (.tup (.cons (.str "take") (.cons (.ix (.var 1) (.int 0)) (.cons (.ix (.var 7) (.int 0)) .nil)))) (.cons (.ix (.var 7) (.int 1)) .nil)))) .nil
def Oo:ISs:=.cons (.expr (.mt .append (.ix (.fld "Run" (.var 0) "taken_so_far") (.ix (.var 1) (.int 0))) (.cons (.ix (.var 7) (.int 0)) .nil))) On
def Op:ISs:=.cons (.ret (.var 7)) .nil
def Oq:ISs:=.cons (.ite (.cmp .Is (.ix (.var 7) (.int 0)) .non) Op .nil) Oo
def FM:ISs:=.cons (.set 7 (.mcall 2 "Ferry" "ring_taker" (.var 5) (.cons (.fld "Run" (.var 0) "moment") (.cons (.var 3) (.cons (.var 6) .nil))))) Oq
def Os:ISs:=.cons (.ret (.tup (.cons (.var 4) (.cons (.ix (.var 7) (.int 1)) .nil)))) .nil
def Ot:ISs:=.cons (.expr (.mt .append (.ix (.fld "Run" (.var 0) "given_so_far") (.ix (.var 1) (.int 0))) (.cons (.ix (.var 4) (.int 2)) .nil))) Os
def Ou:ISs:=.cons (.ret (.tup (.cons .non (.cons (.ix (.var 7) (.int 1)) .nil)))) .nil
def FN:ISs:=.cons (.ite (.not (.ix (.var 7) (.int 0))) Ou .nil) Ot
def Ov:ISs:=.cons (.set 7 (.mcall 1 "Ferry" "ring_giver" (.var 5) (.cons (.fld "Run" (.var 0) "moment") (.cons (.var 3) (.cons (.ife (.var 6) (.ix (.var 4) (.int 2)) .non) .nil))))) FN
def Ow:ISs:=.cons (.ite (.cmp .Eq (.ix (.var 1) (.int 1)) (.var 2)) Ov .nil) FM
def Ox:ISs:=.cons (.set 6 (.call 0 (.var 4) (.cons (.ix (.var 1) (.int 0)) .nil))) Ow
def Oy:ISs:=.cons (.set 5 (.ix (.fld "Run" (.var 0) "boats") (.ix (.var 1) (.int 0)))) Ox
abbrev FO:ISs:=Oy
def Oz:GI:={bl:=GB,gl:=GL,fns:=["is_wish_of"],mts:=[(1,"Ferry","ring_giver"),(2,"Ferry","ring_taker")],mks:=[],cls:=GC}
theorem _9b:chkSs Oz (X5 Ul) ["self","ferry","name","choice","asked","boat","wished","told"] FO (Xf Ul)=true:=by decide+kernel
noncomputable def OA:ISs:=.cons (.put (.fld "Run" (.var 0) "steps_so_far") (.var 1) (.bin .Add (.ix (.fld "Run" (.var 0) "steps_so_far") (.var 1)) (.int 1))) .nil
def OB:ISs:=.cons (.put (.fld "Run" (.var 0) "words_now") (.var 1) (.ix (.var 4) (.int 1))) OA
def OC:ISs:=.cons (.put (.fld "Run" (.var 0) "next_numbers") (.var 1) (.ix (.var 4) (.int 0))) OB
def OD:ISs:=.cons (.set 4 (.call 0 (.ix (.fld "Run" (.var 0) "world") (.int 0)) (.cons (.var 2) (.cons (.ix (.fld "Run" (.var 0) "next_numbers") (.var 1)) (.cons (.ix (.fld "Run" (.var 0) "words_now") (.var 1)) (.cons (.var 3) .nil)))))) OC
abbrev FP:ISs:=OD
def OE:GI:={bl:=GB,gl:=GL,fns:=["after"],mts:=[],mks:=[],cls:=GC}
theorem _eU:chkSs OE (X5 Um) ["self","name","steps","word","went"] FP (Xf Um)=true:=by decide+kernel
def OF:ISs:=.cons (.ret (.int 0)) .nil
def OG:ISs:=.cons (.ret (.ix (.var 0) (.var 1))) .nil
def OH:ISs:=.cons (.ite (.cmp .Lt (.var 1) (.bi .len (.var 0) .nil)) OG .nil) OF
abbrev FQ:ISs:=OH
def OI:GI:={bl:=GB,gl:=GL,fns:=[],mts:=[],mks:=[],cls:=GC}
theorem _bA:chkSs OI (X5 AY) ["script","k"] FQ (Xf AY)=true:=by decide+kernel
noncomputable def OJ:ISs:=.cons (.ret (.bin .Add (.bin .Add (.bin .Mult (.ix (.var 2) (.var 3)) (.var 6)) (.var 7)) (.bin .Mult (.ix (.var 2) (.var 3)) (.bin .Sub (.bin .Sub (.var 5) (.int 1)) (.var 6))))) .nil
def OK:ISs:=.cons (.set 7 (.ix (.var 2) (.bin .Mod (.bin .Add (.bin .FloorDiv (.var 0) (.int 4992)) (.bin .Mult (.int 7) (.var 1))) (.int 26)))) OJ
def OL:ISs:=.cons (.set 6 (.bin .Mod (.bin .Mod (.bin .FloorDiv (.var 0) (.int 24)) (.int 8)) (.var 5))) OK
def OM:ISs:=.cons (.set 5 (.bin .Add (.int 1) (.bin .Mod (.bin .FloorDiv (.var 0) (.int 3)) (.int 8)))) OL
noncomputable def ON:ISs:=.cons (.ret (.bin .Add (.bin .Mult (.ix (.var 2) (.var 3)) (.bin .Add (.int 1) (.bin .Mod (.bin .Add (.bin .Mult (.int 3) (.var 1)) (.bin .FloorDiv (.var 0) (.int 192))) (.int 7)))) (.bin .Mult (.var 4) (.bin .FloorDiv (.var 1) (.int 7))))) .nil
def OO:ISs:=.cons (.set 4 (.ix (.var 2) (.bin .Mod (.bin .Add (.bin .Add (.var 3) (.int 1)) (.bin .Mod (.bin .FloorDiv (.var 0) (.int 4992)) (.int 25))) (.int 26)))) ON
def OP:ISs:=.cons (.ite (.cmp .Eq (.bin .Mod (.var 0) (.int 3)) (.int 2)) OO .nil) OM
def OQ:ISs:=.cons (.set 3 (.bin .Mod (.bin .FloorDiv (.var 0) (.int 192)) (.int 26))) OP
def OR:ISs:=.cons (.set 2 (.str "abcdefghijklmnopqrstuvwxyz")) OQ
abbrev FR:ISs:=OR
def OS:GI:={bl:=GB,gl:=GL,fns:=[],mts:=[],mks:=[],cls:=GC}
theorem _eR:chkSs OS (X5 AZ) ["number","k","letters","fill","other","long","at","sign"] FR (Xf AZ)=true:=by decide+kernel
noncomputable def OT:ISs:=.cons (.ret (.tup (.cons (.str "plus") (.cons (.var 2) (.cons (.tup (.cons (.str "var") (.cons (.ix (.var 1) (.bin .Mod (.bin .FloorDiv (.var 0) (.int 224)) (.int 2))) .nil))) .nil))))) .nil
noncomputable def OU:ISs:=.cons (.ret (.tup (.cons (.str "pick") (.cons (.tup (.cons (.str "less") (.cons (.var 2) (.cons (.var 3) .nil)))) (.cons (.var 3) (.cons (.var 2) .nil)))))) .nil
def OV:ISs:=.cons (.ite (.cmp .Eq (.bin .Mod (.var 0) (.int 8)) (.int 5)) OU .nil) OT
noncomputable def OW:ISs:=.cons (.ret (.tup (.cons (.ix (.lst (.cons (.str "plus") (.cons (.str "minus") (.cons (.str "times") .nil)))) (.bin .Sub (.bin .Mod (.var 0) (.int 8)) (.int 2))) (.cons (.var 2) (.cons (.var 3) .nil))))) .nil
def OX:ISs:=.cons (.ite (.cmp .Lt (.bin .Mod (.var 0) (.int 8)) (.int 5)) OW .nil) OV
noncomputable def OY:ISs:=.cons (.ret (.ix (.lst (.cons (.var 2) (.cons (.var 3) .nil))) (.bin .Mod (.var 0) (.int 2)))) .nil
def OZ:ISs:=.cons (.ite (.cmp .Lt (.bin .Mod (.var 0) (.int 8)) (.int 2)) OY .nil) OX
def P0:ISs:=.cons (.set 3 (.tup (.cons (.str "num") (.cons (.ix (.lst (.cons (.bin .Sub (.bin .Mod (.bin .FloorDiv (.var 0) (.int 16)) (.int 7)) (.int 3)) (.cons (.bin .Mod (.bin .Mult (.bin .FloorDiv (.var 0) (.int 16)) (.int 1000000007)) (.bin .Pow (.int 10) (.int 20))) .nil))) (.bin .Mod (.bin .FloorDiv (.var 0) (.int 112)) (.int 2))) .nil)))) OZ
def P1:ISs:=.cons (.set 2 (.tup (.cons (.str "var") (.cons (.ix (.var 1) (.bin .Mod (.bin .FloorDiv (.var 0) (.int 8)) (.int 2))) .nil)))) P0
abbrev FS:ISs:=P1
def P2:GI:={bl:=GB,gl:=GL,fns:=[],mts:=[],mks:=[],cls:=GC}
theorem _eP:chkSs P2 (X5 B0) ["number","names","one","other"] FS (Xf B0)=true:=by decide+kernel
noncomputable def P3:ISs:=.cons (.ret (.tup (.cons (.str "put") (.cons (.ix (.var 2) (.bin .Mod (.bin .FloorDiv (.var 0) (.int 8)) (.int 2))) (.cons (.call 0 (.var 7) (.cons (.var 2) .nil)) .nil))))) .nil
noncomputable def P4:ISs:=.cons (.ret (.tup (.cons (.str "jump") (.cons (.call 0 (.var 7) (.cons (.var 2) .nil)) (.cons (.bin .Mod (.bin .FloorDiv (.var 0) (.int 8)) (.bin .Add (.var 4) (.int 1))) .nil))))) .nil
def FT:ISs:=.cons (.ite (.cmp .Eq (.bin .Mod (.var 0) (.int 8)) (.int 7)) P4 .nil) P3
noncomputable def P5:ISs:=.cons (.ret (.tup (.cons (.str "give") (.cons (.ix (.var 6) (.bin .Mod (.bin .FloorDiv (.var 0) (.int 8)) (.bi .len (.var 6) .nil))) (.cons (.call 0 (.var 7) (.cons (.var 2) .nil)) .nil))))) .nil
def FU:ISs:=.cons (.ite (.and (.cmp .Lt (.bin .Mod (.var 0) (.int 8)) (.int 6)) (.cmp .NotEq (.var 6) (.lst .nil))) P5 .nil) FT
noncomputable def P6:ISs:=.cons (.ret (.tup (.cons (.str "take") (.cons (.ix (.var 5) (.bin .Mod (.bin .FloorDiv (.var 0) (.int 8)) (.bi .len (.var 5) .nil))) (.cons (.ix (.var 2) (.bin .Mod (.var 7) (.int 2))) .nil))))) .nil
def P7:ISs:=.cons (.ite (.and (.cmp .Lt (.bin .Mod (.var 0) (.int 8)) (.int 3)) (.cmp .NotEq (.var 5) (.lst .nil))) P6 .nil) FU
def P8:ISs:=.cons (.set 7 (.bin .FloorDiv (.var 0) (.int 128))) P7
def P9:ISs:=.cons (.set 6 (.comp ["ferry"] [1] (.seq (.var 3)) (.nm 0) (.some (.cmp .Eq (.ix (.var 0) (.int 1)) (.var 1))) (.ix (.var 0) (.int 0)))) P8
def Pa:ISs:=.cons (.set 5 (.comp ["ferry"] [1] (.seq (.var 3)) (.nm 0) (.some (.cmp .Eq (.ix (.var 0) (.int 2)) (.var 1))) (.ix (.var 0) (.int 0)))) P9
abbrev FV:ISs:=Pa
def Pb:GI:={bl:=GB,gl:=GL,fns:=["_law_term"],mts:=[],mks:=[],cls:=GC}
theorem _eQ:chkSs Pb (X5 B1) ["number","name","names","ferries","many","takes","gives","rest"] FV (Xf B1)=true:=by decide+kernel
noncomputable def FW:ISs:=.cons (.ret (.tup (.cons (.var 5) (.cons (.var 7) (.cons (.var 10) .nil))))) .nil
noncomputable def Pc:ISs:=.cons (.expr (.mt .append (.var 10) (.cons (.tup (.cons (.str "jump") (.cons (.tup (.cons (.str "num") (.cons (.int 1) .nil))) (.cons (.int 0) .nil)))) .nil))) .nil
def Pd:ISs:=.cons (.ite (.cmp .Eq (.var 9) (.int 1)) Pc .nil) FW
def Pe:ISs:=.cons (.set 0 (.bin .FloorDiv (.var 0) (.bin .Pow (.int 10) (.int 8)))) .nil
def Pf:ISs:=.cons (.expr (.mt .append (.var 10) (.cons (.call 1 (.bin .Mod (.var 0) (.bin .Pow (.int 10) (.int 8))) (.cons (.var 5) (.cons (.var 6) (.cons (.var 3) (.cons (.bin .Add (.var 8) (.var 9)) .nil))))) .nil))) Pe
def Pg:ISs:=.cons (.for_ (.nm 11) (.rng (.var 8)) Pf) Pd
def Ph:ISs:=.cons (.set 10 (.lst .nil)) Pg
def Pi:ISs:=.cons (.set 0 (.bin .FloorDiv (.var 0) (.int 112))) Ph
def Pj:ISs:=.cons (.set 9 (.bi .int (.cmp .Lt (.bin .Mod (.bin .FloorDiv (.var 0) (.int 28)) (.int 4)) (.var 4)) .nil)) Pi
def Pk:ISs:=.cons (.set 8 (.bin .Mod (.bin .FloorDiv (.var 0) (.int 4)) (.int 7))) Pj
def Pl:ISs:=.cons (.set 7 (.lst (.cons (.tup (.cons (.ix (.var 6) (.int 0)) (.cons (.bin .Mod (.var 0) (.int 2)) .nil))) (.cons (.tup (.cons (.ix (.var 6) (.int 1)) (.cons (.bin .Mod (.bin .FloorDiv (.var 0) (.int 2)) (.int 2)) .nil))) .nil)))) Pk
def Pn:ISs:=.cons (.set 6 (.lst (.cons (.call 0 (.var 2) (.cons (.int 9) .nil)) (.cons (.call 0 (.var 2) (.cons (.int 10) .nil)) .nil)))) Pl
def Po:ISs:=.cons (.set 5 (.call 0 (.var 2) (.cons (.var 1) .nil))) Pn
abbrev FX:ISs:=Po
def Pp:GI:={bl:=GB,gl:=GL,fns:=["_law_name","_law_step"],mts:=[],mks:=[],cls:=GC}
theorem _ci:chkSs Pp (X5 B3) ["number","k","naming","ferries","around","name","names","pairs","many","ending","steps","j"] FX (Xf B3)=true:=by decide+kernel
noncomputable def Pq:ISs:=.cons (.ret (.tup (.cons (.var 4) (.cons (.var 12) (.cons (.var 6) .nil))))) .nil
noncomputable def Pr:ISs:=.cons (.expr (.mt .append (.var 12) (.cons (.call 1 (.bin .Mod (.call 0 (.var 0) (.cons (.bin .Add (.int 6) (.var 7)) .nil)) (.bin .Pow (.int 10) (.int 60))) (.cons (.var 7) (.cons (.var 3) (.cons (.var 6) (.cons (.var 1) .nil))))) .nil))) .nil
def Ps:ISs:=.cons (.for_ (.nm 7) (.rng (.var 5)) Pr) Pq
def Pt:ISs:=.cons (.set 12 (.lst .nil)) Ps
noncomputable def Pu:ISs:=.cons (.expr (.mt .append (.var 6) (.cons (.tup (.cons (.call 2 (.var 3) (.cons (.bin .Add (.int 5) (.var 7)) .nil)) (.cons (.ix (.var 11) (.int 0)) (.cons (.ix (.var 11) (.int 1)) (.cons (.bin .Mod (.bin .FloorDiv (.var 8) (.int 20)) (.int 4)) (.cons (.bin .Add (.int 1) (.bin .Mod (.bin .FloorDiv (.var 8) (.int 80)) (.int 3))) .nil)))))) .nil))) .nil
def Pv:ISs:=.cons (.set 11 (.tup (.cons (.call 2 (.var 3) (.cons (.var 9) .nil)) (.cons (.call 2 (.var 3) (.cons (.var 10) .nil)) .nil)))) Pu
def Pw:ISs:=.cons (.set 10 (.bin .Mod (.bin .Add (.bin .Add (.var 9) (.int 1)) (.bin .Mod (.bin .FloorDiv (.var 8) (.int 5)) (.bin .Sub (.var 5) (.int 1)))) (.var 5))) Pv
def Px:ISs:=.cons (.set 9 (.bin .Mod (.var 8) (.var 5))) Pw
def Py:ISs:=.cons (.set 8 (.bin .FloorDiv (.bin .Mod (.call 0 (.var 0) (.cons (.bin .Add (.int 2) (.bin .Mod (.var 7) (.int 4))) .nil)) (.bin .Pow (.int 10) (.int 15))) (.ix (.lst (.cons (.int 1) (.cons (.int 1000000) .nil))) (.bin .FloorDiv (.var 7) (.int 4))))) Px
def Pz:ISs:=.cons (.for_ (.nm 7) (.rng (.bi .min (.bin .Sub (.bin .Mult (.int 6) (.var 5)) (.int 6)) (.cons (.bin .Mod (.bin .FloorDiv (.var 2) (.int 2048)) (.int 7)) .nil))) Py) Pt
def PB:ISs:=.cons (.set 6 (.lst .nil)) Pz
def PC:ISs:=.cons (.set 5 (.bin .Add (.int 1) (.bin .Mod (.var 2) (.int 5)))) PB
def PD:ISs:=.cons (.set 4 (.ix (.lst (.cons (.bin .Add (.int 1) (.bin .Mod (.bin .FloorDiv (.var 2) (.int 16)) (.int 64))) (.cons (.bin .Add (.int 1) (.bin .Mod (.bin .FloorDiv (.var 2) (.int 16)) (.int 5))) .nil))) (.bin .Mod (.bin .FloorDiv (.var 2) (.int 1024)) (.int 2)))) PC
def PF:ISs:=.cons (.set 3 (.bin .Mod (.call 0 (.var 0) (.cons (.int 1) .nil)) (.bin .Pow (.int 10) (.int 9)))) PD
def PH:ISs:=.cons (.set 2 (.bin .Mod (.call 0 (.var 0) (.cons (.int 0) .nil)) (.bin .Pow (.int 10) (.int 9)))) PF
abbrev FY:ISs:=PH
def PJ:GI:={bl:=GB,gl:=GL,fns:=["_law_cell_at","_law_island","_law_name"],mts:=[],mks:=[],cls:=GC}
theorem _cg:chkSs PJ (X5 B4) ["script","around","head","naming","width","many","ferries","k","number","giver","taker","ends","islands"] FY (Xf B4)=true:=by decide+kernel
def PK:ISs:=.cons (.ret (.var 2)) .nil
noncomputable def PL:ISs:=.cons (.expr (.mt .append (.var 2) (.cons (.tup (.cons (.ix (.ix (.var 1) (.bin .Mod (.var 3) (.bi .len (.var 1) .nil))) (.int 0)) (.cons (.bin .Mod (.bin .FloorDiv (.var 3) (.bi .len (.var 1) .nil)) (.bin .Pow (.int 10) (.int 30))) .nil))) .nil))) .nil
def PM:ISs:=.cons (.for_ (.nm 3) (.seq (.var 0)) PL) PK
def PN:ISs:=.cons (.set 2 (.lst .nil)) PM
abbrev FZ:ISs:=PN
def PP:GI:={bl:=GB,gl:=GL,fns:=[],mts:=[],mks:=[],cls:=GC}
theorem _dH:chkSs PP (X5 B5) ["cells","islands","rings","cell"] FZ (Xf B5)=true:=by decide+kernel
def PQ:ISs:=.cons (.ret (.bin .BitXor (.var 2) (.bin .FloorDiv (.var 2) (.int 2)))) .nil
def PR:ISs:=.cons (.set 2 (.bin .Mod (.var 0) (.bin .LShift (.int 2) (.var 1)))) PQ
abbrev G0:ISs:=PR
def PU:GI:={bl:=GB,gl:=GL,fns:=[],mts:=[],mks:=[],cls:=GC}
theorem _eS:chkSs PU (X5 B6) ["count","k","rest"] G0 (Xf B6)=true:=by decide+kernel
noncomputable def PV:ISs:=.cons (.ret (.bin .BitXor (.var 5) (.bin .BitAnd (.bin .BitXor (.var 5) (.var 4)) (.var 3)))) .nil
def PX:ISs:=.cons (.set 5 (.call 0 (.ix (.var 1) (.int 1)) (.cons (.var 2) .nil))) PV
def PY:ISs:=.cons (.ret (.var 4)) .nil
def PZ:ISs:=.cons (.ite (.cmp .LtE (.ix (.var 1) (.int 2)) (.ix (.var 0) (.int 2))) PY .nil) PX
def Q0:ISs:=.cons (.set 4 (.call 0 (.ix (.var 1) (.int 0)) (.cons (.var 2) .nil))) PZ
abbrev G1:ISs:=Q0
def Q1:GI:={bl:=GB,gl:=GL,fns:=["_law_code"],mts:=[],mks:=[],cls:=GC}
theorem _ch:chkSs Q1 (X5 B7) ["own","other","k","choice","now","ahead"] G1 (Xf B7)=true:=by decide+kernel
def Q2:ISs:=.cons (.ret (.bl true)) .nil
def Q3:ISs:=.cons (.set 7 (.bin .Add (.var 7) (.int 1))) .nil
def ZnL:ISs:=.cons (.ret (.bl false)) .nil
def Q4:ISs:=.cons (.ite (.cmp .NotEq (.ix (.var 10) (.int 3)) (.var 11)) ZnL .nil) Q3
noncomputable def Q5:ISs:=.cons (.put (.var 13) (.var 8) (.tup (.cons (.var 15) (.cons (.ix (.ix (.var 13) (.var 8)) (.int 0)) (.cons (.var 7) .nil))))) .nil
def Q6:ISs:=.cons (.set 15 (.bin .Add (.ix (.ix (.var 13) (.var 8)) (.int 0)) (.bi .int (.and (.cmp .Eq (.bi .len (.ix (.var 10) (.int 2)) .nil) (.int 3)) (.cmp .Eq (.ix (.ix (.var 10) (.int 2)) (.int 1)) (.ix (.var 6) (.int 0)))) .nil))) Q5
def Q7:ISs:=.cons (.expr (.mt .append (.var 11) (.cons (.tup (.cons (.ix (.var 6) (.int 0)) (.cons (.call 1 (.ix (.var 13) (.var 8)) (.cons (.ix (.var 13) (.var 14)) (.cons (.ix (.var 6) (.int 3)) (.cons (.bin .FloorDiv (.var 9) (.bin .LShift (.int 1) (.bin .Mult (.int 8) (.var 12)))) .nil)))) .nil))) .nil))) Q6
def Q8:ISs:=.cons (.set 14 (.ix (.lst (.cons (.ix (.var 6) (.int 1)) (.cons (.ix (.var 6) (.int 2)) .nil))) (.bi .int (.cmp .Eq (.var 8) (.ix (.var 6) (.int 1))) .nil))) Q7
def Q9:ISs:=.cons (.set 13 (.ix (.var 5) (.ix (.var 6) (.int 0)))) Q8
def Qa:ISs:=.cons (.ite (.cmp .In (.var 8) (.tup (.cons (.ix (.var 6) (.int 1)) (.cons (.ix (.var 6) (.int 2)) .nil)))) Q9 .nil) .nil
def Qb:ISs:=.cons (.set 6 (.ix (.var 3) (.var 12))) Qa
def Qc:ISs:=.cons (.for_ (.nm 12) (.rng (.bi .len (.var 3) .nil)) Qb) Q4
def Qd:ISs:=.cons (.set 11 (.lst .nil)) Qc
def Qe:ISs:=.cons (.set 10 (.mcall 5 "Run" "ring" (.var 4) (.cons (.var 8) (.cons (.var 9) .nil)))) Qd
def Qf:ISs:=.cons (.for_ (.tup (.cons (.nm 8) (.cons (.nm 9) .nil))) (.seq (.call 0 (.sl (.var 0) (.some (.int 10)) (.some (.int 90))) (.cons (.var 2) .nil))) Qe) Q2
def Qg:ISs:=.cons (.set 7 (.int 0)) Qf
noncomputable def Qh:ISs:=.cons (.put (.var 5) (.ix (.var 6) (.int 0)) (.disp (.cons (.ix (.var 6) (.int 1)) (.tup (.cons (.int 0) (.cons (.int 0) (.cons (.neg (.int 1)) .nil)))) (.cons (.ix (.var 6) (.int 2)) (.tup (.cons (.int 0) (.cons (.int 0) (.cons (.neg (.int 1)) .nil)))) .nil)))) .nil
def Qi:ISs:=.cons (.for_ (.nm 6) (.seq (.var 3)) Qh) Qg
def Qj:ISs:=.cons (.set 5 .dic) Qi
def Qk:ISs:=.cons (.set 4 (.make 4 "Run" (.call 3 (.var 1) (.cons (.bi .list (.var 2) .nil) (.cons (.bi .list (.var 3) .nil) .nil))) .nil)) Qj
def Ql:ISs:=.cons (.asg (.cons (.nm 1) (.cons (.nm 2) (.cons (.nm 3) .nil))) (.call 2 (.var 0) (.cons (.int 3) .nil))) Qk
abbrev G2:ISs:=Ql
def Qm:GI:={bl:=GB,gl:=GL,fns:=["_law_rings","_law_sample","_law_things","made"],mts:=[(5,"Run","ring")],mks:=[(4,"Run")],cls:=GC}
theorem _q5:chkSs Qm (X5 B8) ["script","width","islands","ferries","run","sides","ferry","moment","name","choice","event","due","j","two","other","many"] G2 (Xf B8)=true:=by decide+kernel
theorem szl:sizeLine=16777216:=by decide
theorem na10:Int.natAbs 10=10:=rfl
theorem na1:Int.natAbs 1=1:=rfl
theorem na2:Int.natAbs 2=2:=rfl
theorem at0{α:Type}{x:α}{xs:List α}:atI (x::xs) 0=some x:=by unfold atI ixN;simp
theorem at1{α:Type}{x y:α}{xs:List α}:atI (x::y::xs) 1=some y:=YB (j:=1) (by rfl)
theorem at2{α:Type}{x y z:α}{xs:List α}:atI (x::y::z::xs) 2=some z:=YB (j:=2) (by rfl)
theorem at3{α:Type}{x y z u:α}{xs:List α}:atI (x::y::z::u::xs) 3=some u:=YB (j:=3) (by rfl)
theorem at4{α:Type}{x y z u v:α}{xs:List α}:atI (x::y::z::u::v::xs) 4=some v:=YB (j:=4) (by rfl)
theorem Wf{a b:String}:(Ye a=Ye b)↔a=b:=by
 constructor
 ·intro h;rw[Str.ofString_eq_toList,Str.ofString_eq_toList]at h;have h1:a.toList.map Cn=b.toList.map Cn:=by
   have:=congrArg (λs:Str=>s.cps.toList) h
   simpa using this
  have inj:∀(xs ys:List Char),xs.map Cn=ys.map Cn->xs=ys:=by
   intro xs
   induction xs with
   |nil=>
    intro ys e;cases ys with
    |nil=>rfl
    |cons _ _=>cases e
   |cons x r ih=>
    intro ys e;cases ys with
    |nil=>cases e
    |cons y s=>
     rw[Xx,Xx]at e;injection e with e1 e2;rw[ih s e2,Char.toNat_inj.mp e1]
  exact String.toList_inj.mp (inj _ _ h1)
 ·intro h;rw[h]
theorem Y4{c A B:Prop} [Decidable c] (h1:c->A)(h2:¬c->B):if c then A else B:=by
 split
 ·exact h1 ‹_›
 ·exact h2 ‹_›
theorem _nQ{a:Str}{b:SpM}{R:SpM->Prop}:(∃f sp,(a=f/\b=sp)/\R sp)↔R b:=⟨fun⟨_,_,⟨_,e⟩,h⟩=>e▸h,λh=>⟨a,b,⟨rfl,rfl⟩,h⟩⟩
theorem isN0:UN .non=true:=rfl
theorem isN2{b:Int}:UN (.int b)=false:=rfl
theorem isN4{b:List MV}:UN (.tup b)=false:=rfl
local macro_rules|`(tactic|walk_at "s")=>do
 let a<-("seval szl na10 na1 na2 Nat.zero_add Nat.reduceAdd Nat.zero_le at0 at1 at2 at3 at4 Wf _nQ Xb _qu _oA _qs _qr _qx _qt _oy _oz _qv _qw _mp v_s b_0 f_s _rz _rG _rB e_bl _rD _rI e_ty _rN _rE _rC _rL _rM _rO e_or _rH _rA _rF _rK e_ix e_sl _q1 e_bi e_b2 e_mt _rJ _nS _pZ _q0 _p8 _mE _pY _nR _pz _py _qM _qJ _qL _qK isN0 isN2 isN4 isTy _ri _qN _r6 _p0 _r7 _qY _qT _rg _qB _p4 _oN _p3 _oM q_lt q_le _r8 q_gt _re _r5 _rd _r3 q_is _mz _oO _oY _my _qP _r4 q_in _r2 Ka Kb _mx Kc _ra _r9 _qS _qR _oR _oU _oS _oT _mw _rb _oX _qF _qD _qC _qE _oG _mu _mv _oH _p1 _mA _mB _rh _rf _p2 _rc _oL _oK _qX _oJ _mt _qU _qQ _oI _qI _qH _qG _r1 _r0 _qZ _qO _qV _qW _oQ _oP _oZ WY CMul CPow List.getElem?_cons_zero List.getElem?_cons_succ Option.some.injEq MV.int.injEq MV.str.injEq MV.bl.injEq MV.tup.injEq MV.frl.injEq MV.ref.injEq MV.ty.injEq MO.lst.injEq MO.dic.injEq MO.ins.injEq Prod.mk.injEq exists_eq_left' exists_eq_left exists_and_left true_and and_true false_and and_false true_or or_true false_or or_false reduceCtorEq ne_eq not_false_eq_true not_true_eq_false List.set_cons_zero List.set_cons_succ decide_eq_true_eq Bool.not_eq_true' decide_eq_false_iff_not if_true if_false Bool.false_eq_true reduceIte List.length_cons List.length_nil and_self String.reduceEq String.reduceNe Int.reduceLT Int.reduceLE Int.reducePow Int.reduceNeg Int.reduceToNat Int.reduceSub Int.reduceAdd Int.reduceMul Nat.reduceLT Nat.reducePow Nat.reduceLeDiff".splitOn " ").toArray.mapM λs=>`(Lean.Parser.Tactic.simpLemma|$(Lean.mkIdent s.toName):term)
 `(tactic|simp only[$[$a:simpLemma],*])
local macro_rules|`(tactic|simp!)=>`(tactic|walk_at "s")
local macro_rules|`(tactic|simp! [$l,*])=>`(tactic|repeat (first|walk_at "s"|simp only [$l,*]))
theorem _nP{α:Sort _}{p q:α->Prop}(h:∀a,p a->q a):(∃a,p a)->∃a,q a:=fun⟨a,x⟩=>⟨a,h a x⟩
theorem _lb{a b c:Prop}(h:b->c):a/\b->a/\c:=λx=>⟨x.1,h x.2⟩
theorem _jI{a b c d:Prop}(h:a->c)(g:b->d):a/\b->c/\d:=λx=>⟨h x.1,g x.2⟩
theorem _mU{a b c d:Prop}(h:a->c)(g:b->d):a\/b->c\/d:=λx=>x.elim (λy=>.inl (h y)) λy=>.inr (g y)
theorem _ld{α:Sort _}{p q:α->Prop}(h:∀a,p a->q a):(∀a,p a)->∀a,q a:=λx a=>h a (x a)
local macro_rules | `(tactic| walk_at "m") => `(tactic| (intro vs M Q Q' hq; repeat (first | exact hq _ _ | exact id | refine _nP fun _ => ?_ | refine _lb ?_ | refine _jI ?_ ?_ | refine _ld fun _ => ?_ | refine _mU ?_ ?_)))
def SameM(M M':MH):Prop:=∀a o,M a=some o->M' a=some o
theorem SameM.refl(M:MH):SameM M M:=λ_ _ h=>h
theorem SameM.trans{M M1 M2:MH}(a:SameM M M1)(b:SameM M1 M2):SameM M M2:=λc o h=>b c o (a c o h)
theorem neM{M:MH}{a p:Addr}{o:MO}(h:M a=some o)(hp:M p=none):a≠p:=by intro e;subst e;rw[h]at hp;cases hp
theorem SameM.new{M:MH}{p:Addr}(h:M p=none)(o:MO):SameM M (updM M p o):=λa u e=>by rw[X7 (neM e h)];exact e
theorem SameM.free{M M':MH}(s:SameM M M'){p:Addr}(h:M' p=none):M p=none:=by
 cases e:M p with
 |none=>rfl
 |some o=>rw[s _ _ e]at h;cases h
theorem SameM.upd{M M':MH}(s:SameM M M'){p:Addr}(h:M p=none)(o:MO):SameM M (updM M' p o):=λa u e=>by rw[X7 (neM e h)];exact s a u e
theorem Wg{lo:Int}{n i:Nat}{x:MV}(h:(Src.rng lo n).items[i]?=some x):i<n/\x=.int (lo+(i:Nat)):=by
 have hi:=(XG.mp h).1;rw[Src.items_len]at hi;refine⟨hi,?_⟩;have h':((Xs n).map λi=>MV.int (lo+(i:Nat)))[i]?=some x:=h;rw[Xr,Xa (by simpa using(show i<n from hi))]at h'
 simpa using h'.symm
theorem YY{α:Type}{f:α->MV}{xs:List α}{i:Nat}{x:MV}(h:(xs.map f)[i]?=some x):∃hi:i<xs.length,x=f xs[i]:=by
 have hi:=(XG.mp h).1;rw[Xc]at hi;refine⟨hi,?_⟩;rw[Xr,Xa hi]at h;exact(Y7 h).symm
theorem UQ{Φ:List (Str×SpM)}(hm:∀p∈Φ,MonW p.2):∀(j:Nat) f sp,Φ[j]?=some (f,sp)->MonW sp:=λj f sp h=>hm (f,sp) (Xw h)
theorem _hn(xs:List MV)(k:Nat):cutM xs (some (k:Int)) none=xs.drop k:=by
 unfold cutM;rw[HT.sIx_none,HT.sIx_nat];by_cases h:k≤xs.length
 ·rw[Nat.min_eq_left h,Vy (by rw[BO];exact Xe _)]
 ·rw[Nat.min_eq_right (by lia),GZ (Xe _),GZ (by lia)]
  simp
theorem CU{κ:Type} [DecidableEq κ] (k:κ)(v:MV)(j:κ):∀kvs:List (κ×MV),valM (putM kvs k v) j=if j=k then some v else valM kvs j
 |[]=>by
  unfold putM valM;by_cases e:k=j
  ·rw[if_pos e,if_pos e.symm]
  ·rw[if_neg e,if_neg (λz=>e z.symm)]
   rfl
 |(i,u)::r=>by
  unfold putM;by_cases e:i=k
  ·rw[if_pos e];subst e;unfold valM;by_cases f:i=j
   ·rw[if_pos f,if_pos f.symm]
   ·rw[if_neg f,if_neg (λz=>f z.symm),if_neg f]
  ·rw[if_neg e];unfold valM;by_cases f:i=j
   ·rw[if_pos f,if_neg (λz=>e (f.trans z)),if_pos f]
   ·rw[if_neg f,CU k v j r,if_neg f]
inductive Form where|plus|minus|times|less|same
noncomputable def Form.str:Form->Str
 |.plus=>"plus"|.minus=>"minus"|.times=>"times"|.less=>"less"|.same=>"same"
inductive Tm where
 |num (n:Int)|var (x:Str)|two (f:Form) (a b:Tm)|pick (c a b:Tm)
noncomputable def Tm.depth:Tm->Nat
 |.num _=>1|.var _=>1|.two _ a b=>1+max a.depth b.depth|.pick c a b=>1+max c.depth (max a.depth b.depth)
noncomputable def Tm.size:Tm->Nat
 |.num _=>1|.var _=>1|.two _ a b=>1+(a.size+b.size)|.pick c a b=>1+(c.size+(a.size+b.size))
noncomputable def Tm.reads:Tm->List Str
 |.num _=>[]|.var x=>[x]|.two _ a b=>a.reads++b.reads|.pick c a b=>c.reads++(a.reads++b.reads)
noncomputable def twoV(w:Nat)(l r:Int):Form->Int
 |.plus=>(l+r)%2^w
 |.minus=>(l - r)%2^w
 |.times=>(l*r)%2^w
 |.less=>if l<r then 1 else 0
 |.same=>if l=r then 1 else 0
def Tm.val(ρ:Str->Int)(w:Nat):Tm->Int
 |.num n=>n%2^w
 |.var x=>ρ x
 |.two f a b=>twoV w (a.val ρ w) (b.val ρ w) f
 |.pick c a b=>if c.val ρ w≠0 then a.val ρ w else b.val ρ w
theorem Wh(w:Nat):(0:Int)<2^w:=Int.pow_pos (by decide)
theorem Qn{w:Nat}(h:1≤w):(2:Int)≤2^w:=by
 obtain⟨k,rfl⟩:∃k,w=k+1:=⟨w - 1,by lia⟩
 rw[Int.pow_succ];have:=Wh k;lia
theorem G3{w:Nat}(h:w≤64):(2:Int)^w≤2^64:=by
 have:=BX (n:=2) (by decide) h
 have e1:(2:Int)^w=((2^w:Nat):Int):=by rw[V9];rfl
 have e2:(2:Int)^64=((2^64:Nat):Int):=by decide
 rw[e1,e2];exact Int.ofNat_le.mpr this
theorem CV(x:Int)(w:Nat):0≤x%2^w/\x%2^w<2^w:=⟨ZF _ (Int.ne_of_gt (Wh w)),ZZ _ (Wh w)⟩
theorem twoV_in{w:Nat}(hw:1≤w)(l r:Int)(f:Form):0≤twoV w l r f/\twoV w l r f<2^w:=by
 have:=Qn hw;cases f
 ·exact CV _ _
 ·exact CV _ _
 ·exact CV _ _
 ·unfold twoV;split<;>lia
 ·unfold twoV;split<;>lia
theorem Tm.val_in{ρ:Str->Int}{w:Nat}(hw:1≤w):∀{T:Tm},(∀x∈T.reads,0≤ρ x/\ρ x<2^w)->0≤T.val ρ w/\T.val ρ w<2^w
 |.num n,_=>CV _ _
 |.var x,h=>h x (by simp[Tm.reads])
 |.two f a b,_=>twoV_in hw _ _ f
 |.pick c a b,h=>by
  unfold Tm.val;split
  ·exact a.val_in hw λx hx=>h x (by simp[Tm.reads,hx])
  ·exact b.val_in hw λx hx=>h x (by simp[Tm.reads,hx])
theorem Tm.depth_pos:∀T:Tm,1≤T.depth
 |.num _=>Xe _
 |.var _=>Xe _
 |.two _ _ _=>Nat.le_add_right _ _
 |.pick _ _ _=>Nat.le_add_right _ _
noncomputable def Tm.mv:Tm->MV
 |.num n=>.tup [.str "num",.int n]
 |.var x=>.tup [.str "var",.str x]
 |.two f a b=>.tup [.str f.str,a.mv,b.mv]
 |.pick c a b=>.tup [.str "pick",c.mv,a.mv,b.mv]
theorem Qo(f:Form):¬f.str="num":=by cases f<;>decide+kernel
theorem G4(f:Form):¬f.str="var":=by cases f<;>decide+kernel
theorem _jf(f:Form):¬f.str="pick":=by cases f<;>decide+kernel
inductive Stp where
 |take (f x:Str)|give (f:Str) (T:Tm)|put (x:Str) (T:Tm)|jump (T:Tm) (i:Int)
noncomputable def Stp.mv:Stp->MV
 |.take f x=>.tup [.str "take",.str f,.str x]
 |.give f T=>.tup [.str "give",.str f,T.mv]
 |.put x T=>.tup [.str "put",.str x,T.mv]
 |.jump T i=>.tup [.str "jump",T.mv,.int i]
def tmOk(ns:List Str)(T:Tm):Prop:=T.depth≤8/\T.size≤30/\∀x∈T.reads,x∈ns
def Stp.ok(ns:List Str)(n:Nat):Stp->Prop
 |.take _ x=>x∈ns
 |.give _ T=>tmOk ns T
 |.put x T=>x∈ns/\tmOk ns T
 |.jump T i=>tmOk ns T/\0≤i/\i≤n
def CW(M:MH)(x:MV)(xs:List MV):Prop:=x=.tup xs\/∃a,x=.ref a/\M a=some (.lst xs)
def readsOk(ns:List Str)(kvs:List (Key×MV))(ρ:Str->Int)(w:Nat):Prop:=∀x∈ns,valM kvs (Xm x)=some (.int (ρ x))/\0≤ρ x/\ρ x<2^w
theorem readsOk.tm{ns:List Str}{kvs:List (Key×MV)}{ρ:Str->Int}{w:Nat}(h:readsOk ns kvs ρ w){T:Tm}(o:tmOk ns T):∀x∈T.reads,valM kvs (Xm x)=some (.int (ρ x))/\0≤ρ x/\ρ x<2^w:=λx hx=>h x (o.2.2 x hx)
section
variable{P:Xv}{w:Xn}{K:X4}{mg:Str->Option X0}{base:Heap}{t:Adr}
abbrev Zs:SpM:=λvs M Q=>∃k:Nat,vs=[.int k]/\k≤64/\Q (.int (2^k)) M
theorem CY:MonW Zs:=by walk_at "m"
theorem CZ(T:Txt K mg t):FnOk P w K mg base CX0 1 t.fG t.dW ["exponent"] (liSp K Zs):=by
 refine T.aC.F.okM _i0 (fC (G:=Km) (Φ:=[]) T rfl nl0 nl0) EE _jq (λvs M Q h=>?_) (λvs M Q h=>?_)
 ·obtain⟨k,rfl,_⟩:=h;rfl
 obtain⟨k,rfl,hk,q⟩:=h;show wSs _ _ _ [some (.int k),none,none] M;delta EE Kl;simp!;delta Kk;simp!;refine⟨by lia,by lia,λi σ M'=>M'=M/\∃v,σ=[some (.int k),some (.int (2^i)),v],⟨rfl,_,rfl⟩,λ_ _ _ _=>trivial,?_,?_⟩
 ·rintro i x σ M' hx ⟨rfl,v,rfl⟩;obtain⟨hi,rfl⟩:=Wg hx;delta Kj;simp!;exact⟨_,by rw[Int.pow_succ]⟩
 ·rintro σ M' ⟨rfl,v,rfl⟩;delta Ki;simp!;exact q
abbrev D0:SpM:=λvs M Q=>∃(w:Nat) (n:Int),vs=[.int w,.int n]/\w≤64/\Q (.int (n%2^w)) M
theorem Qp:MonW D0:=by walk_at "m"
theorem Qq(T:Txt K mg t):FnOk P w K mg base CX0 2 t.gH t.eD ["width","number"] (liSp K D0):=by
 refine T.aE.F.okM _ox (fC (G:=Kr) (Φ:=[("two_to",Zs)]) T rfl (fMc ⟨CY,nl0⟩) (fMc ⟨fE T.aC (CZ T),nl0⟩)) EG _q6 (fun vs M Q h=>?_) (fun vs M Q h=>?_)
 ·obtain⟨k,n,rfl,_⟩:=h;rfl
 obtain⟨w,n,rfl,hw,q⟩:=h;show wSs _ _ _ [some (.int w),some (.int n)] M;delta EG Kq;simp!;exact⟨w,rfl,hw,Wh w,q⟩
abbrev G5:SpM:=λvs M Q=>∃(f:Form) (l r:Int) (w:Nat),vs=[.str f.str,.int l,.int r,.int w]/\w≤64/\(-(2^64)<l/\l<2^64)/\Q (.int (twoV w l r f)) M
theorem _7D:MonW G5:=by walk_at "m"
theorem _aU(T:Txt K mg t):FnOk P w K mg base CX0 3 t.cF t.gk ["form","left","right","width"] (liSp K G5):=by
 refine T.aH.F.okM _aG (fC (G:=LR) (Φ:=[("cut",D0)]) T rfl (fMc ⟨Qp,nl0⟩) (fMc ⟨fE T.aE (Qq T),nl0⟩)) Fa _bw (fun vs M Q h=>?_) (fun vs M Q h=>?_)
 ·obtain⟨f,l,r,w,rfl,_⟩:=h;rfl
 obtain⟨f,l,r,w,rfl,hw,hl,q⟩:=h;show wSs _ _ _ [some (.str f.str),some (.int l),some (.int r),some (.int w)] M;delta Fa LQ;simp!;cases f with
 |plus=>
  rw[if_pos (by rfl),LP]
  simp!;exact⟨w,_,rfl,hw,q⟩
 |minus=>
  rw[if_neg (by decide+kernel),B9]
  simp!;rw[if_pos (by rfl),LO]
  simp!;exact⟨w,_,rfl,hw,q⟩
 |times=>
  rw[if_neg (by decide+kernel),B9]
  simp!;rw[if_neg (by decide+kernel),CP]
  simp!;rw[if_pos (by rfl),LN]
  simp!;exact⟨.inl hl,w,_,rfl,hw,q⟩
 |less=>
  rw[if_neg (by decide+kernel),B9]
  simp!;rw[if_neg (by decide+kernel),CP]
  simp!;rw[if_neg (by decide+kernel),F9]
  simp!;rw[if_pos (by rfl),LM]
  simp!;unfold twoV at q;split<;>simp_all
 |same=>
  rw[if_neg (by decide+kernel),B9]
  simp!;rw[if_neg (by decide+kernel),CP]
  simp!;rw[if_neg (by decide+kernel),F9]
  simp!;rw[if_neg (by decide+kernel),LL]
  simp!;unfold twoV at q;split<;>simp_all
abbrev UR(n:Nat):SpM:=λvs M Q=>∃(T:Tm) (w:Nat) (d:Addr) (kvs:List (Key×MV)) (ρ:Str->Int),vs=[T.mv,.int w,.ref d]/\T.depth≤n/\1≤w/\w≤64/\M d=some (.dic kvs)/\
 (∀x∈T.reads,valM kvs (Xm x)=some (.int (ρ x))/\0≤ρ x/\ρ x<2^w)/\Q (.int (T.val ρ w)) M
theorem D3(n:Nat):MonW (UR n):=by walk_at "m"
theorem D4(T:Txt K mg t):∀n:Nat,FnOk P w K mg base CX0 (n+3) t.gc t.cf ["T","width","words"] (liSp K (UR n))
 |0=>by
  have no:∀vs M Q,¬UR 0 vs M Q:=λvs M Q h=>by
   obtain⟨T,w,d,kvs,ρ,_,h0,_⟩:=h;have:=T.depth_pos;lia
  exact⟨λvs H Q E ⟨ms,M,r,rh,h⟩=>absurd h (no _ _ _),λA outer s H args us vs Q E _ _ _ _ ⟨ms,M,r,rh,h⟩=>absurd h (no _ _ _)⟩
 |n+1=>by
  have ih:=D4 T n;refine T.ab.F.okM _ka (fC (G:=LX) (Φ:=[("cut",D0),("worth",(UR n)),("worth_of_two",G5)]) T rfl (fMc ⟨Qp,(fMc ⟨(D3 _),(fMc ⟨_7D,nl0⟩)⟩)⟩) (fMc ⟨⟨_,_,_,FnOk.mono (Qq T) (by lia),T.aE.m,T.aE.F.kp,T.aE.b⟩,(fMc ⟨⟨_,_,_,ih,T.ab.m,T.ab.F.kp,T.ab.b⟩,(fMc ⟨⟨_,_,_,FnOk.mono (_aU T) (by lia),T.aH.m,T.aH.F.kp,T.aH.b⟩,nl0⟩)⟩)⟩)) Fd _l2 (fun vs M Q h=>?_) (fun vs M Q h=>?_)
  ·obtain⟨T,w,d,kvs,ρ,rfl,_⟩:=h;rfl
  obtain⟨U,w,d,kvs,ρ,rfl,hn,hw1,hw,hd,hr,q⟩:=h;show wSs _ _ _ [some U.mv,some (.int w),some (.ref d),none] M;have p64:=G3 hw;delta Fd LW;cases U with
  |num m=>
   simp only[Tm.mv];simp!;delta LV;simp!;exact⟨w,m,rfl,hw,q⟩
  |var x=>
   have hv:=(hr x (by simp[Tm.reads])).1
   simp only[Tm.mv];simp!;delta CQ;simp!;delta LU;simp!;simp only[hd];simp!;exact⟨_,hv,q⟩
  |two f l r=>
   have hdl:l.depth≤n:=by unfold Tm.depth at hn;lia
   have hdr:r.depth≤n:=by unfold Tm.depth at hn;lia
   have hrl:∀x∈l.reads,valM kvs (Xm x)=some (.int (ρ x))/\0≤ρ x/\ρ x<2^w:=λx hx=>hr x (by simp[Tm.reads,hx])
   have hrr:∀x∈r.reads,valM kvs (Xm x)=some (.int (ρ x))/\0≤ρ x/\ρ x<2^w:=λx hx=>hr x (by simp[Tm.reads,hx])
   have inl:=l.val_in hw1 λx hx=>(hrl x hx).2;simp only[Tm.mv];simp!;rw[if_neg (Qo f),CQ];simp!;rw[if_neg (G4 f),Fc];simp!;refine⟨l,w,d,kvs,ρ,rfl,hdl,hw1,hw,hd,hrl,?_⟩;delta Fb;simp!;rw[if_neg (_jf f),LS];simp!;exact⟨r,w,d,kvs,ρ,rfl,hdr,hw1,hw,hd,hrr,f,_,_,w,rfl,hw,⟨by lia,by lia⟩,q⟩
  |pick c l r=>
   have hdc:c.depth≤n:=by unfold Tm.depth at hn;lia
   have hdl:l.depth≤n:=by unfold Tm.depth at hn;lia
   have hdr:r.depth≤n:=by unfold Tm.depth at hn;lia
   have hrc:∀x∈c.reads,valM kvs (Xm x)=some (.int (ρ x))/\0≤ρ x/\ρ x<2^w:=λx hx=>hr x (by simp[Tm.reads,hx])
   have hrl:∀x∈l.reads,valM kvs (Xm x)=some (.int (ρ x))/\0≤ρ x/\ρ x<2^w:=λx hx=>hr x (by simp[Tm.reads,hx])
   have hrr:∀x∈r.reads,valM kvs (Xm x)=some (.int (ρ x))/\0≤ρ x/\ρ x<2^w:=λx hx=>hr x (by simp[Tm.reads,hx])
   simp only[Tm.mv];simp!;delta CQ;simp!;delta Fc;simp!;refine⟨c,w,d,kvs,ρ,rfl,hdc,hw1,hw,hd,hrc,?_⟩;delta Fb;simp!;delta LT;simp!;refine Y4 (λh0=>?_) (λh0=>?_)
   ·have e:Tm.val ρ w (.pick c l r)=l.val ρ w:=if_pos h0;rw[e]at q;exact⟨l,w,d,kvs,ρ,rfl,hdl,hw1,hw,hd,hrl,q⟩
   ·have e:Tm.val ρ w (.pick c l r)=r.val ρ w:=if_neg h0;rw[e]at q;exact⟨r,w,d,kvs,ρ,rfl,hdr,hw1,hw,hd,hrr,q⟩
noncomputable def dueM(ss:List Stp)(ρ:Str->Int)(w:Nat)(i:Nat):MV:=match ss[i]? with
 |none=>.non
 |some (.take f _)=>.tup [.str "take",.str f]
 |some (.give f T)=>.tup [.str "give",.str f,.int (T.val ρ w)]
 |some _=>.tup [.str "own"]
abbrev Vj:SpM:=λvs M Q=>∃(x:MV) (pw:Addr) (ss:List Stp) (i w:Nat) (kvs:List (Key×MV)) (ρ:Str->Int) (ns:List Str),vs=[.int w,x,.int i,.ref pw]/\CW M x (ss.map Stp.mv)/\(∀s∈ss,s.ok ns ss.length)/\i≤ss.length/\1≤w/\w≤64/\M pw=some (.dic kvs)/\readsOk ns kvs ρ w/\
 Q (dueM ss ρ w i) M
theorem _fo:MonW Vj:=by walk_at "m"
theorem _n2(T:Txt K mg t):FnOk P w K mg base CX0 50 t.fk t.dl ["width","steps","number","words"] (liSp K Vj):=by
 refine T.bc.F.okM _mk (fC (G:=Mc) (Φ:=[("worth",(UR 40))]) T rfl (fMc ⟨(D3 _),nl0⟩) (fMc ⟨⟨_,_,_,FnOk.mono (D4 T 40) (by decide),T.ab.m,T.ab.F.kp,T.ab.b⟩,nl0⟩)) Fi _nV (fun vs M Q h=>?_) (fun vs M Q h=>?_)
 ·obtain⟨_,_,_,_,_,_,_,_,rfl,_⟩:=h;rfl
 obtain⟨x,pw,ss,i,w,kvs,ρ,ns,rfl,hx,hss,hi,hw1,hw2,hpw,hr,q⟩:=h;show wSs _ _ _ [some (.int w),some x,some (.int i),some (.ref pw),none] M;delta Fi Mb;have len:∀R:Prop,R->R:=λ_ h=>h;have rest:∀hi':i<ss.length,wSs [("worth",UR 40)] Ff {nx:=fun x M'=>Q MV.non M',rt:=Q} [some (.int w),some x,some (.int i),some (.ref pw),some ss[i].mv] M:=by
  intro hi';have ok:=hss ss[i] (XU _);have ed:dueM ss ρ w i=dueM [ss[i]] ρ w 0:=by unfold dueM;rw[Xa hi'];rfl
  rw[ed]at q;obtain⟨s,hs⟩:∃s,ss[i]=s:=⟨_,rfl⟩;rw[hs]at ok q;rw[hs];delta Ff;cases s with
  |take f x=>
   simp only[Stp.mv];simp!;delta LZ;simp!;exact q
  |give f U=>
   simp only[Stp.mv];simp!;delta CS;simp!;delta LY;simp!;exact⟨U,w,pw,kvs,ρ,rfl,Y2 ok.1 (by decide),hw1,hw2,hpw,hr.tm ok,q⟩
  |put x U=>
   simp only[Stp.mv];simp!;delta CS;simp!;delta Fe;simp!;exact q
  |jump U j=>
   simp only[Stp.mv];simp!;delta CS;simp!;delta Fe;simp!;exact q
 have eN:¬i<ss.length->dueM ss ρ w i=.non:=λc=>by unfold dueM;rw[GW.mpr (by lia)]
 rcases hx with rfl|⟨ps,rfl,hps⟩
 ·simp!;rw[Xc];refine Y4 (λc=>?_) (λc=>?_)
  ·delta Fh;simp!;rw[<- eN (by lia)]
   exact q
  have hi':i<ss.length:=by lia
  delta Fg;simp!;exact⟨_,YB (by rw[Xr,Xa hi'];rfl),rest hi'⟩
 ·simp![hps]
  rw[Xc];refine Y4 (λc=>?_) (λc=>?_)
  ·delta Fh;simp!;rw[<- eN (by lia)]
   exact q
  have hi':i<ss.length:=by lia
  delta Fg
  simp![hps]
  exact⟨_,YB (by rw[Xr,Xa hi'];rfl),rest hi'⟩
noncomputable def Wi(s:Stp)(ρ:Str->Int)(w i:Nat):Int:=match s with
 |.jump T j=>if T.val ρ w≠0 then j else(i:Int)+1
 |_=>(i:Int)+1
def D5(s:Stp)(kvs:List (Key×MV))(ρ:Str->Int)(w:Nat)(wd:MV):List (Key×MV):=match s with
 |.take _ x=>putM kvs (Xm x) wd
 |.put x T=>putM kvs (Xm x) (.int (T.val ρ w))
 |_=>kvs
abbrev G6:SpM:=λvs M Q=>∃(x:MV) (pw:Addr) (ss:List Stp) (i w:Nat) (kvs:List (Key×MV)) (ρ:Str->Int) (ns:List Str) (s:Stp),vs=[.int w,x,.int i,.ref pw]/\CW M x (ss.map Stp.mv)/\ss[i]?=some s/\s.ok ns ss.length/\1≤w/\w≤64/\M pw=some (.dic kvs)/\readsOk ns kvs ρ w/\
 Q (.int (Wi s ρ w i)) M
theorem _7E:MonW G6:=by walk_at "m"
theorem Qr{M:MH}{x:MV}{ss:List Stp}{i:Nat}{s:Stp}{Q:QM}(hx:CW M x (ss.map Stp.mv))(hs:ss[i]?=some s) (q:Q s.mv M):wIx x (.int i) M Q:=by
 have hat:atI (ss.map Stp.mv) (i:Int)=some s.mv:=YB (by rw[Xr,hs];rfl)
 rcases hx with rfl|⟨a,rfl,h⟩
 ·rw[Kc];exact⟨_,hat,q⟩
 ·rw[Ka,h,Kb];exact⟨_,hat,q⟩
theorem _aW(T:Txt K mg t):FnOk P w K mg base CX0 50 t.dw t.eO ["width","steps","number","words"] (liSp K G6):=by
 refine T.aM.F.okM _aJ (fC (G:=Mg) (Φ:=[("worth",(UR 40))]) T rfl (fMc ⟨(D3 _),nl0⟩) (fMc ⟨⟨_,_,_,FnOk.mono (D4 T 40) (by decide),T.ab.m,T.ab.F.kp,T.ab.b⟩,nl0⟩)) Fj _bz (fun vs M Q h=>?_) (fun vs M Q h=>?_)
 ·obtain⟨_,_,_,_,_,_,_,_,_,rfl,_⟩:=h;rfl
 obtain⟨x,pw,ss,i,w,kvs,ρ,ns,s,rfl,hx,hs,ok,hw1,hw2,hpw,hr,q⟩:=h;show wSs _ _ _ [some (.int w),some x,some (.int i),some (.ref pw),none] M;delta Fj Mf;simp!;refine Qr hx hs ?_;delta Me;cases s with
 |take f x=>
  simp only[Stp.mv];simp!;delta Ba;simp!;exact q
 |give f U=>
  simp only[Stp.mv];simp!;delta Ba;simp!;exact q
 |put x U=>
  simp only[Stp.mv];simp!;delta Ba;simp!;exact q
 |jump U j=>
  simp only[Stp.mv];simp!;refine⟨U,w,pw,kvs,ρ,rfl,Y2 ok.1.1 (by decide),hw1,hw2,hpw,hr.tm ok.1,?_⟩
  simp!;refine Y4 (λc=>?_) (λc=>?_)
  ·have e:Wi (.jump U j) ρ w i=j:=if_pos c;rw[e]at q;delta Md;simp!;exact q
  ·have e:Wi (.jump U j) ρ w i=(i:Int)+1:=if_neg c;rw[e]at q;delta Ba;simp!;exact q
abbrev G7:SpM:=λvs M Q=>∃(pw:Addr) (w:Nat) (kvs:List (Key×MV)) (ρ:Str->Int) (ns:List Str) (s:Stp) (k:Nat) (wd:MV),vs=[.int w,s.mv,.ref pw,wd]/\s.ok ns k/\1≤w/\w≤64/\M pw=some (.dic kvs)/\kvs.length≤1000/\readsOk ns kvs ρ w/\
 ∀p,M p=none->Q (.ref p) (updM M p (.dic (D5 s kvs ρ w wd)))
theorem _84:MonW G7:=by walk_at "m"
theorem _bW(T:Txt K mg t):FnOk P w K mg base CX0 50 t.d0 t.cQ ["width","step","words","word"] (liSp K G7):=by
 refine T.aK.F.okM _bO (fC (G:=Mm) (Φ:=[("worth",(UR 40))]) T rfl (fMc ⟨(D3 _),nl0⟩) (fMc ⟨⟨_,_,_,FnOk.mono (D4 T 40) (by decide),T.ab.m,T.ab.F.kp,T.ab.b⟩,nl0⟩)) Fk _cb (fun vs M Q h=>?_) (fun vs M Q h=>?_)
 ·obtain⟨_,_,_,_,_,_,_,_,rfl,_⟩:=h;rfl
 obtain⟨pw,w,kvs,ρ,ns,s,k,wd,rfl,ok,hw1,hw2,hpw,hkl,hr,q⟩:=h;show wSs _ _ _ [some (.int w),some s.mv,some (.ref pw),some wd,none] M;delta Fk Ml
 simp![hpw]
 intro p hp;have hpw2:=SameM.new hp (.dic kvs) _ _ hpw;have hp2:updM M p (.dic kvs) p=some (.dic kvs):=Xb;have q:=q p hp;delta Mj;cases s with
 |take f x=>
  simp only[Stp.mv];simp!;delta Mi;simp!;refine⟨by lia,?_⟩
  rw[YC];delta Bc;simp!;delta Bb;simp!;exact q
 |give f U=>
  simp only[Stp.mv];simp!;delta Bc;simp!;delta Bb;simp!;exact q
 |put x U=>
  simp only[Stp.mv];simp!;delta Bc;simp!;delta Mh;simp!;refine⟨U,w,pw,kvs,ρ,rfl,Y2 ok.2.1 (by decide),hw1,hw2,hpw2,hr.tm ok.2,?_⟩
  simp!;refine⟨by lia,?_⟩
  rw[YC];delta Bb;simp!;exact q
 |jump U j=>
  simp only[Stp.mv];simp!;delta Bc;simp!;delta Bb;simp!;exact q
abbrev G8:SpM:=λvs M Q=>∃(x:MV) (pw:Addr) (ss:List Stp) (i w:Nat) (kvs:List (Key×MV)) (ρ:Str->Int) (ns:List Str) (s:Stp) (wd:MV),vs=[.int w,x,.int i,.ref pw,wd]/\CW M x (ss.map Stp.mv)/\ss[i]?=some s/\s.ok ns ss.length/\1≤w/\w≤64/\M pw=some (.dic kvs)/\kvs.length≤1000/\readsOk ns kvs ρ w/\
 ∀p,M p=none->Q (.tup [.int (Wi s ρ w i),.ref p]) (updM M p (.dic (D5 s kvs ρ w wd)))
theorem _ep:MonW G8:=by walk_at "m"
theorem _kA(T:Txt K mg t):FnOk P w K mg base CX0 51 t.cw t.i9 ["width","steps","number","words","word"] (liSp K G8):=by
 refine T.b0.F.okM _kd (fC (G:=Mo) (Φ:=[("number_after",G6),("words_after",G7)]) T rfl (fMc ⟨_7E,(fMc ⟨_84,nl0⟩)⟩) (fMc ⟨⟨_,_,_,FnOk.mono (_aW T) (by decide),T.aM.m,T.aM.F.kp,T.aM.b⟩,(fMc ⟨⟨_,_,_,FnOk.mono (_bW T) (by decide),T.aK.m,T.aK.F.kp,T.aK.b⟩,nl0⟩)⟩)) Fl _l5 (fun vs M Q h=>?_) (fun vs M Q h=>?_)
 ·obtain⟨_,_,_,_,_,_,_,_,_,_,rfl,_⟩:=h;rfl
 obtain⟨x,pw,ss,i,w,kvs,ρ,ns,s,wd,rfl,hx,hs,ok,hw1,hw2,hpw,hkl,hr,q⟩:=h;show wSs _ _ _ [some (.int w),some x,some (.int i),some (.ref pw),some wd] M;delta Fl Mn;simp!;refine⟨x,pw,ss,i,w,kvs,ρ,ns,s,rfl,hx,hs,ok,hw1,hw2,hpw,hr,?_⟩;refine Qr hx hs ?_;refine⟨pw,w,kvs,ρ,ns,s,_,wd,rfl,ok,hw1,hw2,hpw,hkl,hr,λp hp=>?_⟩;exact q p hp
def szs(ts:List Tm):Nat:=(ts.map Tm.size).sum
theorem Qs(a b:List Tm):szs (a++b)=szs a+szs b:=by unfold szs;rw[XV,List.sum_append]
theorem _md(a:Tm):szs [a]=a.size:=by simp[szs]
theorem Qt{T:Tm}:∀{ts:List Tm},T∈ts->T.size≤szs ts
 |U::ts,h=>by
  have e:szs (U::ts)=U.size+szs ts:=by simp[szs]
  rcases Xl.mp h with z|z
  ·subst z;lia
  ·have:=Qt z;lia
noncomputable def Tm.kids:Tm->List Tm
 |.num _=>[]
 |.var _=>[]
 |.two _ a b=>[a,b]
 |.pick c a b=>[c,a,b]
theorem Tm.size_kids:∀T:Tm,T.size=1+szs T.kids
 |.num _=>rfl
 |.var _=>rfl
 |.two _ a b=>by simp[Tm.size,Tm.kids,szs]
 |.pick c a b=>by simp[Tm.size,Tm.kids,szs]
def mxd(ts:List Tm):Nat:=ts.foldl (λa T=>max a T.depth) 0
theorem _nb(ts:List Tm)(T:Tm):mxd (ts++[T])=max (mxd ts) T.depth:=by unfold mxd;rw[Dy];rfl
theorem Tm.depth_kids:∀T:Tm,T.depth=mxd T.kids+1
 |.num _=>rfl
 |.var _=>rfl
 |.two _ a b=>by simp[Tm.depth,Tm.kids,mxd];lia
 |.pick c a b=>by simp[Tm.depth,Tm.kids,mxd];lia
theorem Tm.kid_depth{T U:Tm}(h:U∈T.kids):U.depth<T.depth:=by
 cases T<;>simp[Tm.kids]at h
 ·rcases h with rfl|rfl<;>(simp only[Tm.depth];lia)
 ·rcases h with rfl|rfl|rfl<;>(simp only[Tm.depth];lia)
theorem Tm.kid_size{T U:Tm}(h:U∈T.kids):U.size<T.size:=by
 rw[T.size_kids];have:=Qt h;lia
def rds(ts:List Tm):List Str:=(ts.map Tm.reads).flatten
theorem _mq(ts:List Tm)(T:Tm):rds (ts++[T])=rds ts++T.reads:=by simp[rds]
theorem Tm.reads_kids:∀T:Tm,(∀x,T≠.var x)->T.reads=rds T.kids
 |.num _,_=>rfl
 |.var x,h=>absurd rfl (h x)
 |.two _ a b,_=>by simp[Tm.reads,Tm.kids,rds]
 |.pick c a b,_=>by simp[Tm.reads,Tm.kids,rds]
theorem Tm.reads_len:∀T:Tm,T.reads.length≤T.size
 |.num _=>by simp[Tm.reads]
 |.var _=>by simp[Tm.reads,Tm.size]
 |.two _ a b=>by
  have:=a.reads_len;have:=b.reads_len;simp[Tm.reads,Tm.size];lia
 |.pick c a b=>by
  have:=a.reads_len;have:=b.reads_len;have:=c.reads_len;simp[Tm.reads,Tm.size];lia
theorem Qu:∀ts:List Tm,(rds ts).length≤szs ts
 |[]=>Xe _
 |T::ts=>by
  have:=Qu ts;have:=T.reads_len;have e:szs (T::ts)=T.size+szs ts:=by simp[szs]
  have e2:rds (T::ts)=T.reads++rds ts:=by simp[rds]
  rw[e,e2,Yn];lia
theorem _k2(ts:List Tm)(i:Nat):szs (ts.take i)≤szs ts:=by
 have e1:=Qs (ts.take i) (ts.drop i);rw[List.take_append_drop]at e1;lia
theorem Qv(x:MV)(xs:List MV):cutM (x::xs) (some 1) none=xs:=by
 have:=_hn (x::xs) 1
 simpa using this
abbrev Bg:SpM:=λvs M Q=>∃T:Tm,vs=[T.mv]/\∀p,M p=none->Q (.ref p) (updM M p (.lst (T.kids.map Tm.mv)))
theorem Qw:MonW Bg:=by walk_at "m"
theorem Qx(T:Txt K mg t):FnOk P w K mg base CX0 1 t.dD t.eB ["T"] (liSp K Bg):=by
 refine T.aw.F.okM _aI (fC (G:=Lu) (Φ:=[]) T rfl nl0 nl0) F4 _by (λvs M Q h=>?_) (λvs M Q h=>?_)
 ·obtain⟨T,rfl,_⟩:=h;rfl
 obtain⟨U,rfl,q⟩:=h;show wSs _ _ _ [some U.mv] M;delta F4 Ls;cases U with
 |num m=>
  simp only[Tm.mv];simp!;delta F3;simp!;exact q
 |var x=>
  simp only[Tm.mv];simp!;delta F3;simp!;exact q
 |two f a b=>
  simp only[Tm.mv];simp!;rw[if_neg (Qo f),if_neg (G4 f),F2];simp!;rw[Qv];exact q
 |pick c a b=>
  simp only[Tm.mv];simp!;delta F2;simp!;rw[Qv];exact q
abbrev Bh(n:Nat):SpM:=λvs M Q=>∃T:Tm,vs=[T.mv]/\T.depth≤n/\∀M',SameM M M'->Q (.tup [.int (T.size:Nat),.int (T.depth:Nat)]) M'
theorem Qy(n:Nat):MonW (Bh n):=by walk_at "m"
theorem Qz(T:Txt K mg t):∀n:Nat,FnOk P w K mg base CX0 (n+8) t.gT t.cA ["T"] (liSp K (Bh n))
 |0=>by
  have no:∀vs M Q,¬Bh 0 vs M Q:=λvs M Q h=>by
   obtain⟨T,_,h0,_⟩:=h;have:=T.depth_pos;lia
  exact⟨λvs H Q E ⟨ms,M,r,rh,h⟩=>absurd h (no _ _ _),λA outer s H args us vs Q E _ _ _ _ ⟨ms,M,r,rh,h⟩=>absurd h (no _ _ _)⟩
 |n+1=>by
  have ih:=Qz T n;refine T.aq.F.okM _gW (fC (G:=LC) (Φ:=[("parts_within",Bg),("size_of",(Bh n))]) T rfl (fMc ⟨Qw,(fMc ⟨(Qy _),nl0⟩)⟩) (fMc ⟨⟨_,_,_,FnOk.mono (Qx T) (by lia),T.aw.m,T.aw.F.kp,T.aw.b⟩,(fMc ⟨⟨_,_,_,ih,T.aq.m,T.aq.F.kp,T.aq.b⟩,nl0⟩)⟩)) F5 _hq (fun vs M Q h=>?_) (fun vs M Q h=>?_)
  ·obtain⟨T,rfl,_⟩:=h;rfl
  obtain⟨U,rfl,hn,q⟩:=h;show wSs _ _ _ [some U.mv,none,none,none,none] M;delta F5 LB;simp!;delta LA;simp!;delta Lz;simp!;refine⟨U,rfl,λpk hpk=>?_⟩;have s1:=SameM.new hpk (.lst (U.kids.map Tm.mv));have h1:updM M pk (.lst (U.kids.map Tm.mv)) pk=some (.lst (U.kids.map Tm.mv)):=Xb;generalize updM M pk (.lst (U.kids.map Tm.mv))=M1 at*
  simp![h1]
  obtain⟨J,hJ⟩:∃J:Nat->Sm->MH->Prop,∀i σ M2,J i σ M2↔∃(v3 v4:Option MV),SameM M1 M2/\σ=[some U.mv,some (.int ((1+szs (U.kids.take i):Nat):Int)),some (.int ((mxd (U.kids.take i):Nat):Int)),v3,v4]:=⟨_,λ_ _ _=>Yf⟩;refine⟨J,(hJ _ _ _).2 ⟨_,_,SameM.refl _,rfl⟩,λi σ M2 hj=>?_,λi x σ M2 hx hj=>?_,λσ M2 hj=>?_⟩
  ·obtain⟨_,_,s2,_⟩:=(hJ _ _ _).1 hj;exact s2 _ _ h1
  ·obtain⟨v3,v4,s2,rfl⟩:=(hJ _ _ _).1 hj;obtain⟨hi,rfl⟩:=YY hx;have hk:=U.kid_depth (XU hi);delta Ly;simp!;refine⟨U.kids[i],rfl,by lia,λM3 s3=>?_⟩
   delta Lx;simp!;delta Lw;simp!;have et:U.kids.take (i+1)=U.kids.take i++[U.kids[i]]:=by rw[ZC,Xa hi];rfl
   have e1:((1+szs (U.kids.take i):Nat):Int)+(U.kids[i].size:Nat)=((1+szs (U.kids.take (i+1)):Nat):Int):=by rw[et,Qs,_md];lia
   have e2:(if((U.kids[i].depth:Nat):Int)>(mxd (U.kids.take i):Nat)then((U.kids[i].depth:Nat):Int)else(mxd (U.kids.take i):Nat))=((mxd (U.kids.take (i+1)):Nat):Int):=by
    rw[et,_nb];split<;>lia
   rw[e1,e2];exact(hJ _ _ _).2 ⟨_,_,s2.trans s3,rfl⟩
  ·obtain⟨v3,v4,s2,rfl⟩:=(hJ _ _ _).1 hj;have e:U.kids.take (Src.lst pk (U.kids.map Tm.mv)).len=U.kids:=by simp[Src.len]
   rw[e];delta Lv;simp!;have:=q M2 (s1.trans s2);rw[U.size_kids,U.depth_kids]at this;exact this
abbrev Wj(n:Nat):SpM:=λvs M Q=>∃T:Tm,vs=[T.mv]/\T.depth≤n/\T.size≤4000/\∀p M',SameM M M'->M p=none->M' p=some (.lst (T.reads.map MV.str))->Q (.ref p) M'
theorem QA(n:Nat):MonW (Wj n):=by walk_at "m"
theorem QB(T:Txt K mg t):∀n:Nat,FnOk P w K mg base CX0 (n+8) t.eh t.cM ["T"] (liSp K (Wj n))
 |0=>by
  have no:∀vs M Q,¬Wj 0 vs M Q:=λvs M Q h=>by
   obtain⟨T,_,h0,_⟩:=h;have:=T.depth_pos;lia
  exact⟨λvs H Q E ⟨ms,M,r,rh,h⟩=>absurd h (no _ _ _),λA outer s H args us vs Q E _ _ _ _ ⟨ms,M,r,rh,h⟩=>absurd h (no _ _ _)⟩
 |n+1=>by
  have ih:=QB T n;refine T.ax.F.okM _d6 (fC (G:=LI) (Φ:=[("names_read",(Wj n)),("parts_within",Bg)]) T rfl (fMc ⟨(QA _),(fMc ⟨Qw,nl0⟩)⟩) (fMc ⟨⟨_,_,_,ih,T.ax.m,T.ax.F.kp,T.ax.b⟩,(fMc ⟨⟨_,_,_,FnOk.mono (Qx T) (by lia),T.aw.m,T.aw.F.kp,T.aw.b⟩,nl0⟩)⟩)) F7 _dE (fun vs M Q h=>?_) (fun vs M Q h=>?_)
  ·obtain⟨T,rfl,_⟩:=h;rfl
  obtain⟨U,rfl,hn,hz,q⟩:=h;show wSs _ _ _ [some U.mv,none,none] M;have rest:(∀x,U≠.var x)->wSs [("names_read",Wj n),("parts_within",Bg)] F6 {nx:=fun x M'=>Q MV.non M',rt:=Q} [some U.mv,none,none] M:=by
   intro hv;delta F6;simp!;intro p0 hp0;have s0:=SameM.new hp0 (.lst []);have h0:updM M p0 (.lst []) p0=some (.lst ([]:List MV)):=Xb;generalize updM M p0 (.lst [])=M0 at*;delta LF;simp!;refine⟨U,rfl,λpk hpk=>?_⟩;have s1:=SameM.new hpk (.lst (U.kids.map Tm.mv));have h1:updM M0 pk (.lst (U.kids.map Tm.mv)) pk=some (.lst (U.kids.map Tm.mv)):=Xb;have h01:=s1 _ _ h0;have t1:=s0.trans s1;have nk:M pk=none:=s0.free hpk;generalize updM M0 pk (.lst (U.kids.map Tm.mv))=M1 at*
   simp![h1]
   have ne:p0≠pk:=by
    intro e;rw[e]at h0;rw[h0]at hpk;cases hpk
   obtain⟨J,hJ⟩:∃J:Nat->Sm->MH->Prop,∀i σ M2,J i σ M2↔∃(v2:Option MV),SameM M M2/\M2 pk=some (.lst (U.kids.map Tm.mv))/\M2 p0=some (.lst ((rds (U.kids.take i)).map MV.str))/\σ=[some U.mv,some (.ref p0),v2]:=⟨_,λ_ _ _=>Yf⟩;refine⟨J,(hJ _ _ _).2 ⟨_,t1,h1,h01,rfl⟩,λi σ M2 hj=>?_,λi x σ M2 hx hj=>?_,λσ M2 hj=>?_⟩
   ·obtain⟨_,_,g1,_⟩:=(hJ _ _ _).1 hj;exact g1
   ·obtain⟨v2,s2,g1,g2,rfl⟩:=(hJ _ _ _).1 hj;obtain⟨hi,rfl⟩:=YY hx;have hk:=U.kid_depth (XU hi);have hk2:=U.kid_size (XU hi);delta LE;simp!;simp only[g2];simp!;refine⟨⟨_,rfl⟩,?_⟩;refine⟨U.kids[i],rfl,by lia,by lia,λp3 M3 s3 n3 g3=>?_⟩
    have g1':=s3 _ _ g1;have g2':=s3 _ _ g2;simp!;have l1:=Qu (U.kids.take i);have l2:=_k2 U.kids i;have l3:=U.size_kids;have l4:=U.kids[i].reads_len;refine⟨_,g2',_,g3,by simp only[Xc];lia,(hJ _ _ _).2 ⟨_,(s2.trans s3).upd hp0 _,by rw[X7 ne.symm];exact g1',?_,rfl⟩⟩
    rw[Xb,ZC,Xa hi,DZ,_mq,XV]
   ·obtain⟨v2,s2,g1,g2,rfl⟩:=(hJ _ _ _).1 hj;have e:U.kids.take (Src.lst pk (U.kids.map Tm.mv)).len=U.kids:=by simp[Src.len]
    rw[e,<- U.reads_kids hv]at g2;delta LD;simp!;exact q p0 M2 s2 hp0 g2
  delta F7 LH;cases U with
  |num m=>
   simp only[Tm.mv];simp!;exact rest (λ_ e=>by cases e)
  |var x=>
   simp only[Tm.mv];simp!;delta LG;simp!;exact λp hp=>q p _ (SameM.new hp _) hp Xb
  |two f a b=>
   simp only[Tm.mv];simp!;rw[if_neg (G4 f)];exact rest (λ_ e=>by cases e)
  |pick c a b=>
   simp only[Tm.mv];simp!;exact rest (λ_ e=>by cases e)
abbrev G9:SpM:=λvs M Q=>∃(T:Tm) (N:List Str),vs=[T.mv]/\T.depth≤40/\T.size≤4000/\(∀x∈T.reads,x∈N)/\N.length<64/\
 ∀p M' (ys:List Str),SameM M M'->M p=none->M' p=some (.lst (ys.map MV.str))->ys.Nodup->(∀y,y∈ys↔y∈T.reads)->PyProof.Rows.sortedS ys=true->Q (.ref p) M'
theorem _c3:MonW G9:=by walk_at "m"
theorem _h5(T:Txt K mg t):FnOk P w K mg base CX0 50 t.dm t.fj ["T"] (liSp K G9):=by
 refine T.aI.F.okM _gV (fC (G:=LK) (Φ:=[("names_read",(Wj 40))]) T rfl (fMc ⟨(QA _),nl0⟩) (fMc ⟨⟨_,_,_,FnOk.mono (QB T 40) (by decide),T.ax.m,T.ax.F.kp,T.ax.b⟩,nl0⟩)) F8 _hp (fun vs M Q h=>?_) (fun vs M Q h=>?_)
 ·obtain⟨T,N,rfl,_⟩:=h;rfl
 obtain⟨U,N,rfl,hn,hz,hN,hl,q⟩:=h;show wSs _ _ _ [some U.mv] M;delta F8 LJ;simp!;refine⟨U,rfl,hn,hz,λp1 M1 s1 n1 h1=>?_⟩;have hb:scanBound=4096:=rfl;have:=U.reads_len;exact⟨p1,U.reads,N,rfl,h1,by lia,hN,hl,λp ys hp a1 a2 a3=>q p _ ys (s1.trans (SameM.new hp _)) (s1.free hp) Xb a1 a2 a3⟩
abbrev QC:SpM:=λ_ _ _=>False
theorem _nk:MonW QC:=λ_ h=>h.elim
theorem _nN{P:Xv}{w:Xn}{K:X4}{mg:Str->Option X0}{base:Heap}{k:Nat}{f:Addr}{fd:Xi}{ps:List Str}:FnOk P w K mg base CX0 k f fd ps (liSp K λ_ _ _=>False):=
 ⟨λ_ _ _ _ ⟨_,_,_,_,h⟩=>h.elim,λ_ _ _ _ _ _ _ _ _ _ _ _ _ ⟨_,_,_,_,h⟩=>h.elim⟩
def Zt(z:Str):Prop:=1≤z.length/\z.length≤8/\∀c∈z.cps.toList,97≤c/\c≤122
theorem QD{a b:Nat}:([a]:List Nat)<[b]↔a<b:=by
 rw[List.cons_lt_cons_iff];constructor
 ·rintro(h|⟨_,h⟩)
  ·exact h
  ·exact absurd h (by simp)
 ·exact .inl
theorem _rS:(("a":Str)).cps.toList=[97]:=by decide+kernel
theorem _rR:(("z":Str)).cps.toList=[122]:=by decide+kernel
theorem le_a{c:Nat}(h:97≤c):(!decide ((⟨#[c]⟩:Str).cps.toList<(("a":Str)).cps.toList))=true:=by
 rw[_rS];have:¬((⟨#[c]⟩:Str).cps.toList<[97]):=λz=>by
  have z:([c]:List Nat)<[97]:=z;rw[QD]at z;lia
 simpa using this
theorem le_z{c:Nat}(h:c≤122):(!decide ((("z":Str)).cps.toList<(⟨#[c]⟩:Str).cps.toList))=true:=by
 rw[_rR];have:¬([122]<(⟨#[c]⟩:Str).cps.toList):=λz=>by
  have z:([122]:List Nat)<[c]:=z;rw[QD]at z;lia
 simpa using this
abbrev Ga:SpM:=λvs M Q=>∃z:Str,vs=[.str z]/\Zt z/\∀M',SameM M M'->Q (.bl true) M'
theorem _c4:MonW Ga:=by walk_at "m"
theorem _h6(T:Txt K mg t):FnOk P w K mg base CX0 1 t.dR t.dS ["text"] (liSp K Ga):=by
 refine T.bP.F.okM _gY (fC (G:=Mq) (Φ:=[]) T rfl nl0 nl0) Fm _hs (λvs M Q h=>?_) (λvs M Q h=>?_)
 ·obtain⟨z,rfl,_⟩:=h;rfl
 obtain⟨z,rfl,⟨g1,g2,g3⟩,q⟩:=h;show wSs _ _ _ [some (.str z)] M;delta Fm Mp;simp!;refine⟨by lia,?_⟩
 rw[if_pos (by lia:(1:Int)≤(z.length:Int))]
 rw[if_pos (by lia:(z.length:Int)≤8)]
 refine _L z.cps.toList (λc=>.str ⟨#[c]⟩) (λ_=>.bl true) ?_ ?_ (λj f sp h=>by simp at h) λD hD=>?_
 ·simp!;have:z.cps.toList.length=z.length:=Yq;exact⟨rfl,by lia,trivial⟩
 ·intro c hc M' s;obtain⟨h1,h2⟩:=g3 c hc;simp only[sCm,Xx,Yc,Yu,Yv,Yo,Ya];simp!;rw[if_pos (by simpa using le_a h1)]
  simpa using le_z h2
 simp!;refine⟨z.cps.toList.map λ_=>true,by rw[Yp];rfl,?_⟩
 have e:((z.cps.toList.map λ_=>true).all id)=true:=by simp
 rw[e];exact q _ (SameM.new hD _)
theorem Gb{z:Str}{zs:List Str}:inV (toV (.str z)) ((zs.map MV.str).map toV)=decide (z∈zs):=by
 unfold inV
 induction zs with
 |nil=>simp
 |cons a r ih=>
  rw[Xx,Xx,ZD,ih];have e:eqV (toV (.str a)) (toV (.str z))=decide (a=z):=by
   show(a==z)=decide (a=z);by_cases h:a=z
   ·subst h;simp
   ·simp[h]
  rw[e];by_cases h:a=z
  ·simp[h]
  ·have h':¬z=a:=λw=>h w.symm;simp[h,h']
theorem QE(zs:List Str):(zs.map MV.str).all YJ=true:=by
 rw[Wx];intro v hv;obtain⟨x,_,rfl⟩:=XN.mp hv
 rfl
abbrev Bi:SpM:=λvs M Q=>∃(z:Str) (e:Addr) (zs:List Str),vs=[.str z,.ref e]/\M e=some (.lst (zs.map MV.str))/\Zt z/\z∉zs/\∀M',SameM M M'->Q .non M'
theorem Gc:MonW Bi:=by walk_at "m"
theorem Gd(T:Txt K mg t):FnOk P w K mg base CX0 2 t.dC t.dM ["text","earlier"] (liSp K Bi):=by
 refine T.aG.F.okM _bR (fC (G:=Mt) (Φ:=[("is_name",Ga)]) T rfl (fMc ⟨_c4,nl0⟩) (fMc ⟨fE T.bP (_h6 T),nl0⟩)) Fn _ce (fun vs M Q h=>?_) (fun vs M Q h=>?_)
 ·obtain⟨z,a,zs,rfl,_⟩:=h;rfl
 obtain⟨z,a,zs,rfl,h1,h2,h3,q⟩:=h;show wSs _ _ _ [some (.str z),some (.ref a)] M;delta Fn Ms;simp!;refine⟨z,rfl,h2,λM1 s1=>?_⟩;simp!;delta Mr;simp!;refine .inl ⟨_,s1 _ _ h1,rfl,QE zs,?_⟩;rw[Gb,decide_eq_false h3];simp!;exact q M1 s1
def Leaf(v:MV):Prop:=(∃i,v=.int i)\/∃z,v=.str z
def FroD:Nat->MH->MV->MV->Prop
 |0,_,v,v'=>Leaf v/\v'=v
 |n+1,M,v,v'=>(Leaf v/\v'=v)\/∃ps:List (MV×MV),(v=.tup (ps.map (·.1))\/∃a,v=.ref a/\M a=some (.lst (ps.map (·.1))))/\v'=.tup (ps.map (·.2))/\ps.length≤1000/\∀p∈ps,FroD n M p.1 p.2
theorem FroD.keep{M M':MH}(s:SameM M M'):∀{n:Nat} {v v':MV},FroD n M v v'->FroD n M' v v'
 |0,_,_,h=>h
 |n+1,v,v',h=>by
  rcases h with h|⟨ps,h1,h2,h3,h4⟩
  ·exact .inl h
  ·refine .inr ⟨ps,?_,h2,h3,λp hp=>(h4 p hp).keep s⟩;rcases h1 with h1|⟨a,e,h1⟩
   ·exact .inl h1
   ·exact .inr ⟨a,e,s _ _ h1⟩
abbrev ZM(n:Nat):SpM:=λvs M Q=>∃v v',vs=[v]/\FroD n M v v'/\∀M',SameM M M'->Q v' M'
theorem D6(n:Nat):MonW (ZM n):=by walk_at "m"
theorem _fK{n:Nat}(hΦ:∀(j:Nat) f sp,([("frozen",ZM n)]:List (Str×SpM))[j]?=some (f,sp)->MonW sp) {vs:List MV} {M:MH} {Q:QM} (h:ZM (n+1) vs M Q):wSs [("frozen",ZM n)] We {nx:=fun _ M'=>Q .non M',rt:=Q} (Ag 1 vs) M:=by
 obtain⟨v,v',rfl,hf,q⟩:=h;show wSs _ _ _ [some v] M;delta We FC;rcases hf with⟨l,rfl⟩|⟨ps,h1,rfl,h3,h4⟩
 ·rcases l with⟨i,rfl⟩|⟨z,rfl⟩
  ·simp!;simp only[decide_false,VM,Yi,if_false,reduceCtorEq,ne_eq,not_false_eq_true,true_and];delta Wd;simp!;exact q M (SameM.refl _)
  ·simp!;simp only[decide_false,VM,Yi,if_false,reduceCtorEq,ne_eq,not_false_eq_true,true_and];delta Wd;simp!;exact q M (SameM.refl _)
 ·have go:wSs [("frozen",ZM n)] FB {nx:=fun σ M=>wSs [("frozen",ZM n)] Wd {nx:=fun _ M'=>Q .non M',rt:=Q} σ M,rt:=Q} [some v] M:=by
   delta FB;simp!;refine _jo ps (·.1) (·.2) ?_ ?_ hΦ λD M' hD s hd=>?_
   ·rcases h1 with rfl|⟨a,rfl,ha⟩
    ·simp!;exact⟨rfl,by lia,trivial,λ_ _ h=>h⟩
    ·simp![ha]
     exact⟨rfl,by lia,ha,λ_ _ h=>h⟩
   ·intro p hp M' s;simp only[sCm,Xx,Yc,Yu,Yv,Yo,Ya];simp!;exact⟨p.1,p.2,rfl,(h4 p hp).keep s,λM2 s2=>⟨rfl,s2⟩⟩
   simp![hd]
   exact q M' s
  rcases h1 with rfl|⟨a,rfl,ha⟩
  ·simp!;simp only[decide_true,Bool.or_true,Bool.true_or,if_true,reduceCtorEq,ne_eq,not_false_eq_true,true_and];exact go
  ·simp![ha]
   simp only[decide_true,Bool.or_true,Bool.true_or,if_true,reduceCtorEq,ne_eq,not_false_eq_true,true_and];exact go
theorem QF(T:Txt K mg t):∀n:Nat,FnOk P w K mg base CX0 (n+8) t.gQ t.gF ["value"] (liSp K (ZM n))
 |0=>by
  refine T.aj.F.okM Kd (fC (G:=FD) (Φ:=[("frozen",QC)]) T rfl (fMc ⟨@_nk,nl0⟩) (fMc ⟨⟨_,_,_,_nN,T.aj.m,T.aj.F.kp,T.aj.b⟩,nl0⟩)) We Nz (fun vs M Q h=>?_) (fun vs M Q h=>?_)
  ·obtain⟨v,v',rfl,_⟩:=h;rfl
  obtain⟨v,v',rfl,⟨l,rfl⟩,q⟩:=h;show wSs _ _ _ [some v'] M;delta We FC;rcases l with⟨i,rfl⟩|⟨z,rfl⟩
  ·simp!;simp only[decide_false,VM,Yi,if_false,reduceCtorEq,ne_eq,not_false_eq_true,true_and];delta Wd;simp!;exact q M (SameM.refl _)
  ·simp!;simp only[decide_false,VM,Yi,if_false,reduceCtorEq,ne_eq,not_false_eq_true,true_and];delta Wd;simp!;exact q M (SameM.refl _)
 |n+1=>by
  have ih:=QF T n;refine T.aj.F.okM Kd (fC (G:=FD) (Φ:=[("frozen",(ZM n))]) T rfl (fMc ⟨(D6 _),nl0⟩) (fMc ⟨⟨_,_,_,ih,T.aj.m,T.aj.F.kp,T.aj.b⟩,nl0⟩)) We Nz (fun vs M Q h=>?_) (fun vs M Q h=>?_)
  ·obtain⟨v,v',rfl,_⟩:=h;rfl
  exact _fK (UQ (fMc ⟨D6 n,nl0⟩)) h
structure Isl where
 name:Str
 prs:List (Str×Int)
 stps:List Stp
structure Fer where
 name:Str
 giver:Str
 taker:Str
 k:Nat
 st:Nat
structure Wld where
 w:Nat
 isl:List Isl
 fer:List Fer
def prV(p:Str×Int):MV:=.tup [.str p.1,.int p.2]
def Fer.mv(f:Fer):MV:=.tup [.str f.name,.str f.giver,.str f.taker,.int f.k,.int f.st]
def Isl.mv(I:Isl):MV:=.tup [.str I.name,.tup (I.prs.map prV),.tup (I.stps.map Stp.mv)]
def Wld.mv(W:Wld):MV:=.tup [.int W.w,.tup (W.isl.map Isl.mv),.tup (W.fer.map Fer.mv)]
def Isl.vars(I:Isl):List Str:=I.prs.map (·.1)
def Wld.fns(W:Wld):List Str:=W.fer.map (·.name)
def Wld.ins(W:Wld):List Str:=W.isl.map (·.name)
def TmIn(ns:List Str)(T:Tm):Prop:=T.depth≤8/\T.size≤30/\∀x∈T.reads,x∈ns
def ZN(fs:List Str)(ns:List Str)(n:Nat):Stp->Prop
 |.take f x=>f∈fs/\x∈ns
 |.give f T=>f∈fs/\TmIn ns T
 |.put x T=>x∈ns/\TmIn ns T
 |.jump T i=>TmIn ns T/\0≤i/\i≤(n:Int)
structure IslOk (w:Nat) (fs:List Str) (I:Isl):Prop where
 nv:I.prs.length≤6
 ns:I.stps.length≤12
 nd:I.vars.Nodup
 gd:∀x∈I.vars,Zt x
 wd:∀p∈I.prs,0≤p.2/\p.2<2^w
 st:∀s∈I.stps,ZN fs I.vars I.stps.length s
structure FerOk (is:List Str) (f:Fer):Prop where
 g:f.giver∈is
 t:f.taker∈is
 ne:f.giver≠f.taker
 k3:f.k≤3
 s1:1≤f.st
 s3:f.st≤3
def ZO(F:List Fer)(z:Str):Stp->Prop
 |.take f _=>∀x∈F,x.name=f->x.taker=z
 |.give f _=>∀x∈F,x.name=f->x.giver=z
 |_=>True
structure Wld.Good (W:Wld):Prop where
 w1:1≤W.w
 w2:W.w≤64
 i5:W.isl.length≤5
 f6:W.fer.length≤6
 fg:∀z∈W.fns,Zt z
 ig:∀z∈W.ins,Zt z
 nd:(W.fns++W.ins).Nodup
 io:∀I∈W.isl,IslOk W.w W.fns I
 fo:∀f∈W.fer,FerOk W.ins f
 en:∀I∈W.isl,∀s∈I.stps,ZO W.fer I.name s
def IslIn(M:MH)(I:Isl)(y:MV):Prop:=∃a b,y=.tup [.str I.name,.ref a,.ref b]/\M a=some (.lst (I.prs.map prV))/\M b=some (.lst (I.stps.map Stp.mv))
theorem IslIn.keep{M M':MH}(s:SameM M M'){I:Isl}{y:MV}(h:IslIn M I y):IslIn M' I y:=by
 obtain⟨a,b,e,h1,h2⟩:=h;exact⟨a,b,e,s _ _ h1,s _ _ h2⟩
def IslsIn(M:MH)(Is:List Isl)(ys:List MV):Prop:=ys.length=Is.length/\∀(i:Nat) (I:Isl) (y:MV),Is[i]?=some I->ys[i]?=some y->IslIn M I y
theorem IslsIn.keep{M M':MH}(s:SameM M M'){Is:List Isl}{ys:List MV}(h:IslsIn M Is ys):IslsIn M' Is ys:=⟨h.1,λi z y a b=>(h.2 i z y a b).keep s⟩
theorem IslsIn.mem{M:MH}{Is:List Isl}{ys:List MV}(h:IslsIn M Is ys){y:MV}(hy:y∈ys):∃I∈Is,IslIn M I y:=by
 obtain⟨i,hi,rfl⟩:=Y1 hy;have hi2:i<Is.length:=by rw[<- h.1];exact hi
 exact⟨Is[i],XU hi2,h.2 i _ _ (Xa hi2) (Xa hi)⟩
theorem IslsIn.fst{M:MH}{Is:List Isl}{ys:List MV}(h:IslsIn M Is ys){f:MV->MV}(hf:∀z r,f (.tup (.str z::r))=.str z):ys.map f=(Is.map (·.name)).map MV.str:=by
 apply BM;intro i;rw[Xr,Xr,Xr];by_cases hi:i<ys.length
 ·have hi2:i<Is.length:=by rw[<- h.1];exact hi
  obtain⟨a,b,e,_⟩:=h.2 i _ _ (Xa hi2) (Xa hi);rw[Xa hi2,Xa hi,e];show some (f _)=_;rw[hf];rfl
 ·have hi2:¬i<Is.length:=by rw[<- h.1];exact hi
  rw[Zi (by lia),Zi (by lia)];rfl
abbrev D7:SpM:=λvs M Q=>∃i:Int,vs=[.int i]/\Q (.bl true) M
theorem QG:MonW D7:=by walk_at "m"
theorem QH(T:Txt K mg t):FnOk P w K mg base CX0 1 t.hV t.cm ["value"] (liSp K D7):=by
 refine T.aV.F.okM _fh (fC (G:=Kf) (Φ:=[]) T rfl nl0 nl0) EC _fR (λvs M Q h=>?_) (λvs M Q h=>?_)
 ·obtain⟨i,rfl,_⟩:=h;rfl
 obtain⟨i,rfl,q⟩:=h;show wSs _ _ _ [some (.int i)] M;delta EC Ke;simp!
 simpa using q
abbrev D9:SpM:=λvs M Q=>∃i:Int,vs=[.int i]/\1≤i/\i≤64/\Q (.bl true) M
theorem QI:MonW D9:=by walk_at "m"
theorem _fk(T:Txt K mg t):FnOk P w K mg base CX0 2 t.cI t.cB ["number"] (liSp K D9):=by
 refine T.aL.F.okM _fg (fC (G:=Kh) (Φ:=[("is_whole",D7)]) T rfl (fMc ⟨QG,nl0⟩) (fMc ⟨fE T.aV (QH T),nl0⟩)) ED _fQ (fun vs M Q h=>?_) (fun vs M Q h=>?_)
 ·obtain⟨i,rfl,_⟩:=h;rfl
 obtain⟨i,rfl,h1,h2,q⟩:=h;show wSs _ _ _ [some (.int i)] M;delta ED Kg;simp!;refine⟨i,rfl,?_⟩;simp!;rw[if_pos h1,decide_eq_true h2];exact q
abbrev Ge:SpM:=λvs M Q=>∃(k:Nat) (i:Int),vs=[.int k,.int i]/\k≤64/\0≤i/\i<2^k/\Q (.bl true) M
theorem _fq:MonW Ge:=by walk_at "m"
theorem _n5(T:Txt K mg t):FnOk P w K mg base CX0 2 t.ck t.dg ["width","number"] (liSp K Ge):=by
 refine T.bO.F.okM _mn (fC (G:=Ko) (Φ:=[("is_whole",D7),("two_to",Zs)]) T rfl (fMc ⟨QG,(fMc ⟨CY,nl0⟩)⟩) (fMc ⟨fE T.aV (QH T),(fMc ⟨fE T.aC (CZ T),nl0⟩)⟩)) EF _nY (fun vs M Q h=>?_) (fun vs M Q h=>?_)
 ·obtain⟨k,i,rfl,_⟩:=h;rfl
 obtain⟨k,i,rfl,h1,h2,h3,q⟩:=h;show wSs _ _ _ [some (.int k),some (.int i)] M;delta EF Kn;simp!;refine⟨i,rfl,?_⟩;simp!;rw[if_pos h2];refine⟨k,rfl,h1,?_⟩;simp!;rw[decide_eq_true h3];exact q
abbrev Bj:SpM:=λvs M Q=>∃(z:Str) (e:Addr) (zs:List Str),vs=[.str z,.ref e]/\M e=some (.lst (zs.map MV.str))/\z∈zs/\Q .non M
theorem Gf:MonW Bj:=by walk_at "m"
theorem Gg(T:Txt K mg t):FnOk P w K mg base CX0 1 t.fY t.dc ["name","known"] (liSp K Bj):=by
 refine T.ay.F.okM _8P (fC (G:=Mv) (Φ:=[]) T rfl nl0 nl0) Fo _99 (λvs M Q h=>?_) (λvs M Q h=>?_)
 ·obtain⟨z,a,zs,rfl,_⟩:=h;rfl
 obtain⟨z,a,zs,rfl,h1,h2,q⟩:=h;show wSs _ _ _ [some (.str z),some (.ref a)] M;delta Fo Mu;simp!;refine .inl ⟨_,h1,rfl,QE zs,?_⟩;rw[Gb,decide_eq_true h2];simp!;exact q
theorem Gh{α:Type} [DecidableEq α] {zs:List α}(nd:zs.Nodup){j:Nat}{z:α}(hz:zs[j]?=some z):z∉zs.take j:=λhm=>by
 obtain⟨hj,rfl⟩:=XG.mp hz;obtain⟨k,hk,e1⟩:=Y1 hm;have hk2:k<j:=by rw[YN]at hk;lia
 rw[List.getElem_take]at e1;have:=(BN nd).mp e1;lia
theorem Gi{α β:Type}{f:α->β}{zs:List α}{j:Nat}{z:α}(hz:zs[j]?=some z):(zs.take j).map f++[f z]=(zs.take (j+1)).map f:=by
 rw[ZC,hz,XV];rfl
abbrev Da:SpM:=λvs M Q=>∃(f:Addr) (F:List Fer),vs=[.ref f]/\M f=some (.lst (F.map Fer.mv))/\F.length≤6/\(F.map (·.name)).Nodup/\(∀x∈F,Zt x.name)/\∀M',SameM M M'->Q .non M'
theorem QJ:MonW Da:=by walk_at "m"
theorem _5m(T:Txt K mg t):FnOk P w K mg base CX0 3 t.fJ t.de ["ferries"] (liSp K Da):=by
 refine T.aN.F.okM _5e (fC (G:=MB) (Φ:=[("refuse_name",Bi)]) T rfl (fMc ⟨Gc,nl0⟩) (fMc ⟨fE T.aG (Gd T),nl0⟩)) Fp _6f (fun vs M Q h=>?_) (fun vs M Q h=>?_)
 ·obtain⟨f,F,rfl,_⟩:=h;rfl
 obtain⟨f,F,rfl,hf,h6,nd,hg,q⟩:=h;show wSs _ _ _ [some (.ref f),none,none] M;delta Fp MA;simp!;intro p hp;have s1:=SameM.new hp (.lst []);have hf1:=s1 _ _ hf;have hp1:updM M p (.lst []) p=some (.lst []):=Xb;have old:∀a o,M a=some o->a≠p:=λa o h=>neM h hp;generalize updM M p _=M1 at*;delta Mz
 simp![hf1]
 obtain⟨J,hJ⟩:∃J:Nat->Sm->MH->Prop,∀j σ M',J j σ M'↔SameM M M'/\M' p=some (.lst (((F.map (·.name)).take j).map MV.str))/\∃v,σ=[some (.ref f),some (.ref p),v]:=⟨_,λ_ _ _=>Yf⟩;refine⟨J,(hJ _ _ _).mpr ⟨s1,by simpa using hp1,_,rfl⟩,λj σ M' h=>((hJ _ _ _).mp h).1 _ _ hf,?_,?_⟩
 ·rintro j y σ M' hy h;obtain⟨s2,hp2,v,rfl⟩:=(hJ _ _ _).mp h;obtain⟨hj,rfl⟩:=YY hy;have hj:j<F.length:=hj;have hz:(F.map (·.name))[j]?=some F[j].name:=by rw[Xr,Xa hj];rfl
  delta Mx
  simp![Fer.mv]
  refine⟨F[j].name,p,(F.map (·.name)).take j,rfl,hp2,hg _ (XU hj),Gh nd hz,λM3 s3=>?_⟩;have hp3:=s3 _ _ hp2;simp!;delta Mw
  simp![Fer.mv,hp3,Xc,YN]
  refine⟨⟨_,rfl⟩,by lia,(hJ _ _ _).mpr ⟨λa o h=>by rw[X7 (old a o h)];exact s3 _ _ (s2 _ _ h),?_,_,rfl⟩⟩
  rw[Xb,Gi hz]
 ·rintro σ M' h;obtain⟨s2,_⟩:=(hJ _ _ _).mp h;exact q _ s2
abbrev Db:SpM:=λvs M Q=>∃(k:Nat) (f:Addr) (ps:List (Str×Int)),vs=[.int k,.ref f]/\M f=some (.lst (ps.map prV))/\k≤64/\ps.length≤6/\(ps.map (·.1)).Nodup/\(∀x∈ps,Zt x.1/\0≤x.2/\x.2<2^k)/\∀M',SameM M M'->Q .non M'
theorem QK:MonW Db:=by walk_at "m"
theorem _7A(T:Txt K mg t):FnOk P w K mg base CX0 3 t.gS t.fL ["width","pairs"] (liSp K Db):=by
 refine T.bp.F.okM _7w (fC (G:=MJ) (Φ:=[("fits",Ge),("refuse_name",Bi)]) T rfl (fMc ⟨_fq,(fMc ⟨Gc,nl0⟩)⟩) (fMc ⟨fE T.bO (_n5 T),(fMc ⟨fE T.aG (Gd T),nl0⟩)⟩)) Fq _7P (fun vs M Q h=>?_) (fun vs M Q h=>?_)
 ·obtain⟨k,f,F,rfl,_⟩:=h;rfl
 obtain⟨k,f,F,rfl,hf,hk,h6,nd,hg,q⟩:=h;show wSs _ _ _ [some (.int k),some (.ref f),none,none,none] M;delta Fq MI;simp!;intro p hp;have s1:=SameM.new hp (.lst []);have hf1:=s1 _ _ hf;have hp1:updM M p (.lst []) p=some (.lst []):=Xb;have old:∀a o,M a=some o->a≠p:=λa o h=>neM h hp;generalize updM M p _=M1 at*;delta MG
 simp![hf1]
 obtain⟨J,hJ⟩:∃J:Nat->Sm->MH->Prop,∀j σ M',J j σ M'↔SameM M M'/\M' p=some (.lst (((F.map (·.1)).take j).map MV.str))/\∃v v',σ=[some (.int k),some (.ref f),some (.ref p),v,v']:=⟨_,λ_ _ _=>Yf⟩;refine⟨J,(hJ _ _ _).mpr ⟨s1,by simpa using hp1,_,_,rfl⟩,λj σ M' h=>((hJ _ _ _).mp h).1 _ _ hf,?_,?_⟩
 ·rintro j y σ M' hy h;obtain⟨s2,hp2,v,v',rfl⟩:=(hJ _ _ _).mp h;obtain⟨hj,rfl⟩:=YY hy;have hj:j<F.length:=hj;have hz:(F.map (·.1))[j]?=some F[j].1:=by rw[Xr,Xa hj];rfl
  obtain⟨g1,g2,g3⟩:=hg _ (XU hj);delta MF
  simp![prV]
  delta ME;simp!;refine⟨F[j].1,p,(F.map (·.1)).take j,rfl,hp2,g1,Gh nd hz,λM3 s3=>?_⟩;have hp3:=s3 _ _ hp2;simp!;delta MD
  simp![hp3,Xc,YN]
  refine⟨⟨_,rfl⟩,by lia,?_⟩
  delta MC
  simp![prV]
  refine⟨k,F[j].2,rfl,hk,g2,g3,?_⟩;simp!;refine(hJ _ _ _).mpr ⟨λa o h=>by rw[X7 (old a o h)];exact s3 _ _ (s2 _ _ h),?_,_,_,rfl⟩
  rw[Xb,Gi hz]
 ·rintro σ M' h;obtain⟨s2,_⟩:=(hJ _ _ _).mp h;exact q _ s2
abbrev Gj:SpM:=λvs M Q=>∃(U:Tm) (e:Addr) (ns:List Str),vs=[U.mv,.ref e]/\M e=some (.lst (ns.map MV.str))/\ns.length≤6/\TmIn ns U/\∀M',SameM M M'->Q .non M'
theorem _85:MonW Gj:=by walk_at "m"
theorem _bX(T:Txt K mg t):FnOk P w K mg base CX0 51 t.dy t.dh ["T","known"] (liSp K Gj):=by
 refine T.br.F.okM _bP (fC (G:=MP) (Φ:=[("refuse_unknown",Bj),("size_of",(Bh 8)),("vars_in",G9)]) T rfl (fMc ⟨Gf,(fMc ⟨(Qy _),(fMc ⟨_c3,nl0⟩)⟩)⟩) (fMc ⟨⟨_,_,_,FnOk.mono (Gg T) (by decide),T.ay.m,T.ay.F.kp,T.ay.b⟩,(fMc ⟨⟨_,_,_,FnOk.mono (Qz T 8) (by decide),T.aq.m,T.aq.F.kp,T.aq.b⟩,(fMc ⟨⟨_,_,_,FnOk.mono (_h5 T) (by decide),T.aI.m,T.aI.F.kp,T.aI.b⟩,nl0⟩)⟩)⟩)) Fr _cc (fun vs M Q h=>?_) (fun vs M Q h=>?_)
 ·obtain⟨U,a,ns,rfl,_⟩:=h;rfl
 obtain⟨U,a,ns,rfl,ha,h6,⟨hd,hs,hr⟩,q⟩:=h;show wSs _ _ _ [some U.mv,some (.ref a),none,none] M;delta Fr MN;simp!;refine⟨U,rfl,hd,λM1 s1=>?_⟩;simp!;delta MM;simp!;rw[if_neg (by lia:¬((U.size:Nat):Int)>30)]
 rw[if_neg (by lia:¬((U.depth:Nat):Int)>8)]
 delta ML;simp!;refine⟨U,ns,rfl,by lia,by lia,hr,by lia,λp M2 ys s2 hp hp2 nd hm _=>?_⟩
 simp![hp2]
 obtain⟨J,hJ⟩:∃J:Nat->Sm->MH->Prop,∀j σ M',J j σ M'↔M'=M2/\∃v v',σ=[some U.mv,some (.ref a),v,v']:=⟨_,λ_ _ _=>Yf⟩;refine⟨J,(hJ _ _ _).mpr ⟨rfl,_,_,rfl⟩,λj σ M' h=>by rw[((hJ _ _ _).mp h).1];exact hp2,?_,?_⟩
 ·rintro j y σ M' hy h;obtain⟨rfl,v,v',rfl⟩:=(hJ _ _ _).mp h;obtain⟨hj,rfl⟩:=YY hy;delta MK;simp!;refine⟨ys[j],a,ns,rfl,s2 _ _ (s1 _ _ ha),hr _ ((hm _).mp (XU hj)),?_⟩;simp!;exact(hJ _ _ _).mpr ⟨rfl,_,_,rfl⟩
 ·rintro σ M' h;obtain⟨rfl,_⟩:=(hJ _ _ _).mp h;exact q _ (s1.trans s2)
theorem Gk{f x:Str}:(Stp.take f x).mv=.tup [.str "take",.str f,.str x]:=rfl
theorem Gm{f:Str}{U:Tm}:(Stp.give f U).mv=.tup [.str "give",.str f,U.mv]:=rfl
theorem Gn{f:Str}{U:Tm}:(Stp.put f U).mv=.tup [.str "put",.str f,U.mv]:=rfl
theorem Go{i:Int}{U:Tm}:(Stp.jump U i).mv=.tup [.str "jump",U.mv,.int i]:=rfl
abbrev Dc:SpM:=λvs M Q=>∃(S:Stp) (a b:Addr) (ns fs:List Str) (n:Nat),vs=[S.mv,.ref a,.int n,.ref b]/\M a=some (.lst (ns.map MV.str))/\M b=some (.lst (fs.map MV.str))/\ns.length≤6/\ZN fs ns n S/\∀M',SameM M M'->Q .non M'
theorem QL:MonW Dc:=by walk_at "m"
theorem _bY(T:Txt K mg t):FnOk P w K mg base CX0 52 t.fX t.i0 ["step","known","count","ferry_names"] (liSp K Dc):=by
 refine T.bm.F.okM _bQ (fC (G:=N1) (Φ:=[("refuse_term",Gj),("refuse_unknown",Bj)]) T rfl (fMc ⟨_85,(fMc ⟨Gf,nl0⟩)⟩) (fMc ⟨fE T.br (_bX T),(fMc ⟨fE T.ay (Gg T),nl0⟩)⟩)) Fu _cd (fun vs M Q h=>?_) (fun vs M Q h=>?_)
 ·obtain⟨S,a,b,ns,fs,n,rfl,_⟩:=h;rfl
 obtain⟨S,a,b,ns,fs,n,rfl,ha,hb,h6,hS,q⟩:=h;show wSs _ _ _ [some S.mv,some (.ref a),some (.int n),some (.ref b)] M;delta Fu N0;cases S with
 |take f x=>
  obtain⟨h1,h2⟩:=hS
  simp![Gk]
  delta MR;simp!;refine⟨f,b,fs,rfl,hb,h1,?_⟩;simp!;delta MQ;simp!;refine⟨x,a,ns,rfl,ha,h2,?_⟩;simp!;exact q _ (SameM.refl _)
 |give f U=>
  obtain⟨h1,h2⟩:=hS
  simp![Gm]
  delta CT;simp!;delta MU;simp!;refine⟨f,b,fs,rfl,hb,h1,?_⟩;simp!;delta MS;simp!;refine⟨U,a,ns,rfl,ha,h6,h2,λM1 s1=>?_⟩;simp!;exact q _ s1
 |put f U=>
  obtain⟨h1,h2⟩:=hS
  simp![Gn]
  delta CT;simp!;delta Ft;simp!;delta MX;simp!;refine⟨f,a,ns,rfl,ha,h1,?_⟩;simp!;delta MW;simp!;refine⟨U,a,ns,rfl,ha,h6,h2,λM1 s1=>?_⟩;simp!;exact q _ s1
 |jump U i=>
  obtain⟨h1,h2,h3⟩:=hS
  simp![Go]
  delta CT;simp!;delta Ft;simp!;delta MZ;simp!;refine⟨U,a,ns,rfl,ha,h6,h1,λM1 s1=>?_⟩;simp!;delta MY;simp!;rw[if_pos h2];rw[if_neg (by lia:¬¬i≤(n:Int))]
  exact q _ s1
abbrev Gp:SpM:=λvs M Q=>∃(k:Nat) (I:Isl) (y:MV) (b:Addr) (fs:List Str),vs=[.int k,y,.ref b]/\k≤64/\IslIn M I y/\M b=some (.lst (fs.map MV.str))/\IslOk k fs I/\∀M',SameM M M'->Q .non M'
theorem _6x:MonW Gp:=by walk_at "m"
theorem _ad(T:Txt K mg t):FnOk P w K mg base CX0 53 t.gU t.fU ["width","island","ferry_names"] (liSp K Gp):=by
 refine T.bK.F.okM _ab (fC (G:=N8) (Φ:=[("refuse_step",Dc),("refuse_variables",Db)]) T rfl (fMc ⟨QL,(fMc ⟨QK,nl0⟩)⟩) (fMc ⟨fE T.bm (_bY T),(fMc ⟨fE T.bp (_7A T),nl0⟩)⟩)) Fv _an (fun vs M Q h=>?_) (fun vs M Q h=>?_)
 ·obtain⟨k,I,y,b,fs,rfl,_⟩:=h;rfl
 obtain⟨k,I,y,fa,fs,rfl,hk,⟨a,b,rfl,ha,hb⟩,hfa,ok,q⟩:=h;show wSs _ _ _ [some (.int k),some (.tup [.str I.name,.ref a,.ref b]),some (.ref fa),none,none] M;have l1:=ok.nv;have l2:=ok.ns;delta Fv N7
 simp![ha,Xc]
 refine Y4 (λz=>by lia) (λ_=>?_)
 delta N6
 simp![hb,Xc]
 refine Y4 (λz=>by lia) (λ_=>?_)
 delta N5;simp!;refine⟨k,a,I.prs,rfl,ha,hk,l1,ok.nd,λx hx=>⟨ok.gd _ (XN.mpr ⟨x,hx,rfl⟩),ok.wd _ hx⟩,λM1 s1=>?_⟩;simp!;have ha1:=s1 _ _ ha;delta N4;simp!;refine _L I.prs prV (fun p=>.str p.1) ?_ ?_ (UQ (Φ:=[("refuse_step",Dc),("refuse_variables",Db)]) (fMc ⟨QL,(fMc ⟨QK,nl0⟩)⟩)) fun D hD=>?_
 ·simp![ha1]
  exact⟨rfl,by lia,ha1⟩
 ·intro p hp M' s;simp only[sCm,Xx,Yc,Yu,Yv,Yo,Ya]
  simp![prV]
  try exact⟨rfl,rfl⟩
 have eV:(I.prs.map λp=>MV.str p.1)=I.vars.map MV.str:=by unfold Isl.vars;rw[Yp];rfl
 rw[eV];have s2:=s1.trans (SameM.new hD (.lst (I.vars.map MV.str)));have hD2:updM M1 D (.lst (I.vars.map MV.str)) D=some (.lst (I.vars.map MV.str)):=Xb;generalize updM M1 D _=M2 at*;have hb2:=s2 _ _ hb;delta N3
 simp![hb2]
 obtain⟨J,hJ⟩:∃J:Nat->Sm->MH->Prop,∀j σ M',J j σ M'↔SameM M2 M'/\∃v,σ=[some (.int k),some (.tup [.str I.name,.ref a,.ref b]),some (.ref fa),some (.ref D),v]:=⟨_,λ_ _ _=>Yf⟩;refine⟨J,(hJ _ _ _).mpr ⟨SameM.refl _,_,rfl⟩,λj σ M' h=>((hJ _ _ _).mp h).1 _ _ hb2,?_,?_⟩
 ·rintro j y σ M' hy h;obtain⟨s3,v,rfl⟩:=(hJ _ _ _).mp h;obtain⟨hj,rfl⟩:=YY hy;have hj:j<I.stps.length:=hj;have hb3:=s3 _ _ hb2;delta N2
  simp![hb3,Xc]
  refine⟨I.stps[j],D,fa,I.vars,fs,I.stps.length,rfl,s3 _ _ hD2,s3 _ _ (s2 _ _ hfa),by unfold Isl.vars;rw[Xc];exact l1,ok.st _ (XU hj),λM4 s4=>?_⟩
  simp!;exact(hJ _ _ _).mpr ⟨s3.trans s4,_,rfl⟩
 ·rintro σ M' h;obtain⟨s3,_⟩:=(hJ _ _ _).mp h;exact q _ (s2.trans s3)
abbrev Dd:SpM:=λvs M Q=>∃(k:Nat) (p b:Addr) (Is:List Isl) (ys:List MV) (fs:List Str),vs=[.int k,.ref p,.ref b]/\k≤64/\M p=some (.lst ys)/\IslsIn M Is ys/\Is.length≤5/\fs.length≤6/\M b=some (.lst (fs.map MV.str))/\(fs++Is.map (·.name)).Nodup/\(∀I∈Is,Zt I.name)/\(∀I∈Is,IslOk k fs I)/\∀M',SameM M M'->Q .non M'
theorem QN:MonW Dd:=by walk_at "m"
theorem _8T(T:Txt K mg t):FnOk P w K mg base CX0 54 t.cv t.eE ["width","islands","ferry_names"] (liSp K Dd):=by
 refine T.aO.F.okM _8Q (fC (G:=Nf) (Φ:=[("refuse_island",Gp),("refuse_name",Bi)]) T rfl (fMc ⟨_6x,(fMc ⟨Gc,nl0⟩)⟩) (fMc ⟨fE T.bK (_ad T),(fMc ⟨fE T.aG (Gd T),nl0⟩)⟩)) Fw _9a (fun vs M Q h=>?_) (fun vs M Q h=>?_)
 ·obtain⟨k,p,b,Is,ys,fs,rfl,_⟩:=h;rfl
 obtain⟨k,p,f,Is,ys,fs,rfl,hk,hp,hI,h5,hf6,hf,nd,hg,ok,q⟩:=h;show wSs _ _ _ [some (.int k),some (.ref p),some (.ref f),none,none] M;delta Fw Nd
 simp![hf]
 intro e he;have s1:=SameM.new he (.lst (fs.map MV.str));have he1:updM M e (.lst (fs.map MV.str)) e=some (.lst (fs.map MV.str)):=Xb;have hp1:=s1 _ _ hp;have old:∀a o,M a=some o->a≠e:=λa o h=>neM h he;generalize updM M e _=M1 at*;delta Nc
 simp![hp1]
 obtain⟨J,hJ⟩:∃J:Nat->Sm->MH->Prop,∀j σ M',J j σ M'↔SameM M M'/\M' e=some (.lst ((fs++(Is.map (·.name)).take j).map MV.str))/\∃v,σ=[some (.int k),some (.ref p),some (.ref f),some (.ref e),v]:=⟨_,λ_ _ _=>Yf⟩;refine⟨J,(hJ _ _ _).mpr ⟨s1,by simpa using he1,_,rfl⟩,λj σ M' h=>((hJ _ _ _).mp h).1 _ _ hp,?_,?_⟩
 ·rintro j y σ M' hy h;obtain⟨s2,he2,v,rfl⟩:=(hJ _ _ _).mp h;have hy:ys[j]?=some y:=hy;have hj:j<Is.length:=by rw[<- hI.1];exact(XG.mp hy).1
  have hi:Is[j]?=some Is[j]:=Xa hj;have hz:(Is.map (·.name))[j]?=some Is[j].name:=by rw[Xr,hi];rfl
  have hm:=XU hj;obtain⟨a,b,rfl,_⟩:=(hI.keep s2).2 j Is[j] y hi hy;have nin:Is[j].name∉fs++(Is.map (·.name)).take j:=by
   rw[Z9]at nd;intro z;rcases Yw.mp z with z|z
   ·exact nd.2.2 _ z _ (XN.mpr ⟨_,hm,rfl⟩) rfl
   ·exact Gh nd.2.1 hz z
  delta Nb;simp!;refine⟨Is[j].name,e,fs++(Is.map (·.name)).take j,rfl,he2,hg _ hm,nin,λM3 s3=>?_⟩;have he3:=s3 _ _ he2;simp!;delta Na
  simp![he3,Xc,Yn,YN]
  refine⟨⟨_,rfl⟩,by lia,?_⟩
  have s4:SameM M (updM M3 e (.lst ((fs++(Is.map (·.name)).take j).map MV.str++[.str Is[j].name]))):=λa o h=>by rw[X7 (old a o h)];exact s3 _ _ (s2 _ _ h)
  have he4:updM M3 e (.lst ((fs++(Is.map (·.name)).take j).map MV.str++[.str Is[j].name])) e=some (.lst ((fs++(Is.map (·.name)).take (j+1)).map MV.str)):=by
   rw[Xb,XV,XV,Vz,Gi hz]
  generalize updM M3 e _=M4 at*;delta N9;simp!;refine⟨k,Is[j],_,f,fs,rfl,hk,(hI.keep s4).2 j _ _ hi hy,s4 _ _ hf,ok _ hm,λM5 s5=>?_⟩;simp!;exact(hJ _ _ _).mpr ⟨s4.trans s5,s5 _ _ he4,_,rfl⟩
 ·rintro σ M' h;obtain⟨s2,_⟩:=(hJ _ _ _).mp h;exact q _ s2
abbrev De:SpM:=λvs M Q=>∃(x:Fer) (e:Addr) (zs:List Str),vs=[x.mv,.ref e]/\M e=some (.lst (zs.map MV.str))/\FerOk zs x/\Q .non M
theorem QO:MonW De:=by walk_at "m"
theorem _aV(T:Txt K mg t):FnOk P w K mg base CX0 2 t.cJ t.gY ["ferry","island_names"] (liSp K De):=by
 refine T.aF.F.okM _aH (fC (G:=Nn) (Φ:=[("refuse_unknown",Bj)]) T rfl (fMc ⟨Gf,nl0⟩) (fMc ⟨fE T.ay (Gg T),nl0⟩)) Fy _bx (fun vs M Q h=>?_) (fun vs M Q h=>?_)
 ·obtain⟨x,a,zs,rfl,_⟩:=h;rfl
 obtain⟨x,a,zs,rfl,ha,ok,q⟩:=h;show wSs _ _ _ [some (.tup [.str x.name,.str x.giver,.str x.taker,.int x.k,.int x.st]),some (.ref a)] M;have k3:=ok.k3;have t1:=ok.s1;have t3:=ok.s3;delta Fy Nm;simp!;refine⟨_,a,zs,rfl,ha,ok.g,?_⟩;simp!;delta Nk;simp!;refine⟨_,a,zs,rfl,ha,ok.t,?_⟩;simp!;delta Nj;simp!;rw[if_neg ok.ne];delta Ni;simp!;rw[if_pos (by lia:(0:Int)≤(x.k:Int))]
 rw[if_neg (by lia:¬¬(x.k:Int)≤3)]
 delta Nh;simp!;rw[if_pos (by lia:(1:Int)≤(x.st:Int))]
 rw[if_neg (by lia:¬¬(x.st:Int)≤3)]
 exact q
theorem _h1{F:List Fer}{g:Fer->Str}:∀{c:List (Key×MV)},(F.map (·.name)).Nodup->(∀x∈F,valM c (Xm x.name)=none)->∀x∈F,valM ((F.map λy=>((Xm y.name:Key),MV.str (g y))).foldl (λc z=>putM c z.1 z.2) c) (Xm x.name)=some (.str (g x)):=by
 have stay:∀(F:List Fer) (c:List (Key×MV)) (z:Str),(∀y∈F,y.name≠z)->valM ((F.map λy=>((Xm y.name:Key),MV.str (g y))).foldl (λc z=>putM c z.1 z.2) c) (Xm z)=valM c (Xm z):=by
  intro F
  induction F with
  |nil=>intro c z _;rfl
  |cons y r ih=>
   intro c z h;rw[Xx,VE,ih _ _ (λy hy=>h y (XS _ hy)),CU,if_neg (λe=>h y (Y8 ..) (Vb e).symm)]
 induction F with
 |nil=>intro c _ _ x hx;cases hx
 |cons y r ih=>
  intro c nd h x hx;rw[Xx,YG]at nd;rw[Xx,VE];rcases Xl.mp hx with rfl|hx
  ·rw[stay _ _ _ (λz hz e=>nd.1 (XN.mpr ⟨z,hz,e⟩)),CU,if_pos rfl]
  ·refine ih nd.2 (λz hz=>?_) x hx;rw[CU,if_neg (λe=>nd.1 (XN.mpr ⟨z,hz,Vb e⟩))];exact h z (XS _ hz)
def dirK(F:List Fer)(g:Fer->Str):List (Key×MV):=Yk (F.map λy=>((Xm y.name:Key),MV.str (g y)))
theorem QP{F:List Fer}{g:Fer->Str}(nd:(F.map (·.name)).Nodup){x:Fer}(hx:x∈F):valM (dirK F g) (Xm x.name)=some (.str (g x)):=_h1 nd (λ_ _=>rfl) x hx
abbrev Df:SpM:=λvs M Q=>∃(z:Str) (S:Stp) (a b:Addr) (F:List Fer),vs=[.str z,S.mv,.ref a,.ref b]/\M a=some (.dic (dirK F (·.giver)))/\M b=some (.dic (dirK F (·.taker)))/\(F.map (·.name)).Nodup/\ZO F z S/\(∀f,(∃x,S=.take f x)\/(∃U,S=.give f U)->f∈F.map (·.name))/\Q .non M
theorem QQ:MonW Df:=by walk_at "m"
theorem _7z(T:Txt K mg t):FnOk P w K mg base CX0 1 t.dL t.gJ ["name","step","givers","takers"] (liSp K Df):=by
 refine T.bw.F.okM _7v (fC (G:=Np) (Φ:=[]) T rfl nl0 nl0) Fz _7O (λvs M Q h=>?_) (λvs M Q h=>?_)
 ·obtain⟨z,S,a,b,F,rfl,_⟩:=h;rfl
 obtain⟨z,S,a,b,F,rfl,ha,hb,nd,hE,hF,q⟩:=h;show wSs _ _ _ [some (.str z),some S.mv,some (.ref a),some (.ref b)] M;delta Fz No;cases S with
 |take f x=>
  obtain⟨y,hy,rfl⟩:=XN.mp (hF f (.inl ⟨x,rfl⟩));have v:=QP (g:=(·.taker)) nd hy;have e:=hE y hy rfl
  simp![Gk,hb,v,e]
  delta Bd
  simp![Gk]
  exact q
 |give f U=>
  obtain⟨y,hy,rfl⟩:=XN.mp (hF f (.inr ⟨U,rfl⟩));have v:=QP (g:=(·.giver)) nd hy;have e:=hE y hy rfl
  simp![Gm]
  delta Bd
  simp![Gm,ha,v,e]
  exact q
 |put f U=>
  simp![Gn]
  delta Bd
  simp![Gn]
  exact q
 |jump U i=>
  simp![Go]
  delta Bd
  simp![Go]
  exact q
theorem _dh{fs ns:List Str}{n:Nat}{S:Stp}(h:ZN fs ns n S):∀f,(∃x,S=.take f x)\/(∃U,S=.give f U)->f∈fs:=by
 rintro f (⟨x,rfl⟩|⟨U,rfl⟩)
 ·exact h.1
 ·exact h.1
abbrev Dh:SpM:=λvs M Q=>∃(p f:Addr) (ys:List MV) (Is:List Isl) (F:List Fer),vs=[.ref p,.ref f]/\M p=some (.lst ys)/\IslsIn M Is ys/\Is.length≤5/\M f=some (.lst (F.map Fer.mv))/\F.length≤6/\(F.map (·.name)).Nodup/\
 (∀I∈Is,I.stps.length≤12/\∀s∈I.stps,ZO F I.name s/\∃ns n,ZN (F.map (·.name)) ns n s)/\∀M',SameM M M'->Q .non M'
theorem QR:MonW Dh:=by walk_at "m"
theorem QS(F:List Fer)(g:Fer->Str):(F.map λx=>MV.tup [.str x.name,.str (g x)])=(F.map λy=>((Xm y.name:Key),MV.str (g y))).map prM:=by rw[Yp];rfl
theorem _6w(T:Txt K mg t):FnOk P w K mg base CX0 2 t.dj t.ga ["islands","ferries"] (liSp K Dh):=by
 refine T.aJ.F.okM _6u (fC (G:=Ny) (Φ:=[("refuse_wrong_end",Df)]) T rfl (fMc ⟨QQ,nl0⟩) (fMc ⟨fE T.bw (_7z T),nl0⟩)) FA _6A (fun vs M Q h=>?_) (fun vs M Q h=>?_)
 ·obtain⟨p,f,ys,Is,F,rfl,_⟩:=h;rfl
 obtain⟨p,f,ys,Is,F,rfl,hp,hI,h5,hf,h6,nd,hE,q⟩:=h;show wSs _ _ _ [some (.ref p),some (.ref f),none,none,none,none] M;have hΦ:=(UQ (Φ:=[("refuse_wrong_end",Df)]) (fMc ⟨QQ,nl0⟩));delta FA Nw;simp!;refine _L F Fer.mv (λx=>.tup [.str x.name,.str x.giver]) ?_ ?_ hΦ λD hD=>?_
 ·simp![hf]
  exact⟨rfl,by lia,hf⟩
 ·intro x hx M' s;simp only[sCm,Xx,Yc,Yu,Yv,Yo,Ya]
  simp![Fer.mv]
  try exact⟨rfl,rfl⟩
 rw[QS F (·.giver)];have s1:=SameM.new hD (.lst ((F.map λy=>((Xm y.name:Key),MV.str y.giver)).map prM));have d1:updM M D (.lst ((F.map λy=>((Xm y.name:Key),MV.str y.giver)).map prM)) D=some (.lst ((F.map λy=>((Xm y.name:Key),MV.str y.giver)).map prM)):=Xb;generalize updM M D _=M1 at*;simp!;refine⟨_,d1,λa ha=>?_⟩;have s2:=s1.trans (SameM.new ha (.dic (dirK F (·.giver))));have ha2:updM M1 a (.dic (dirK F (·.giver))) a=some (.dic (dirK F (·.giver))):=Xb
 change wSs _ _ _ _ (updM M1 a (.dic (dirK F (·.giver))))
 generalize updM M1 a _=M2 at*;have hf2:=s2 _ _ hf;delta Nv;simp!;refine _L F Fer.mv (λx=>.tup [.str x.name,.str x.taker]) ?_ ?_ hΦ λD2 hD2=>?_
 ·simp![hf2]
  exact⟨rfl,by lia,hf2⟩
 ·intro x hx M' s;simp only[sCm,Xx,Yc,Yu,Yv,Yo,Ya]
  simp![Fer.mv]
  try exact⟨rfl,rfl⟩
 rw[QS F (·.taker)];have s3:=SameM.new hD2 (.lst ((F.map λy=>((Xm y.name:Key),MV.str y.taker)).map prM));have d3:updM M2 D2 (.lst ((F.map λy=>((Xm y.name:Key),MV.str y.taker)).map prM)) D2=some (.lst ((F.map λy=>((Xm y.name:Key),MV.str y.taker)).map prM)):=Xb;generalize updM M2 D2 _=M3 at*;simp!;refine⟨_,d3,λb hb=>?_⟩;have s4:=s3.trans (SameM.new hb (.dic (dirK F (·.taker))));have hb4:updM M3 b (.dic (dirK F (·.taker))) b=some (.dic (dirK F (·.taker))):=Xb
 change wSs _ _ _ _ (updM M3 b (.dic (dirK F (·.taker))))
 generalize updM M3 b _=M4 at*;have ha4:=s4 _ _ ha2;have s5:=s2.trans s4;have hp4:=s5 _ _ hp;have hI4:=hI.keep s5;delta Nu
 simp![hp4]
 obtain⟨J,hJ⟩:∃J:Nat->Sm->MH->Prop,∀j σ M',J j σ M'↔M'=M4/\∃v v',σ=[some (.ref p),some (.ref f),some (.ref a),some (.ref b),v,v']:=⟨_,λ_ _ _=>Yf⟩;refine⟨J,(hJ _ _ _).mpr ⟨rfl,_,_,rfl⟩,λj σ M' h=>by rw[((hJ _ _ _).mp h).1];exact hp4,?_,?_⟩
 ·rintro j y σ M' hy h;obtain⟨rfl,v,v',rfl⟩:=(hJ _ _ _).mp h;obtain⟨I,hm,c,d,rfl,hc,hd⟩:=hI4.mem (Xw hy);obtain⟨l12,hS⟩:=hE I hm;delta Nr
  simp![hd]
  obtain⟨J2,hJ2⟩:∃J2:Nat->Sm->MH->Prop,∀j σ M,J2 j σ M↔M=M'/\∃v',σ=[some (.ref p),some (.ref f),some (.ref a),some (.ref b),some (.tup [.str I.name,.ref c,.ref d]),v']:=⟨_,λ_ _ _=>Yf⟩;refine⟨J2,(hJ2 _ _ _).mpr ⟨rfl,_,rfl⟩,λj σ M h=>by rw[((hJ2 _ _ _).mp h).1];exact hd,?_,?_⟩
  ·rintro i x σ M'' hx h2;obtain⟨rfl,v',rfl⟩:=(hJ2 _ _ _).mp h2;obtain⟨hi,rfl⟩:=YY hx;have hi:i<I.stps.length:=hi;obtain⟨e1,ns,n,e2⟩:=hS _ (XU hi);delta Nq;simp!;refine⟨I.name,I.stps[i],a,b,F,rfl,ha4,hb4,nd,e1,_dh e2,?_⟩;simp!;exact(hJ2 _ _ _).mpr ⟨rfl,_,rfl⟩
  ·rintro σ M'' h2;obtain⟨rfl,v',rfl⟩:=(hJ2 _ _ _).mp h2
   try simp!
   exact(hJ _ _ _).mpr ⟨rfl,_,_,rfl⟩
 ·rintro σ M' h;obtain⟨rfl,_⟩:=(hJ _ _ _).mp h;exact q _ s5
theorem FroD.up{M:MH}:∀{n:Nat} {v v':MV},FroD n M v v'->FroD (n+1) M v v'
 |0,_,_,h=>.inl h
 |n+1,v,v',h=>by
  rcases h with h|⟨ps,h1,h2,h3,h4⟩
  ·exact .inl h
  ·exact .inr ⟨ps,h1,h2,h3,λp hp=>(h4 p hp).up⟩
theorem FroD.to{M:MH}{n m:Nat}{v v':MV}(h:FroD n M v v')(l:n≤m):FroD m M v v':=by
 obtain⟨d,rfl⟩:∃d,m=n+d:=⟨m - n,by lia⟩
 clear l
 induction d with
 |zero=>exact h
 |succ d ih=>exact ih.up
theorem fro_str{M:MH}{z:Str}:FroD 0 M (.str z) (.str z):=⟨.inr ⟨z,rfl⟩,rfl⟩
theorem fro_int{M:MH}{i:Int}:FroD 0 M (.int i) (.int i):=⟨.inl ⟨i,rfl⟩,rfl⟩
theorem _P{M:MH}{n:Nat}{xs:List MV}(l:xs.length≤1000)(h:∀x∈xs,FroD n M x x):FroD (n+1) M (.tup xs) (.tup xs):=by
 have e1:(xs.map λx=>(x,x)).map (·.1)=xs:=by rw[Yp];exact BR xs
 have e2:(xs.map λx=>(x,x)).map (·.2)=xs:=by rw[Yp];exact BR xs
 refine .inr ⟨xs.map λx=>(x,x),.inl (by rw[e1]),by rw[e2],by rw[Xc];exact l,λp hp=>?_⟩
 obtain⟨x,hx,rfl⟩:=XN.mp hp;exact h x hx
theorem Gq{M:MH}{n:Nat}{a:Addr}{xs:List MV}(e:M a=some (.lst xs))(l:xs.length≤1000)(h:∀x∈xs,FroD n M x x):FroD (n+1) M (.ref a) (.tup xs):=by
 have e1:(xs.map λx=>(x,x)).map (·.1)=xs:=by rw[Yp];exact BR xs
 have e2:(xs.map λx=>(x,x)).map (·.2)=xs:=by rw[Yp];exact BR xs
 refine .inr ⟨xs.map λx=>(x,x),.inr ⟨a,rfl,by rw[e1];exact e⟩,by rw[e2],by rw[Xc];exact l,λp hp=>?_⟩
 obtain⟨x,hx,rfl⟩:=XN.mp hp;exact h x hx
theorem US{M:MH}:∀U:Tm,FroD U.depth M U.mv U.mv
 |.num n=>_P (xs:=[.str "num",.int n]) (by simp) (by
   intro x hx;simp only[Xl,XJ,or_false]at hx;rcases hx with rfl|rfl
   ·exact fro_str
   ·exact fro_int)
 |.var z=>_P (xs:=[.str "var",.str z]) (by simp) (by
   intro x hx;simp only[Xl,XJ,or_false]at hx;rcases hx with rfl|rfl
   ·exact fro_str
   ·exact fro_str)
 |.two f a b=>by
  have ha:=US (M:=M) a;have hb:=US (M:=M) b;show FroD (1+max a.depth b.depth) M (.tup [.str f.str,a.mv,b.mv]) (.tup [.str f.str,a.mv,b.mv]);rw[Nat.add_comm];refine _P (by simp) λx hx=>?_
  simp only[Xl,XJ,or_false]at hx;rcases hx with rfl|rfl|rfl
  ·exact fro_str.to (YH _)
  ·exact ha.to (by lia)
  ·exact hb.to (by lia)
 |.pick c a b=>by
  have hc:=US (M:=M) c;have ha:=US (M:=M) a;have hb:=US (M:=M) b;show FroD (1+max c.depth (max a.depth b.depth)) M (.tup [.str "pick",c.mv,a.mv,b.mv]) (.tup [.str "pick",c.mv,a.mv,b.mv]);rw[Nat.add_comm];refine _P (by simp) λx hx=>?_
  simp only[Xl,XJ,or_false]at hx;rcases hx with rfl|rfl|rfl|rfl
  ·exact fro_str.to (YH _)
  ·exact hc.to (by lia)
  ·exact ha.to (by lia)
  ·exact hb.to (by lia)
theorem _me{M:MH}{fs ns:List Str}{n:Nat}{S:Stp}(h:ZN fs ns n S):FroD 9 M S.mv S.mv:=by
 cases S with
 |take f x=>
  refine _P (xs:=[.str "take",.str f,.str x]) (by simp) fun v hv=>?_
  simp only[Xl,XJ,or_false]at hv;rcases hv with rfl|rfl|rfl<;>exact fro_str.to (by decide)
 |give f U=>
  refine _P (xs:=[.str "give",.str f,U.mv]) (by simp) fun v hv=>?_
  simp only[Xl,XJ,or_false]at hv;rcases hv with rfl|rfl|rfl
  ·exact fro_str.to (by decide)
  ·exact fro_str.to (by decide)
  ·exact(US U).to h.2.1
 |put f U=>
  refine _P (xs:=[.str "put",.str f,U.mv]) (by simp) fun v hv=>?_
  simp only[Xl,XJ,or_false]at hv;rcases hv with rfl|rfl|rfl
  ·exact fro_str.to (by decide)
  ·exact fro_str.to (by decide)
  ·exact(US U).to h.2.1
 |jump U i=>
  refine _P (xs:=[.str "jump",U.mv,.int i]) (by simp) fun v hv=>?_
  simp only[Xl,XJ,or_false]at hv;rcases hv with rfl|rfl|rfl
  ·exact fro_str.to (by decide)
  ·exact(US U).to h.1.1
  ·exact fro_int.to (by decide)
theorem _nq{M:MH}{k:Nat}{fs:List Str}{I:Isl}{y:MV}(ok:IslOk k fs I)(h:IslIn M I y):FroD 11 M y I.mv:=by
 obtain⟨a,b,rfl,ha,hb⟩:=h;have l1:=ok.nv;have l2:=ok.ns;refine .inr ⟨[(.str I.name,.str I.name),(.ref a,.tup (I.prs.map prV)),(.ref b,.tup (I.stps.map Stp.mv))],.inl rfl,rfl,by simp,λp hp=>?_⟩
 simp only[Xl,XJ,or_false]at hp;rcases hp with rfl|rfl|rfl
 ·exact fro_str.to (by decide)
 ·refine Gq ha (by rw[Xc];lia) λx hx=>?_
  obtain⟨q,_,rfl⟩:=XN.mp hx;refine(_P (n:=0) (xs:=[.str q.1,.int q.2]) (by simp) λv hv=>?_).to (by decide)
  simp only[Xl,XJ,or_false]at hv;rcases hv with rfl|rfl
  ·exact fro_str
  ·exact fro_int
 ·refine Gq hb (by rw[Xc];lia) λx hx=>?_
  obtain⟨S,hS,rfl⟩:=XN.mp hx;exact _me (ok.st S hS)
theorem _nO{M:MH}(f:Fer):FroD 1 M f.mv f.mv:=by
 refine _P (xs:=[.str f.name,.str f.giver,.str f.taker,.int f.k,.int f.st]) (by simp) λv hv=>?_
 simp only[Xl,XJ,or_false]at hv;rcases hv with rfl|rfl|rfl|rfl|rfl
 ·exact fro_str
 ·exact fro_str
 ·exact fro_str
 ·exact fro_int
 ·exact fro_int
theorem _kL{M:MH}{k:Nat}{fs:List Str}{Is:List Isl}{ys:List MV}{p:Addr}(hp:M p=some (.lst ys))(h:IslsIn M Is ys)(l:Is.length≤5)(ok:∀I∈Is,IslOk k fs I):FroD 12 M (.ref p) (.tup (Is.map Isl.mv)):=by
 have hl:=h.1;have e1:(ys.zip (Is.map Isl.mv)).map (·.1)=ys:=List.map_fst_zip (by rw[Xc];lia)
 have e2:(ys.zip (Is.map Isl.mv)).map (·.2)=Is.map Isl.mv:=List.map_snd_zip (by rw[Xc];lia)
 refine .inr ⟨ys.zip (Is.map Isl.mv),.inr ⟨p,rfl,by rw[e1];exact hp⟩,by rw[e2],by rw[List.length_zip,Xc];lia,λq hq=>?_⟩
 obtain⟨i,hi,rfl⟩:=Y1 hq;rw[List.length_zip,Xc]at hi;have hi1:i<ys.length:=by lia
 have hi2:i<Is.length:=by lia
 rw[List.getElem_zip,DA];exact _nq (ok _ (XU hi2)) (h.2 i _ _ (Xa hi2) (Xa hi1))
def fstM:MV->MV
 |.tup (x::_)=>x
 |v=>v
abbrev Bl:SpM:=λvs M Q=>∃(p f:Addr) (ys:List MV) (W:Wld),vs=[.int W.w,.ref p,.ref f]/\M p=some (.lst ys)/\IslsIn M W.isl ys/\M f=some (.lst (W.fer.map Fer.mv))/\W.Good/\∀M',SameM M M'->Q W.mv M'
theorem QT:MonW Bl:=by walk_at "m"
theorem _n4(T:Txt K mg t):FnOk P w K mg base CX0 56 t.fK t.du ["width","islands","ferries"] (liSp K Bl):=by
 refine T.b8.F.okM _mm (fC (G:=NK) (Φ:=[("frozen",(ZM 13)),("is_width",D9),("refuse_ferry",De),("refuse_ferry_names",Da),("refuse_islands",Dd),("refuse_wrong_ends",Dh)]) T rfl (fMc ⟨(D6 _),(fMc ⟨QI,(fMc ⟨QO,(fMc ⟨QJ,(fMc ⟨QN,(fMc ⟨QR,nl0⟩)⟩)⟩)⟩)⟩)⟩) (fMc ⟨⟨_,_,_,FnOk.mono (QF T 13) (by decide),T.aj.m,T.aj.F.kp,T.aj.b⟩,(fMc ⟨⟨_,_,_,FnOk.mono (_fk T) (by decide),T.aL.m,T.aL.F.kp,T.aL.b⟩,(fMc ⟨⟨_,_,_,FnOk.mono (_aV T) (by decide),T.aF.m,T.aF.F.kp,T.aF.b⟩,(fMc ⟨⟨_,_,_,FnOk.mono (_5m T) (by decide),T.aN.m,T.aN.F.kp,T.aN.b⟩,(fMc ⟨⟨_,_,_,FnOk.mono (_8T T) (by decide),T.aO.m,T.aO.F.kp,T.aO.b⟩,(fMc ⟨⟨_,_,_,FnOk.mono (_6w T) (by decide),T.aJ.m,T.aJ.F.kp,T.aJ.b⟩,nl0⟩)⟩)⟩)⟩)⟩)⟩)) FE _nX (fun vs M Q h=>?_) (fun vs M Q h=>?_)
 ·obtain⟨p,f,ys,W,rfl,_⟩:=h;rfl
 obtain⟨p,f,ys,W,rfl,hp,hI,hf,G,q⟩:=h;have hΦ:=UQ (Φ:=[("frozen",ZM 13),("is_width",D9),("refuse_ferry",De),("refuse_ferry_names",Da),("refuse_islands",Dd),("refuse_wrong_ends",Dh)]) (fMc ⟨D6 13,fMc ⟨QI,fMc ⟨QO,fMc ⟨QJ,fMc ⟨QN,fMc ⟨QR,fun _ h=>nomatch h⟩⟩⟩⟩⟩⟩);show wSs _ _ _ [some (.int W.w),some (.ref p),some (.ref f),none,none] M;have w1:=G.w1;have w2:=G.w2;have i5:=G.i5;have f6:=G.f6;have hl:=hI.1;have nd:=Z9.mp G.nd;delta FE NJ;simp!;refine⟨W.w,rfl,by lia,by lia,?_⟩
 simp!;delta NI
 simp![hp]
 refine Y4 (λz=>by lia) (λ_=>?_)
 delta NH
 simp![hf,Xc]
 refine Y4 (λz=>by lia) (λ_=>?_)
 delta NG;simp!;refine⟨f,W.fer,rfl,hf,f6,nd.1,λx hx=>G.fg _ (XN.mpr ⟨x,hx,rfl⟩),λM1 s1=>?_⟩;simp!;have hf1:=s1 _ _ hf;delta NF;simp!;refine _L W.fer Fer.mv (λx=>.str x.name) ?_ ?_ hΦ λD hD=>?_
 ·simp![hf1]
  exact⟨rfl,by lia,hf1⟩
 ·intro x hx M' s;simp only[sCm,Xx,Yc,Yu,Yv,Yo,Ya]
  simp![Fer.mv]
  try exact⟨rfl,rfl⟩
 have eF:(W.fer.map λx=>MV.str x.name)=W.fns.map MV.str:=by unfold Wld.fns;rw[Yp];rfl
 rw[eF];have s2:=s1.trans (SameM.new hD (.lst (W.fns.map MV.str)));have hD2:updM M1 D (.lst (W.fns.map MV.str)) D=some (.lst (W.fns.map MV.str)):=Xb;generalize updM M1 D _=M2 at*
 try simp!
 refine⟨W.w,p,D,W.isl,ys,W.fns,rfl,w2,s2 _ _ hp,hI.keep s2,i5,by unfold Wld.fns;rw[Xc];exact f6,hD2,G.nd,λI hi=>G.ig _ (XN.mpr ⟨I,hi,rfl⟩),G.io,λM3 s3=>?_⟩
 have s4:=s2.trans s3;have hp3:=s4 _ _ hp;have hf3:=s4 _ _ hf;have hI3:=hI.keep s4;simp!;delta NE;simp!;refine _L ys (λy=>y) fstM ?_ ?_ hΦ λD hD=>?_
 ·simp![hp3]
  exact⟨by simp[Src.items],by lia,hp3⟩
 ·intro y hy M' s;obtain⟨I,_,a,b,rfl,_⟩:=hI3.mem hy;simp only[sCm,Xx,Yc,Yu,Yv,Yo,Ya];simp!
  rfl
 have eI:ys.map fstM=W.ins.map MV.str:=hI.fst λz r=>rfl;rw[eI];have s5:=s4.trans (SameM.new hD (.lst (W.ins.map MV.str)));have hD5:updM M3 D (.lst (W.ins.map MV.str)) D=some (.lst (W.ins.map MV.str)):=Xb;generalize updM M3 D _=M5 at*;have hf5:=s5 _ _ hf;delta ND
 simp![hf5]
 obtain⟨J,hJ⟩:∃J:Nat->Sm->MH->Prop,∀j σ M',J j σ M'↔M'=M5/\∃v,σ=[some (.int W.w),some (.ref p),some (.ref f),some (.ref D),v]:=⟨_,λ_ _ _=>Yf⟩;refine⟨J,(hJ _ _ _).mpr ⟨rfl,_,rfl⟩,λj σ M' h=>by rw[((hJ _ _ _).mp h).1];exact hf5,?_,?_⟩
 ·rintro j y σ M' hy h;obtain⟨rfl,v,rfl⟩:=(hJ _ _ _).mp h;obtain⟨hj,rfl⟩:=YY hy;have hj:j<W.fer.length:=hj;delta NC;simp!;refine⟨W.fer[j],D,W.ins,rfl,hD5,G.fo _ (XU hj),?_⟩;simp!;exact(hJ _ _ _).mpr ⟨rfl,_,rfl⟩
 ·rintro σ M' h;obtain⟨rfl,v,rfl⟩:=(hJ _ _ _).mp h;delta NB;simp!;refine⟨p,f,ys,W.isl,W.fer,rfl,s5 _ _ hp,hI.keep s5,i5,hf5,f6,nd.1,λI hi=>⟨(G.io I hi).ns,λS hS=>⟨G.en I hi S hS,_,_,(G.io I hi).st S hS⟩⟩,λM6 s6=>?_⟩;have s7:=s5.trans s6;simp!;delta NA;simp!;refine⟨_,W.mv,rfl,?_,λM' s'=>q M' (s7.trans s')⟩;refine .inr ⟨[(.int W.w,.int W.w),(.ref p,.tup (W.isl.map Isl.mv)),(.ref f,.tup (W.fer.map Fer.mv))],.inl rfl,rfl,by simp,λz hz=>?_⟩
  simp only[Xl,XJ,or_false]at hz;rcases hz with rfl|rfl|rfl
  ·exact fro_int.to (by decide)
  ·exact _kL (s7 _ _ hp) (hI.keep s7) i5 G.io
  ·refine(Gq (n:=1) (s7 _ _ hf) (by rw[Xc];lia) λx hx=>?_).to (by decide)
   obtain⟨y,_,rfl⟩:=XN.mp hx;exact _nO y
theorem _fm(m:Nat):∀n:Nat,(m^^^n)+2*(m&&& n)=m+n:=by
 induction m using Nat.strongRecOn with
 |ind m ih=>
  intro n;by_cases h0:m=0
  ·subst h0;simp
  ·have ih':=ih (m/2) (by lia) (n/2)
   rw[<- Nat.xor_div_two,<- Nat.and_div_two]at ih';have x1:=@Nat.xor_mod_two_eq_one m n;have a1:=@Nat.and_mod_two_eq_one m n;lia
def seen(o n c:Nat):Nat:=o^^^((o^^^n)&&& c)
theorem Vk(m n:Nat):Cm (m:Int) (n:Int)=((m^^^n:Nat):Int):=by
 rw[PyProof.Rows.bitXor_and,He (WI m) (WI n),YI,YI];have:=_fm m n;lia
theorem QU(m n:Nat):Cl (m:Int) (n:Int)=((m&&& n:Nat):Int):=by
 rw[He (WI m) (WI n),YI,YI]
def gray(n:Nat):Nat:=n^^^(n/2)
def ugF:Nat->Nat->Nat->Nat
 |0,n,_=>n
 |k+1,n,a=>if a=0 then n else ugF k (n^^^a) (a/2)
theorem _jV:∀k n,ugF k n 0=n
 |0,_=>rfl
 |k+1,n=>by simp[ugF]
def Wk(w:Nat):Nat:=ugF 64 w (w/2)
def Di(x:Nat):Bool:=x==1||x==2||x==4||x==8
def Zon(m:Nat):Bool:=(Xs (2^(m+1))).all λn=>decide (gray n<16)&&decide (Wk (gray n)=n)&&Di (gray n^^^gray ((n+1)%2^(m+1)))
theorem _jW:(Xs 4).all Zon=true:=by decide+kernel
theorem QV{m n:Nat}(hm:m<4)(hn:n<2^(m+1)):gray n<16/\Wk (gray n)=n/\Di (gray n^^^gray ((n+1)%2^(m+1)))=true:=by
 have h1:=Wx.mp _jW m (Za.mpr hm);have h2:=Wx.mp h1 n (Za.mpr hn);simp only[XW,decide_eq_true_eq]at h2;exact⟨h2.1.1,h2.1.2,h2.2⟩
theorem _o4{x c:Nat}(h:Di x=true):x&&& c=0\/x&&& c=x:=by
 have key:∀i:Nat,(2^i&&& c)=0\/(2^i&&& c)=2^i:=λi=>by
  cases h:c.testBit i with
  |false=>
   left
   refine Nat.eq_of_testBit_eq λj=>?_;rw[Nat.testBit_and,Nat.testBit_two_pow,Nat.zero_testBit];by_cases e:i=j
   ·subst e;rw[h,C1]
   ·rw[decide_eq_false e,WH]
  |true=>
   right
   refine Nat.eq_of_testBit_eq λj=>?_;rw[Nat.testBit_and,Nat.testBit_two_pow];by_cases e:i=j
   ·subst e;rw[h,Bool.and_true]
   ·rw[decide_eq_false e,WH]
 unfold Di at h;simp only[DL,beq_iff_eq]at h;rcases h with((rfl|rfl)|rfl)|rfl
 ·exact key 0
 ·exact key 1
 ·exact key 2
 ·exact key 3
set_option tactic.hygienic true in
theorem _hY{m a b c:Nat}(hm:m<4)(h:a=b\/a=b+1):
  seen (gray (b%2^(m+1))) (gray (a%2^(m+1))) c=if c&&&(gray (a%2^(m+1))^^^gray (b%2^(m+1)))=0 then gray (b%2^(m+1))else gray (a%2^(m+1)):=by
 have pos:0<2^(m+1):=Zn _;have hb:=QV hm (VJ b pos);have ea:a=b+1->(b%2^(m+1)+1)%2^(m+1)=a%2^(m+1):=λe=>by rw[e,Nat.mod_add_mod]
 unfold seen;rcases h with rfl|h
 ·rw[Nat.xor_self,Nat.and_zero,if_pos rfl,Nat.zero_and,Nat.xor_zero]
 ·have hx:=hb.2.2;rw[ea h]at hx;rw[Nat.and_comm c,Nat.xor_comm (gray (a%2^(m+1)))];rcases _o4 (c:=c) hx with e|e
  ·rw[e,if_pos rfl,Nat.xor_zero]
  ·rw[e,<- Nat.xor_assoc,Nat.xor_self,Nat.zero_xor];split
   ·rename_i z
    rw[z]at hx;cases hx
   ·rfl
structure Ab where
 k:Nat
 ws:List Nat
 tn:Nat
 gp:Nat
 tp:Nat
 gm:Int
 tm:Int
 gx:List Nat
 tx:List Nat
 lg:Nat
 lt:Nat
def YZ(k n p:Nat)(fresh:Bool)(c:Nat):Nat:=if fresh=true/\c&&&(gray (n%2^(k+1))^^^gray (p%2^(k+1)))=0 then p else n
def XI(xs:List Nat):Nat:=xs.getLastD 0
def Ab.gSamp(A:Ab)(c:Nat):Nat:=YZ A.k A.tn A.tp (decide (A.gm<A.tm)) c
def Ab.tSamp(A:Ab)(c:Nat):Nat:=YZ A.k A.ws.length A.gp (decide (A.tm<A.gm)) c
def Ab.gives(A:Ab)(w:Option Nat):Bool:=w.isSome&&decide (A.ws.length<XI A.gx+2^A.k)
def Ab.takes(A:Ab)(w:Bool):Bool:=w&&decide (XI A.tx≠A.tn)
noncomputable def Ab.giver(A:Ab)(m:Int)(c:Nat)(w:Option Nat):Ab:=
 {A with ws:=if A.gives w=true then A.ws++[w.getD 0]else A.ws,gp:=A.ws.length,gm:=m,gx:=A.gSamp c::A.gx.dropLast,lg:=A.tn}
noncomputable def Ab.taker(A:Ab)(m:Int)(c:Nat)(w:Bool):Ab:=
 {A with tn:=if A.takes w=true then A.tn+1 else A.tn,tp:=A.tn,tm:=m,tx:=A.tSamp c::A.tx.dropLast,lt:=A.ws.length}
structure Ab.Ok (A:Ab):Prop where
 k4:A.k<4
 gl:1≤A.gx.length/\A.gx.length≤3
 tl:A.tx.length=A.gx.length
 g1:A.gp≤A.ws.length/\A.ws.length≤A.gp+1
 t1:A.tp≤A.tn/\A.tn≤A.tp+1
 gs:A.gx.Pairwise (·≥ ·)
 ts:A.tx.Pairwise (·≥ ·)
 gb:∀d∈A.gx,d≤A.lg/\A.ws.length≤d+2^A.k
 tb:∀c∈A.tx,c≤A.lt/\A.tn≤c
 lg1:A.lg≤A.tn
 lt1:A.lt≤A.ws.length
 lg2:A.gm<A.tm->A.lg≤A.tp
 lt2:A.tm<A.gm->A.lt≤A.gp
theorem Bm:∀{xs:List Nat},1≤xs.length->xs=xs.dropLast++[XI xs]
 |[],h=>by simp at h
 |[a],_=>rfl
 |a::b::s,_=>by
  have ih:=Bm (xs:=b::s) (by simp)
  have e:XI (a::b::s)=XI (b::s):=by simp[XI]
  rw[e];show a::b::s=a::((b::s).dropLast++[XI (b::s)]);rw[<- ih]
theorem _Q{xs:List Nat}(h:1≤xs.length):XI xs∈xs:=by
 have e:=Bm h;rw[e];have e2:XI (xs.dropLast++[XI xs])=XI xs:=by rw[<- e]
 rw[e2];simp
theorem _jL{k n p:Nat}{f:Bool}{c:Nat}:YZ k n p f c=p\/YZ k n p f c=n:=by
 unfold YZ;split
 ·exact .inl rfl
 ·exact .inr rfl
theorem _jK{k n p:Nat}{c:Nat}:YZ k n p false c=n:=by simp[YZ]
theorem QW{k n p l:Nat}{f:Bool}{c:Nat}(h1:p≤n)(h2:l≤n)(h3:f=true->l≤p):l≤YZ k n p f c/\YZ k n p f c≤n:=by
 cases f with
 |false=>rw[_jK];exact⟨h2,Xe _⟩
 |true=>
  rcases @_jL k n p true c with e|e
  all_goals first|exact⟨by rw[e];exact h3 rfl,by rw[e];exact h1⟩|exact⟨by rw[e];exact h2,by rw[e];exact Xe _⟩
theorem Ab.Ok.gSamp{A:Ab}(h:A.Ok)(c:Nat):A.lg≤A.gSamp c/\A.gSamp c≤A.tn:=QW h.t1.1 h.lg1 (λf=>h.lg2 (of_decide_eq_true f))
theorem Ab.Ok.tSamp{A:Ab}(h:A.Ok)(c:Nat):A.lt≤A.tSamp c/\A.tSamp c≤A.ws.length:=QW h.g1.1 h.lt1 (λf=>h.lt2 (of_decide_eq_true f))
theorem Ab.Ok.room{A:Ab}(h:A.Ok):A.tn≤A.ws.length/\A.ws.length≤A.tn+2^A.k:=by
 have a:=h.gb _ (_Q h.gl.1);have b:=h.tb _ (_Q (by rw[h.tl];exact h.gl.1))
 have:=h.lg1;have:=h.lt1;lia
set_option tactic.hygienic true in
theorem Ab.Ok.giver{A:Ab}(h:A.Ok){m:Int}{c:Nat}{w:Option Nat}(hm:A.tm<m):(A.giver m c w).Ok:=by
 have hs:=h.gSamp c;have hl:=h.gb _ (_Q h.gl.1);have rm:=h.room;have gn:∃n,(A.giver m c w).ws.length=n/\A.ws.length≤n/\n≤A.ws.length+1/\n≤XI A.gx+2^A.k:=by
  unfold Ab.giver;dsimp only;split
  ·rename_i e
   unfold Ab.gives at e;simp only[XW,decide_eq_true_eq]at e;exact⟨_,rfl,by simp,by simp,by simp;lia⟩
  ·exact⟨_,rfl,by lia,by lia,by lia⟩
 obtain⟨n,en,n1,n2,n3⟩:=gn;refine⟨h.k4,?_,?_,?_,h.t1,?_,h.ts,?_,?_,Xe _,?_,λz=>?_,λz=>?_⟩
 ·show 1≤(A.gSamp c::A.gx.dropLast).length/\(A.gSamp c::A.gx.dropLast).length≤3;have:=h.gl;simp only[Yh,Wt];lia
 ·show A.tx.length=(A.gSamp c::A.gx.dropLast).length;have:=h.gl;have:=h.tl;simp[Wt];lia
 ·rw[en];exact⟨n1,n2⟩
 ·show(A.gSamp c::A.gx.dropLast).Pairwise (·≥ ·);rw[Dx];refine⟨λd hd=>?_,HE (List.dropLast_sublist _) h.gs⟩;have:=(h.gb d (BK _ hd)).1;show d≤A.gSamp c;lia
 ·intro d hd;rw[en];show d≤A.tn/\n≤d+2^A.k;rcases Xl.mp hd with rfl|hd
  ·have:=hl.1;exact⟨hs.2,by lia⟩
  ·have hm:=BK _ hd;refine⟨Y2 (h.gb d hm).1 h.lg1,?_⟩;have:XI A.gx≤d:=by
    have e:=Bm h.gl.1;have p:=h.gs;rw[e]at p;exact(List.pairwise_append.mp p).2.2 d hd _ (XX.mpr rfl)
   lia
 ·exact h.tb
 ·rw[en];exact Y2 h.lt1 n1
 ·exact absurd z (by show¬m<A.tm;lia)
 ·exact h.lt1
set_option tactic.hygienic true in
theorem Ab.Ok.taker{A:Ab}(h:A.Ok){m:Int}{c:Nat}{w:Bool}(hm:A.gm<m):(A.taker m c w).Ok:=by
 have hs:=h.tSamp c;have tl1:1≤A.tx.length:=by rw[h.tl];exact h.gl.1
 have hl:=h.tb _ (_Q tl1);have rm:=h.room;have gn:∃n,(A.taker m c w).tn=n/\A.tn≤n/\n≤A.tn+1/\n≤XI A.tx:=by
  unfold Ab.taker;dsimp only;split
  ·rename_i e
   unfold Ab.takes at e;simp only[XW,decide_eq_true_eq]at e;exact⟨_,rfl,by simp,by simp,by lia⟩
  ·exact⟨_,rfl,by lia,by lia,by lia⟩
 obtain⟨n,en,n1,n2,n3⟩:=gn;refine⟨h.k4,h.gl,?_,h.g1,?_,h.gs,?_,?_,?_,?_,Xe _,λz=>?_,λz=>?_⟩
 ·show(A.tSamp c::A.tx.dropLast).length=A.gx.length;have:=h.tl;simp[Wt];lia
 ·rw[en];exact⟨n1,n2⟩
 ·show(A.tSamp c::A.tx.dropLast).Pairwise (·≥ ·);rw[Dx];refine⟨λd hd=>?_,HE (List.dropLast_sublist _) h.ts⟩;have:=(h.tb d (BK _ hd)).1;show d≤A.tSamp c;lia
 ·exact h.gb
 ·intro d hd;rw[en];show d≤A.ws.length/\n≤d;rcases Xl.mp hd with rfl|hd
  ·exact⟨hs.2,by have:=hl.1;lia⟩
  ·have hm:=BK _ hd;refine⟨Y2 (h.tb d hm).1 h.lt1,?_⟩;have:XI A.tx≤d:=by
    have e:=Bm tl1;have p:=h.ts;rw[e]at p;exact(List.pairwise_append.mp p).2.2 d hd _ (XX.mpr rfl)
   lia
 ·rw[en];exact Y2 h.lg1 n1
 ·exact h.lg1
 ·exact absurd z (by show¬m<A.gm;lia)
def ab0(k st:Nat):Ab:=⟨k,[],0,0,0,-1,-1,Xj st 0,Xj st 0,0,0⟩
theorem QX(n:Nat):(Xj n 0).Pairwise (·≥ ·):=by
 induction n with
 |zero=>exact .nil
 |succ n ih=>rw[Z8,Dx];exact⟨λd hd=>by rw[V0 hd];exact Xe _,ih⟩
theorem _qd{k st:Nat}(hk:k<4)(h1:1≤st)(h3:st≤3):(ab0 k st).Ok:=by
 refine⟨hk,by simpa [ab0]using⟨h1,h3⟩,by simp[ab0],by simp[ab0],by simp[ab0],QX _,QX _,?_,?_,Xe _,Xe _,λz=>Xe _,λz=>Xe _⟩
 ·intro d hd;rw[V0 hd];exact⟨Xe _,YH _⟩
 ·intro d hd;rw[V0 hd];exact⟨Xe _,Xe _⟩
def PlOk(A:Ab)(pl:List (Nat×Nat×Int)):Prop:=pl.length=2^A.k/\∀j (hj:j<A.ws.length),A.ws.length≤j+2^A.k->∃ah,pl[j%2^A.k]?=some (A.ws[j],ah,A.gm)/\(j<A.gp->ah=A.ws[j])
noncomputable def YS(A:Ab)(m:Int)(w:Option Nat)(pl:List (Nat×Nat×Int)):List (Nat×Nat×Int):=
 (Xs pl.length).map λi=>((if A.gives w=true/\i=A.ws.length%2^A.k then w.getD 0 else(pl.getD i (0,0,0)).1),(pl.getD i (0,0,0)).1,m)
theorem _pC{a b n:Nat}(h1:a<b)(h2:b<a+n):a%n≠b%n:=by
 intro e;have h3:(b - a)%n=0:=Nat.sub_mod_eq_zero_of_mod_eq e.symm;rw[Nat.mod_eq_of_lt (by lia)]at h3
 lia
theorem _h3{A:Ab}{m:Int}{c:Nat}{w:Option Nat}{pl:List (Nat×Nat×Int)}(h:PlOk A pl):PlOk (A.giver m c w) (YS A m w pl):=by
 have kpos:0<2^A.k:=Zn _;refine⟨?_,?_⟩
 ·show(YS A m w pl).length=2^A.k;simp[YS,h.1]
 ·intro j hj hr;have hr:(A.giver m c w).ws.length≤j+2^A.k:=hr;show∃ah,(YS A m w pl)[j%2^A.k]?=some ((A.giver m c w).ws[j],ah,m)/\(j<A.ws.length->ah=(A.giver m c w).ws[j]);have lt:j%2^A.k<pl.length:=by rw[h.1];exact VJ _ kpos
  have get:(YS A m w pl)[j%2^A.k]?=some ((if A.gives w=true/\j%2^A.k=A.ws.length%2^A.k then w.getD 0 else(pl.getD (j%2^A.k) (0,0,0)).1),(pl.getD (j%2^A.k) (0,0,0)).1,m):=by
   unfold YS;rw[Xr,Wu lt]
   rfl
  rw[get];by_cases g:A.gives w=true
  ·have ew:(A.giver m c w).ws=A.ws++[w.getD 0]:=by unfold Ab.giver;rw[if_pos g]
   have hj2:j<A.ws.length+1:=by rw[ew]at hj;simpa using hj
   have hr2:A.ws.length+1≤j+2^A.k:=by rw[ew]at hr;simpa using hr
   by_cases e:j=A.ws.length
   ·subst e;refine⟨(pl.getD (A.ws.length%2^A.k) (0,0,0)).1,?_,λz=>absurd z (ZY _)⟩;rw[if_pos ⟨g,rfl⟩];simp[ew]
   ·have hj3:j<A.ws.length:=by lia
    obtain⟨ah,ha,_⟩:=h.2 j hj3 (by lia)
    have ne:=_pC (n:=2^A.k) hj3 (by lia)
    have eg:pl.getD (j%2^A.k) (0,0,0)=(A.ws[j],ah,A.gm):=by rw[Ym,ha];rfl
    have ewj:(A.giver m c w).ws[j]=A.ws[j]:=by simp[ew,hj3]
    refine⟨A.ws[j],?_,λ_=>ewj.symm⟩;rw[if_neg (λz=>ne z.2),eg,ewj]
  ·have ew:(A.giver m c w).ws=A.ws:=by unfold Ab.giver;rw[if_neg g]
   have hj3:j<A.ws.length:=by rw[ew]at hj;exact hj
   obtain⟨ah,ha,_⟩:=h.2 j hj3 (by rw[ew]at hr;exact hr)
   have eg:pl.getD (j%2^A.k) (0,0,0)=(A.ws[j],ah,A.gm):=by rw[Ym,ha];rfl
   have ewj:(A.giver m c w).ws[j]=A.ws[j]:=by simp[ew]
   refine⟨A.ws[j],?_,λ_=>ewj.symm⟩;rw[if_neg (λz=>g z.1),eg,ewj]
theorem _hK{A:Ab}(h:A.Ok){pl:List (Nat×Nat×Int)}(hp:PlOk A pl)(ht:XI A.tx≠A.tn):∃(hj:A.tn<A.ws.length) (ah:Nat),pl[A.tn%2^A.k]?=some (A.ws[A.tn],ah,A.gm)/\(A.tm<A.gm->ah=A.ws[A.tn]):=by
 have tl1:1≤A.tx.length:=by rw[h.tl];exact h.gl.1
 have hl:=h.tb _ (_Q tl1);have rm:=h.room;have l1:=h.lt1;have hj:A.tn<A.ws.length:=by lia
 obtain⟨ah,ha,hb⟩:=hp.2 A.tn hj rm.2;exact⟨hj,ah,ha,λz=>hb (by have:=h.lt2 z;lia)⟩
theorem _hX(a c:Nat):seen a a c=a:=by simp[seen]
theorem _kf{A:Ab}(h:A.Ok):(((A.ws.length:Int) - ((XI A.gx%2^(A.k+1):Nat):Int))%((2^(A.k+1):Nat):Int)<((2^A.k:Nat):Int))↔A.ws.length<XI A.gx+2^A.k:=by
 have a:=h.gb _ (_Q h.gl.1);have rm:=h.room;have l1:=h.lg1;have e:((A.ws.length:Int) - ((XI A.gx%2^(A.k+1):Nat):Int))%((2^(A.k+1):Nat):Int)=((A.ws.length - XI A.gx:Nat):Int):=by
  rw[DP,C6,Int.emod_emod,<- C6];have:(A.ws.length:Int) - (XI A.gx:Int)=((A.ws.length - XI A.gx:Nat):Int):=by lia
  rw[this,<- DP,Nat.mod_eq_of_lt (by rw[Nat.pow_succ];have:=Zn A.k;lia)]
 rw[e];lia
theorem QY{A:Ab}(h:A.Ok):(((A.tn:Int) - ((XI A.tx%2^(A.k+1):Nat):Int))%((2^(A.k+1):Nat):Int)=0)↔XI A.tx=A.tn:=by
 have tl1:1≤A.tx.length:=by rw[h.tl];exact h.gl.1
 have a:=h.tb _ (_Q tl1);have rm:=h.room;have l1:=h.lt1;have p:=Zn A.k;rw[DP,C6,Int.emod_emod,<- C6];constructor
 ·intro z;have d:=Int.dvd_of_emod_eq_zero z;have d':((2^(A.k+1):Nat):Int)∣((XI A.tx - A.tn:Nat):Int):=by
   have:((XI A.tx - A.tn:Nat):Int)= -((A.tn:Int) - (XI A.tx:Int)):=by lia
   rw[this];exact Int.dvd_neg.mpr d
  have d2:=Int.natCast_dvd_natCast.mp d';have:=Nat.eq_zero_of_dvd_of_lt d2 (by rw[Nat.pow_succ];lia)
  lia
 ·intro z;rw[z,Int.sub_self];rfl
abbrev Gr:SpM:=λvs M Q=>∃(o n c:Nat),vs=[.int o,.int n,.int c]/\Q (.int (seen o n c:Nat)) M
theorem _fr:MonW Gr:=by walk_at "m"
theorem _n6(T:Txt K mg t):FnOk P w K mg base CX0 1 t.gG t.dz ["old","new","choice"] (liSp K Gr):=by
 refine T.bo.F.okM _mo (fC (G:=Kt) (Φ:=[]) T rfl nl0 nl0) EH _nZ (λvs M Q h=>?_) (λvs M Q h=>?_)
 ·obtain⟨o,n,c,rfl,_⟩:=h;rfl
 obtain⟨o,n,c,rfl,q⟩:=h;show wSs _ _ _ [some (.int o),some (.int n),some (.int c)] M;delta EH Ks;simp!;rw[Vk,QU,Vk];exact q
abbrev Bn:SpM:=λvs M Q=>∃w:Int,vs=[.int w]/\Q (.tup [.int w,.int w,.int (-1)]) M
theorem QZ:MonW Bn:=by walk_at "m"
theorem R0(T:Txt K mg t):FnOk P w K mg base CX0 1 t.fZ t.fF ["word"] (liSp K Bn):=by
 refine T.aT.F.okM _d8 (fC (G:=KE) (Φ:=[]) T rfl nl0 nl0) EK _dG (λvs M Q h=>?_) (λvs M Q h=>?_)
 ·obtain⟨n,rfl,_⟩:=h;rfl
 obtain⟨n,rfl,q⟩:=h;show wSs _ _ _ [some (.int n)] M;delta EK KD;simp!;exact q
abbrev UT:SpM:=λvs M Q=>∃a b c w m:Int,vs=[.tup [.int a,.int b,.int c],.int w,.int m]/\Q (.tup [.int w,.int a,.int m]) M
theorem Gs:MonW UT:=by walk_at "m"
theorem R4(T:Txt K mg t):FnOk P w K mg base CX0 1 t.cL t.cC ["sign","word","moment"] (liSp K UT):=by
 refine T.aU.F.okM _kb (fC (G:=KG) (Φ:=[]) T rfl nl0 nl0) EL _l3 (λvs M Q h=>?_) (λvs M Q h=>?_)
 ·obtain⟨a,b,c,w,m,rfl,_⟩:=h;rfl
 obtain⟨a,b,c,w,m,rfl,q⟩:=h;show wSs _ _ _ [some (.tup [.int a,.int b,.int c]),some (.int w),some (.int m)] M;delta EL KF;simp!;exact q
abbrev Vl:SpM:=λvs M Q=>∃(a b:Nat) (m s:Int) (c:Nat),vs=[.tup [.int a,.int b,.int m],.int s,.int c]/\Q (.int ((if s<m then seen b a c else a:Nat):Int)) M
theorem R5:MonW Vl:=by walk_at "m"
theorem R6(T:Txt K mg t):FnOk P w K mg base CX0 2 t.cD t.df ["sign","since","choice"] (liSp K Vl):=by
 refine T.aS.F.okM _gX (fC (G:=KM) (Φ:=[("amid",Gr)]) T rfl (fMc ⟨_fr,nl0⟩) (fMc ⟨fE T.bo (_n6 T),nl0⟩)) EN _hr (fun vs M Q h=>?_) (fun vs M Q h=>?_)
 ·obtain⟨a,b,m,s,c,rfl,_⟩:=h;rfl
 obtain⟨a,b,m,s,c,rfl,q⟩:=h;show wSs _ _ _ [some (.tup [.int a,.int b,.int m]),some (.int s),some (.int c)] M;delta EN KL;simp!;refine Y4 (λh=>?_) (λh=>?_)
 ·rw[if_pos h]at q;delta KK;simp!;exact⟨b,a,c,rfl,q⟩
 ·rw[if_neg h]at q;delta KJ;simp!;exact q
abbrev Gu:SpM:=λvs M Q=>∃(w:Int) (k:Nat),vs=[.int w,.int k]/\1≤k/\k≤3/\Q (.tup ((Xj k w).map MV.int)) M
theorem _86:MonW Gu:=by walk_at "m"
theorem Gv{α:Type}(x:α):∀k:Nat,(Xj k [x]).flatten=Xj k x
 |0=>rfl
 |k+1=>by rw[Z8,ZB,Gv x k];rfl
theorem _bZ(T:Txt K mg t):FnOk P w K mg base CX0 1 t.cP t.di ["word","stages"] (liSp K Gu):=by
 refine T.b7.F.okM _bS (fC (G:=KI) (Φ:=[]) T rfl nl0 nl0) EM _cf (λvs M Q h=>?_) (λvs M Q h=>?_)
 ·obtain⟨w,k,rfl,_⟩:=h;rfl
 obtain⟨w,k,rfl,h1,h2,q⟩:=h;show wSs _ _ _ [some (.int w),some (.int k)] M;delta EM KH;simp!;refine⟨by lia,by lia,?_⟩
 rw[YI,Gv];rw[Wv]at q;exact q
abbrev Gw:SpM:=λvs M Q=>∃(xs:List Int) (a:Int),vs=[.tup ((xs++[a]).map MV.int)]/\Q (.int a) M
theorem _fp:MonW Gw:=by walk_at "m"
theorem _o6(xs:List Int)(a:Int):atI ((xs++[a]).map MV.int) (-1)=some (.int a):=by
 unfold atI ixN;rw[if_neg (by decide),if_pos (by simp;lia)]
 have e:((-1:Int)+(((xs++[a]).map MV.int).length:Int)).toNat=xs.length:=by simp;lia
 rw[e];simp
theorem _n3(T:Txt K mg t):FnOk P w K mg base CX0 1 t.fv t.eK ["sight"] (liSp K Gw):=by
 refine T.bD.F.okM _ml (fC (G:=KQ) (Φ:=[]) T rfl nl0 nl0) EQ _nW (λvs M Q h=>?_) (λvs M Q h=>?_)
 ·obtain⟨xs,a,rfl,_⟩:=h;rfl
 obtain⟨xs,a,rfl,q⟩:=h;show wSs _ _ _ [some (.tup ((xs++[a]).map MV.int))] M;delta EQ KP;simp!;exact⟨_,_o6 xs a,q⟩
abbrev Dj:SpM:=λvs M Q=>∃(xs:List Int) (a w:Int),vs=[.tup ((xs++[a]).map MV.int),.int w]/\xs.length≤100/\Q (.tup ((w::xs).map MV.int)) M
theorem _eo:MonW Dj:=by walk_at "m"
theorem _kz(T:Txt K mg t):FnOk P w K mg base CX0 1 t.gh t.dQ ["sight","word"] (liSp K Dj):=by
 refine T.bZ.F.okM _kc (fC (G:=KO) (Φ:=[]) T rfl nl0 nl0) EO _l4 (λvs M Q h=>?_) (λvs M Q h=>?_)
 ·obtain⟨xs,a,w,rfl,_⟩:=h;rfl
 obtain⟨xs,a,w,rfl,hx,q⟩:=h;show wSs _ _ _ [some (.tup ((xs++[a]).map MV.int)),some (.int w)] M;delta EO KN;simp!;have len:([MV.int w]++(xs++[a]).map MV.int).length=xs.length+2:=by simp
 have e1:HT.sIx (xs.length+2) (xs.length+2) (some (-1))=xs.length+1:=by
  unfold HT.sIx;dsimp only;rw[if_pos (by decide)]
  lia
 have cut:cutM ([MV.int w]++(xs++[a]).map MV.int) none (some (-1))=(w::xs).map MV.int:=by
  unfold cutM;rw[len,e1,HT.sIx_none,Nat.sub_zero,List.drop_zero,XV,<- Vz];rw[GU (by simp),Vy (by simp)]
  rfl
 refine⟨by simp;lia,?_⟩
 rw[cut];exact q
abbrev Bo:SpM:=λvs M Q=>∃n:Nat,vs=[.int n]/\Q (.int (gray n:Nat)) M
theorem R7:MonW Bo:=by walk_at "m"
theorem R8(T:Txt K mg t):FnOk P w K mg base CX0 1 t.em t.cO ["n"] (liSp K Bo):=by
 refine T.aW.F.okM _gZ (fC (G:=Kv) (Φ:=[]) T rfl nl0 nl0) EI _ht (λvs M Q h=>?_) (λvs M Q h=>?_)
 ·obtain⟨n,rfl,_⟩:=h;rfl
 obtain⟨n,rfl,q⟩:=h;show wSs _ _ _ [some (.int n)] M;delta EI Ku;simp!;have e:(n:Int)/2=((n/2:Nat):Int):=by lia
 rw[e,Vk];exact q
abbrev Gx:SpM:=λvs M Q=>∃wd:Nat,vs=[.int wd]/\wd<2^60/\Q (.int (Wk wd:Nat)) M
theorem _ag:MonW Gx:=by walk_at "m"
theorem _ef(T:Txt K mg t):FnOk P w K mg base CX0 1 t.gC t.fO ["word"] (liSp K Gx):=by
 refine T.c8.F.okM _dW (fC (G:=KC) (Φ:=[]) T rfl nl0 nl0) EJ _eM (λvs M Q h=>?_) (λvs M Q h=>?_)
 ·obtain⟨n,rfl,_⟩:=h;rfl
 obtain⟨wd,rfl,hw,q⟩:=h;show wSs _ _ _ [some (.int wd),none,none] M;have half:∀a:Nat,(a:Int)/2=((a/2:Nat):Int):=λa=>by lia
 delta EJ KB;simp!;delta KA;simp!;rw[half];delta Kz;simp!;refine⟨λm σ M'=>M'=M/\∃n a k:Nat,a=m/\a<2^k/\ugF k n a=Wk wd/\σ=[some (.int wd),some (.int n),some (.int a)],⟨wd/2,rfl,wd,wd/2,64,rfl,by lia,rfl,rfl⟩,?_⟩
 rintro m σ M' ⟨rfl,n,a,k,rfl,ha,hu,rfl⟩;simp!;refine Y4 (λc=>?_) (λc=>?_)
 ·delta Ky;simp!;rw[Vk];delta Kx;simp!;rw[half];obtain⟨k',rfl⟩:∃k',k=k'+1:=⟨k - 1,by
   cases k with
   |zero=>simp at ha;lia
   |succ k=>rfl⟩
  refine⟨a/2,by lia,?_⟩
  refine⟨_,k',by rw[Nat.pow_succ]at ha;lia,?_,rfl⟩
  rw[ugF,if_neg (by lia)]at hu
  exact hu
 ·have a0:a=0:=by lia
  subst a0;rw[_jV]at hu;rw[hu];delta Kw;simp!;exact q
abbrev natM:Nat->MV:=λn=>.int n
abbrev sgnM(s:Nat×Nat×Int):MV:=.tup [.int s.1,.int s.2.1,.int s.2.2]
def Xk(tu n:Nat)(s:Nat×Nat×Int)(xs:List Nat):MO:=.ins "Side" [("turn",.int tu),("total",.int n),("sign",sgnM s),("sight",.tup (xs.map natM))]
theorem Gy(xs:List Nat):xs.map natM=(xs.map λn:Nat=>(n:Int)).map MV.int:=by rw[Yp];rfl
theorem Dk(a b:Nat):(a:Int)%(b:Int)=((a%b:Nat):Int):=by lia
theorem Gz{k n p:Nat}(hk:k<4)(h:p≤n/\n≤p+1)(s m:Int)(c:Nat):(if s<m then seen (gray (p%2^(k+1))) (gray (n%2^(k+1))) c else gray (n%2^(k+1)))=gray (YZ k n p (decide (s<m)) c%2^(k+1)):=by
 unfold YZ;by_cases e:s<m
 ·rw[if_pos e,_hY hk (a:=n) (b:=p) (by lia)]
  by_cases f:c&&&(gray (n%2^(k+1))^^^gray (p%2^(k+1)))=0
  ·rw[if_pos f,if_pos ⟨decide_eq_true e,f⟩]
  ·rw[if_neg f,if_neg (λz=>f z.2)]
 ·rw[if_neg e,if_neg (λz=>e (of_decide_eq_true z.1))]
abbrev Dl:SpM:=fun vs M Q=>∃(a:Addr) (tu st:Nat),vs=[.ref a,.int tu,.int st]/\M a=some (.ins "Side" [])/\1≤st/\st≤3/\Q .non (updM M a (Xk tu 0 (0,0,-1) (Xj st 0)))
theorem _6y:MonW Dl:=by walk_at "m"
theorem _ae(T:Txt K mg t):FnOk P w K mg base CX0 2 t.aR t.bC ["self","turn","stages"] (liSp K Dl):=by
 refine T.cT.okM _ac (fC (G:=KY) (Φ:=[("code_of",Bo),("first_sight",Gu),("first_sign",Bn)]) T rfl (fMc ⟨R7,(fMc ⟨_86,(fMc ⟨QZ,nl0⟩)⟩)⟩) (fMc ⟨fE T.aW (R8 T),(fMc ⟨fE T.b7 (_bZ T),(fMc ⟨fE T.aT (R0 T),nl0⟩)⟩)⟩)) ER _ao (fun vs M Q h=>?_) (fun vs M Q h=>?_)
 ·obtain⟨a,tu,st,rfl,_⟩:=h;rfl
 obtain⟨a,tu,st,rfl,hM,h1,h3,q⟩:=h;show wSs _ _ _ [some (.ref a),some (.int tu),some (.int st)] M;have g0:gray 0=0:=by decide
 delta ER KW
 simp![hM,putM]
 delta KU
 simp![putM,YC]
 delta KS
 simp![putM,YC]
 refine⟨0,rfl,?_⟩
 simp![putM,YC]
 refine⟨_,rfl,?_⟩
 simp![putM,YC]
 delta KR
 simp![putM,YC]
 refine⟨0,rfl,?_⟩
 simp![putM,YC]
 refine⟨_,st,rfl,h1,h3,?_⟩
 simp![putM,YC]
 rw[g0];have e:List.map MV.int (Xj st (((0:Nat):Int)))=(Xj st 0).map natM:=by rw[Wv,Wv]
 rw[e];exact q
abbrev Vm:SpM:=λvs M Q=>∃(a:Addr) (tu n:Nat) (s:Nat×Nat×Int) (xs:List Nat),vs=[.ref a]/\M a=some (Xk tu n s xs)/\Q (.int s.2.2) M
theorem R9:MonW Vm:=by walk_at "m"
theorem Ra(T:Txt K mg t):FnOk P w K mg base CX0 1 t.bv t.aY ["self"] (liSp K Vm):=by
 refine T.cR.okM _7V (fC (G:=L0) (Φ:=[]) T rfl nl0 nl0) ES _8C (λvs M Q h=>?_) (λvs M Q h=>?_)
 ·obtain⟨a,tu,n,s,xs,rfl,_⟩:=h;rfl
 obtain⟨a,tu,n,s,xs,rfl,hM,q⟩:=h;show wSs _ _ _ [some (.ref a)] M;delta ES KZ
 simp![hM,Xk,valM]
 exact q
abbrev Ur:SpM:=λvs M Q=>∃(a:Addr) (tu n:Nat) (s:Nat×Nat×Int) (xs:List Nat) (u:Nat),vs=[.ref a]/\M a=some (Xk tu n s (xs++[u]))/\u<2^60/\0<tu/\Q (.int (((n:Int) - (Wk u:Nat))%(tu:Int))) M
theorem GA:MonW Ur:=by walk_at "m"
theorem Rb(T:Txt K mg t):FnOk P w K mg base CX0 2 t.bM t.cb ["self"] (liSp K Ur):=by
 refine T.dO.okM _5f (fC (G:=L3) (Φ:=[("number_of",Gx),("used",Gw)]) T rfl (fMc ⟨_ag,(fMc ⟨_fp,nl0⟩)⟩) (fMc ⟨fE T.c8 (_ef T),(fMc ⟨fE T.bD (_n3 T),nl0⟩)⟩)) ET _6g (fun vs M Q h=>?_) (fun vs M Q h=>?_)
 ·obtain⟨a,tu,n,s,xs,u,rfl,_⟩:=h;rfl
 obtain⟨a,tu,n,s,xs,u,rfl,hM,h1,h2,q⟩:=h;show wSs _ _ _ [some (.ref a)] M;delta ET L1
 simp![hM,Xk,valM]
 refine⟨xs.map (λn:Nat=>(n:Int)),(u:Int),by rw[Gy,XV];rfl,?_⟩
 simp![hM,Xk,valM]
 refine⟨u,rfl,h1,?_⟩
 simp![hM,Xk,valM]
 exact⟨by lia,q⟩
abbrev Us:SpM:=λvs M Q=>∃(a:Addr) (tu n:Nat) (s:Nat×Nat×Int) (xs:List Nat),vs=[.ref a]/\M a=some (Xk tu n s xs)/\Q .non (updM M a (Xk tu (n+1) s xs))
theorem GD:MonW Us:=by walk_at "m"
theorem Rc(T:Txt K mg t):FnOk P w K mg base CX0 1 t.bh t.bR ["self"] (liSp K Us):=by
 refine T.fV.okM _e3 (fC (G:=L5) (Φ:=[]) T rfl nl0 nl0) EU _eT (λvs M Q h=>?_) (λvs M Q h=>?_)
 ·obtain⟨a,tu,n,s,xs,rfl,_⟩:=h;rfl
 obtain⟨a,tu,n,s,xs,rfl,hM,q⟩:=h;show wSs _ _ _ [some (.ref a)] M;delta EU L4
 simp![hM,Xk,valM,putM]
 exact q
abbrev Ut:SpM:=λvs M Q=>∃(a:Addr) (tu n:Nat) (s:Nat×Nat×Int) (xs:List Nat) (u:Nat) (m:Int) (c:Nat) (o:Nat×Nat×Int),vs=[.ref a,.int m,.int c,sgnM o]/\M a=some (Xk tu n s (xs++[u]))/\xs.length≤100/\0<tu/\
 ∀d:Nat,(if s.2.2<o.2.2 then seen o.2.1 o.1 c else o.1)=d->Q (.int d) (updM M a (Xk tu n (gray (n%tu),s.1,m) (d::xs)))
theorem GE:MonW Ut:=by walk_at "m"
theorem Re(T:Txt K mg t):FnOk P w K mg base CX0 3 t.bf t.aZ ["self","moment","choice","other_sign"] (liSp K Ut):=by
 refine T.gK.okM _6v (Ua (k:=2) (G:=La) (Φ:=[("code_of",Bo),("moved",Dj),("sampled",Vl),("shown",UT)]) (Ψ:=[("Side_ring_ahead",Vm)]) (Χ:=[("code_of",Bo),("moved",Dj),("sampled",Vl),("shown",UT),("Side_ring_ahead",Vm)]) rfl (Uo T) (Up T) rfl (fMc ⟨R7,(fMc ⟨_eo,(fMc ⟨R5,(fMc ⟨Gs,(fMc ⟨R9,nl0⟩)⟩)⟩)⟩)⟩) (fMc ⟨fE T.aW (R8 T),(fMc ⟨fE T.bZ (_kz T),(fMc ⟨fE T.aS (R6 T),(fMc ⟨fE T.aU (R4 T),nl0⟩)⟩)⟩)⟩) (fMc ⟨⟨_,_,rfl,_,_,_,_,(FnOk.mono (Ra T) (by decide)),T.ac,T.ag,T.bb,T.ce⟩,nl0⟩) nl0 (Uq T)) EV _6B (fun vs M Q h=>?_) (fun vs M Q h=>?_)
 ·obtain⟨a,tu,n,s,xs,u,m,c,o,rfl,_⟩:=h;rfl
 obtain⟨a,tu,n,s,xs,u,m,c,o,rfl,hM,h1,h2,q⟩:=h;show wSs _ _ _ [some (.ref a),some (.int m),some (.int c),some (sgnM o),none] M;delta EV L9
 simp![hM,Xk,valM]
 refine⟨a,tu,n,s,xs++[u],rfl,hM,?_⟩
 simp![hM,Xk,valM]
 refine⟨o.1,o.2.1,o.2.2,s.2.2,c,rfl,?_⟩;obtain⟨d,hd⟩:∃d:Nat,(if s.2.2<o.2.2 then seen o.2.1 o.1 c else o.1)=d:=⟨_,rfl⟩;rw[hd];delta L8
 simp![hM,Xk,valM]
 refine⟨by lia,?_⟩
 rw[Dk];refine⟨_,rfl,?_⟩
 simp![hM,Xk,valM,putM]
 refine⟨s.1,s.2.1,s.2.2,_,m,rfl,?_⟩
 simp![hM,Xk,valM,putM]
 delta L7
 simp![hM,Xk,valM,putM,YC]
 refine⟨xs.map (λn:Nat=>(n:Int)),(u:Int),(d:Int),by rw[Gy,XV];rfl,by rw[Xc];exact h1,?_⟩
 simp![hM,Xk,valM,putM,YC]
 delta L6
 simp![hM,Xk,valM,putM,YC]
 have e:MV.int (d:Int)::List.map MV.int (xs.map λn:Nat=>(n:Int))=(d::xs).map natM:=by rw[Xx,Gy]
 have z:=q d hd;rw[Xk,<- e]at z
 simpa only[Xx]using z
def XT(p g u:Addr):MO:=.ins "Ferry" [("places",.ref p),("giver",.ref g),("taker",.ref u)]
abbrev Xh(k n:Nat):Nat:=gray (n%2^(k+1))
def wM:Option Nat->MV
 |none=>.non
 |some x=>.int x
structure FyAt (M:MH) (f p g u:Addr) (A:Ab):Prop where
 ok:A.Ok
 fe:M f=some (XT p g u)
 pls:∃pl,M p=some (.lst (pl.map sgnM))/\PlOk A pl
 gi:M g=some (Xk (2^(A.k+1)) A.ws.length (Xh A.k A.ws.length,Xh A.k A.gp,A.gm) (A.gx.map (Xh A.k)))
 ta:M u=some (Xk (2^(A.k+1)) A.tn (Xh A.k A.tn,Xh A.k A.tp,A.tm) (A.tx.map (Xh A.k)))
 ne:g≠u
def FrM(M M':MH)(l:List Addr):Prop:=∀a o,M a=some o->a∉l->M' a=some o
theorem FrM.refl(M:MH)(l:List Addr):FrM M M l:=λ_ _ h _=>h
theorem FrM.new{M M':MH}{l:List Addr}(h:FrM M M' l){p:Addr}(hp:M' p=none)(o:MO):FrM M (updM M' p o) l:=λa u e n=>by
 have:=h a u e n;rw[X7 (neM this hp)];exact this
theorem FrM.upd{M M':MH}{l:List Addr}(h:FrM M M' l){p:Addr}(hp:p∈l)(o:MO):FrM M (updM M' p o) l:=λa u e n=>by
 rw[X7 (λz=>n (by rw[z];exact hp))];exact h a u e n
theorem Dm{tu n:Nat}{s:Nat×Nat×Int}{xs:List Nat}{p g u:Addr}:Xk tu n s xs≠XT p g u:=by
 intro e;unfold Xk XT at e;injection e with e1 _;exact absurd e1 (by rw[Wf];decide)
theorem _0{M:MH}{a b:Addr}{o u:MO}(h1:M a=some o)(h2:M b=some u)(n:o≠u):a≠b:=by
 intro e;subst e;rw[h1]at h2;cases h2;exact n rfl
theorem Rf{k n:Nat}(hk:k<4):Xh k n<2^60/\Wk (Xh k n)=n%2^(k+1):=by
 have h:=QV hk (VJ n (Zn (k+1)));exact⟨Yy h.1 (by decide),h.2.1⟩
theorem Rg{k:Nat}{xs:List Nat}(h:1≤xs.length):xs.map (Xh k)=xs.dropLast.map (Xh k)++[Xh k (XI xs)]:=by
 have e:=Bm h;have:xs.map (Xh k)=(xs.dropLast++[XI xs]).map (Xh k):=by rw[<- e]
 rw[this,XV];rfl
theorem _np{n j:Nat}(h:j<n):ixN n (j:Int)=some j:=by
 unfold ixN;rw[if_pos (by lia),if_pos (by lia),YI]
abbrev Bp:SpM:=fun vs M Q=>∃(f:Addr) (k st:Nat),vs=[.ref f,.int k,.int st]/\M f=some (.ins "Ferry" [])/\k<4/\1≤st/\st≤3/\∀p g u M',M p=none->M g=none->M u=none->FrM M M' [f]->FyAt M' f p g u (ab0 k st)->Q .non M'
theorem Rh:MonW Bp:=by walk_at "m"
theorem _8V(T:Txt K mg t):FnOk P w K mg base CX0 4 t.aP t.bX ["self","k","stages"] (liSp K Bp):=by
 refine T.gO.okM _8S (Ua (k:=3) (G:=Lf) (Φ:=[("first_sign",Bn),("two_to",Zs)]) (Ψ:=[("Side___init__",Dl)]) (Χ:=[("first_sign",Bn),("two_to",Zs),("Side___init__",Dl)]) rfl (Uo T) (Up T) rfl (fMc ⟨QZ,(fMc ⟨CY,(fMc ⟨_6y,nl0⟩)⟩)⟩) (fMc ⟨fE T.aT (R0 T),(fMc ⟨fE T.aC (CZ T),nl0⟩)⟩) nl0 (fMc ⟨⟨_,_,rfl,_,_,_,_,_,(by decide:2+1≤3),_ae T,T.ac,T.cN,T.eG,T.fH⟩,nl0⟩) (Uq T)) EW _9c (fun vs M Q h=>?_) (fun vs M Q h=>?_)
 ·obtain⟨f,k,st,rfl,_⟩:=h;rfl
 obtain⟨f,k,st,rfl,hM,hk,h1,h3,q⟩:=h;show wSs _ _ _ [some (.ref f),some (.int k),some (.int st)] M;have pk:∀j:Nat,((2:Int)^j)=((2^j:Nat):Int):=λj=>by rw[V9];rfl
 have kp0:(0:Int)≤((2^k:Nat):Int):=WI _;have k16:2^k≤8:=BX (by lia) (by lia:k≤3)
 delta EW Ld
 simp![putM]
 refine⟨0,rfl,?_⟩
 simp![putM]
 intro p0 hp0;have fr0:=(FrM.refl M [f]).new hp0 (.lst [.tup [.int 0,.int 0,.int (-1)]]);have hf0:updM M p0 (.lst [.tup [.int 0,.int 0,.int (-1)]]) f=some (.ins "Ferry" []):=by rw[X7 (neM hM hp0)];exact hM
 have hp1:updM M p0 (.lst [.tup [.int 0,.int 0,.int (-1)]]) p0=some (.lst [.tup [.int 0,.int 0,.int (-1)]]):=Xb;generalize updM M p0 _=M0 at*;refine⟨k,rfl,by lia,?_⟩
 simp![hp1,pk]
 rw[YI];refine⟨by lia,by lia,by lia,λp hp=>?_⟩
 have mp0:M p=none:=by
  cases e:M p with
  |none=>rfl
  |some o=>
   by_cases ez:p=f
   ·subst ez;rw[hf0]at hp;cases hp
   ·rw[fr0 p o e (by simpa using ez)]at hp;cases hp
 have fr1:=fr0.new hp (.lst (Xj (2^k) [MV.tup [.int 0,.int 0,.int (-1)]]).flatten);have hf1:updM M0 p (.lst (Xj (2^k) [MV.tup [.int 0,.int 0,.int (-1)]]).flatten) f=some (.ins "Ferry" []):=by rw[X7 (neM hf0 hp)];exact hf0
 have hpp:updM M0 p (.lst (Xj (2^k) [MV.tup [.int 0,.int 0,.int (-1)]]).flatten) p=some (.lst (Xj (2^k) [MV.tup [.int 0,.int 0,.int (-1)]]).flatten):=Xb;generalize updM M0 p _=M1 at*
 simp![hf1,putM]
 have fr2:=fr1.upd (XX.mpr rfl) (.ins "Ferry" [("places",.ref p)]);have hf2:updM M1 f (.ins "Ferry" [("places",.ref p)]) f=some (.ins "Ferry" [("places",.ref p)]):=Xb;have jq:updM M1 f (.ins "Ferry" [("places",.ref p)]) p=some (.lst (Xj (2^k) [MV.tup [.int 0,.int 0,.int (-1)]]).flatten):=by rw[X7 (_0 hpp hf1 (by intro z;cases z))];exact hpp
 have free:∀z,updM M1 f (.ins "Ferry" [("places",.ref p)]) z=none->M z=none:=fun z hz=>by
  cases e:M z with
  |none=>rfl
  |some o=>
   by_cases ez:z=f
   ·subst ez;rw[hf2]at hz;cases hz
   ·rw[fr2 z o e (by simpa using ez)]at hz;cases hz
 generalize updM M1 f _=M2 at*;delta Lc
 simp![hf2,putM]
 refine⟨k+1,rfl,by lia,?_⟩
 simp![hf2,putM,pk]
 intro g hg;refine⟨g,2^(k+1),st,rfl,Xb,h1,h3,rfl,?_⟩;rw[YC];have fr3:=fr2.new hg (Xk (2^(k+1)) 0 (0,0,-1) (Xj st 0));have hf3:updM M2 g (Xk (2^(k+1)) 0 (0,0,-1) (Xj st 0)) f=some (.ins "Ferry" [("places",.ref p)]):=by rw[X7 (neM hf2 hg)];exact hf2
 have jr:updM M2 g (Xk (2^(k+1)) 0 (0,0,-1) (Xj st 0)) p=some (.lst (Xj (2^k) [MV.tup [.int 0,.int 0,.int (-1)]]).flatten):=by rw[X7 (neM jq hg)];exact jq
 have hgg:updM M2 g (Xk (2^(k+1)) 0 (0,0,-1) (Xj st 0)) g=some (Xk (2^(k+1)) 0 (0,0,-1) (Xj st 0)):=Xb;have mg0:=free g hg;generalize updM M2 g _=M3 at*
 simp![hf3,putM]
 have gf:g≠f:=_0 hgg hf3 (by intro z;unfold Xk at z;injection z with z1 _;exact absurd z1 (by rw[Wf];decide))
 have fr4:=fr3.upd (XX.mpr rfl) (.ins "Ferry" [("places",.ref p),("giver",.ref g)]);have hf4:updM M3 f (.ins "Ferry" [("places",.ref p),("giver",.ref g)]) f=some (.ins "Ferry" [("places",.ref p),("giver",.ref g)]):=Xb;have jt:updM M3 f (.ins "Ferry" [("places",.ref p),("giver",.ref g)]) p=some (.lst (Xj (2^k) [MV.tup [.int 0,.int 0,.int (-1)]]).flatten):=by rw[X7 (_0 jr hf3 (by intro z;cases z))];exact jr
 have hgg4:updM M3 f (.ins "Ferry" [("places",.ref p),("giver",.ref g)]) g=some (Xk (2^(k+1)) 0 (0,0,-1) (Xj st 0)):=by rw[X7 gf];exact hgg
 generalize updM M3 f _=M4 at*;have free4:∀z,M4 z=none->M z=none:=λz hz=>by
  cases e:M z with
  |none=>rfl
  |some o=>
   by_cases ez:z=f
   ·subst ez;rw[hf4]at hz;cases hz
   ·rw[fr4 z o e (by simpa using ez)]at hz;cases hz
 delta Lb
 simp![hf4,putM]
 refine⟨k+1,rfl,by lia,?_⟩
 simp![hf4,putM,pk]
 intro u hu;refine⟨u,2^(k+1),st,rfl,Xb,h1,h3,rfl,?_⟩;rw[YC];have fr5:=fr4.new hu (Xk (2^(k+1)) 0 (0,0,-1) (Xj st 0));have hf5:updM M4 u (Xk (2^(k+1)) 0 (0,0,-1) (Xj st 0)) f=some (.ins "Ferry" [("places",.ref p),("giver",.ref g)]):=by rw[X7 (neM hf4 hu)];exact hf4
 have ju:updM M4 u (Xk (2^(k+1)) 0 (0,0,-1) (Xj st 0)) p=some (.lst (Xj (2^k) [MV.tup [.int 0,.int 0,.int (-1)]]).flatten):=by rw[X7 (neM jt hu)];exact jt
 have hgg5:updM M4 u (Xk (2^(k+1)) 0 (0,0,-1) (Xj st 0)) g=some (Xk (2^(k+1)) 0 (0,0,-1) (Xj st 0)):=by rw[X7 (neM hgg4 hu)];exact hgg4
 have huu:updM M4 u (Xk (2^(k+1)) 0 (0,0,-1) (Xj st 0)) u=some (Xk (2^(k+1)) 0 (0,0,-1) (Xj st 0)):=Xb;have gu:=neM hgg4 hu;have mu0:=free4 u hu;generalize updM M4 u _=M5 at*
 simp![hf5,putM]
 have uf:u≠f:=_0 huu hf5 (by intro z;unfold Xk at z;injection z with z1 _;exact absurd z1 (by rw[Wf];decide))
 have fr6:=fr5.upd (XX.mpr rfl) (XT p g u);have g0:gray 0=0:=by decide
 have g1:∀j,Xh j 0=0:=λj=>by unfold Xh;rw[Nat.zero_mod,g0]
 have gr:(Xj st 0).map (Xh k)=Xj st 0:=by rw[Wv,g1]
 refine q p g u _ mp0 mg0 mu0 fr6 ⟨_qd hk h1 h3,Xb,⟨Xj (2^k) (0,0,-1),?_,by simp[ab0],λj hj=>absurd hj (by simp[ab0])⟩,?_,?_,gu⟩
 ·rw[X7 (_0 ju hf5 (by intro z;cases z)),ju,Gv,Wv]
  rfl
 ·rw[X7 gf,hgg5];show some (Xk _ 0 (0,0,-1) _)=some (Xk (2^(k+1)) 0 (Xh k 0,Xh k 0,-1) ((Xj st 0).map (Xh k)));rw[g1,gr]
 ·rw[X7 uf,huu];show some (Xk _ 0 (0,0,-1) _)=some (Xk (2^(k+1)) 0 (Xh k 0,Xh k 0,-1) ((Xj st 0).map (Xh k)));rw[g1,gr]
abbrev Vn:SpM:=λvs M Q=>∃(f p g u:Addr) (A:Ab) (m:Int) (c:Nat) (x:Option Nat),vs=[.ref f,.int m,.int c,wM x]/\FyAt M f p g u A/\A.gm<m/\A.tm<m/\
 ∀p' M',M p'=none->FrM M M' [f,g,u]->FyAt M' f p' g u (A.giver m c x)->Q (.tup [.bl (A.gives x),.int (Xh A.k (A.gSamp c):Nat)]) M'
theorem _4I:MonW Vn:=by walk_at "m"
theorem _7C(T:Txt K mg t):FnOk P w K mg base CX0 4 t.bB t.ca ["self","moment","choice","word"] (liSp K Vn):=by
 refine T.gZ.okM _7y (Ua (k:=3) (G:=Ll) (Φ:=[("shown",UT)]) (Ψ:=[("Side_grow",Us),("Side_less_the_seen",Ur),("Side_show_and_see",Ut)]) (Χ:=[("shown",UT),("Side_grow",Us),("Side_less_the_seen",Ur),("Side_show_and_see",Ut)]) rfl (Uo T) (Up T) rfl (fMc ⟨Gs,(fMc ⟨GD,(fMc ⟨GA,(fMc ⟨GE,nl0⟩)⟩)⟩)⟩) (fMc ⟨fE T.aU (R4 T),nl0⟩) (fMc ⟨⟨_,_,rfl,_,_,_,_,(FnOk.mono (Rc T) (by decide)),T.ac,T.ag,T.bN,T.bE⟩,(fMc ⟨⟨_,_,rfl,_,_,_,_,(FnOk.mono (Rb T) (by decide)),T.ac,T.ag,T.bY,T.bn⟩,(fMc ⟨⟨_,_,rfl,_,_,_,_,(FnOk.mono (Re T) (by decide)),T.ac,T.ag,T.bz,T.bq⟩,nl0⟩)⟩)⟩) nl0 (Uq T)) EZ _7R (fun vs M Q h=>?_) (fun vs M Q h=>?_)
 ·obtain⟨f,p,g,u,A,m,c,x,rfl,_⟩:=h;rfl
 obtain⟨f,p,g,u,A,m,c,x,rfl,hF,h1,h2,q⟩:=h;have hf:=hF.fe;obtain⟨pl,hp,hpl⟩:=hF.pls;have hg:=hF.gi;have hu:=hF.ta;have ok:=hF.ok;have hΦ:=(UQ (Φ:=[("shown",UT),("Side_grow",Us),("Side_less_the_seen",Ur),("Side_show_and_see",Ut)]) (fMc ⟨Gs,(fMc ⟨GD,(fMc ⟨GA,(fMc ⟨GE,nl0⟩)⟩)⟩)⟩));have kpos:0<2^A.k:=Zn _;have k8:2^A.k≤8:=BX (by lia) (by have:=ok.k4;lia:A.k≤3)
 have pll:pl.length=2^A.k:=hpl.1;have gs:=Rf (n:=XI A.gx) ok.k4;have eg:=Rg (k:=A.k) ok.gl.1;have gf:g≠f:=_0 hg hf Dm;have uf:u≠f:=_0 hu hf Dm;have tail:∀(M1:MH) (D:Addr) (n:Nat),FrM M M1 [f,g,u]->M1 f=some (XT p g u)->M1 p=some (.lst (pl.map sgnM))->M1 u=M u->M1 g=some (Xk (2^(A.k+1)) n (Xh A.k A.ws.length,Xh A.k A.gp,A.gm) (A.gx.map (Xh A.k)))->n=(A.giver m c x).ws.length->
   M1 D=some (.lst ((Xs pl.length).map λi=>MV.int ((if A.gives x=true/\i=A.ws.length%2^A.k then x.getD 0 else(pl.getD i (0,0,0)).1:Nat):Int)))->
   wSs ([("shown",UT),("Side_grow",Us),("Side_less_the_seen",Ur),("Side_show_and_see",Ut)]:List (Str×SpM)) EX {nx:=fun _ M'=>Q .non M',rt:=Q} [some (.ref f),some (.int m),some (.int c),some (wM x),some (.ref D),some (.bl (A.gives x))] M1:=by
  intro M1 D n fr hf1 hp1 hu1 hg1 hn hD;delta EX;simp!;refine _L (Xs pl.length) (λi=>.int (0+(i:Nat))) (λi=>sgnM ((if A.gives x=true/\i=A.ws.length%2^A.k then x.getD 0 else(pl.getD i (0,0,0)).1),(pl.getD i (0,0,0)).1,m)) ?_ ?_ hΦ λD2 hD2=>?_
  ·simp![hD,Xc,UE]
   rw[YI];exact⟨by lia,by lia,rfl,by lia,trivial⟩
  ·intro i hi M' s;have hi:i<pl.length:=by simpa using hi
   have f':=s _ _ hf1;have p':=s _ _ hp1;have d':=s _ _ hD;simp only[sCm,Xx,Yc,Yu,Yv,Yo,Ya];have a1:atI (pl.map sgnM) (0+(i:Int))=some (sgnM (pl.getD i (0,0,0))):=by
    rw[WJ];refine YB ?_;rw[Xr,Xa hi,Ym,Xa hi];rfl
   have a2:atI ((Xs pl.length).map λi=>MV.int ((if A.gives x=true/\i=A.ws.length%2^A.k then x.getD 0 else(pl.getD i (0,0,0)).1:Nat):Int)) (0+(i:Int))=some (.int ((if A.gives x=true/\i=A.ws.length%2^A.k then x.getD 0 else(pl.getD i (0,0,0)).1:Nat):Int)):=by
    rw[WJ];refine YB ?_;rw[Xr,Wu hi];rfl
   simp![f',p',d',a1,a2,XT,valM]
   exact⟨_,_,_,_,_,rfl,rfl,rfl⟩
  have md2:M D2=none:=by
   cases e:M D2 with
   |none=>rfl
   |some o=>
    by_cases e1:D2=f
    ·subst e1;rw[hf1]at hD2;cases hD2
    ·by_cases e2:D2=g
     ·subst e2;rw[hg1]at hD2;cases hD2
     ·by_cases e3:D2=u
      ·subst e3;rw[hu1,hu]at hD2;cases hD2
      ·rw[fr D2 o e (by simp[e1,e2,e3])]at hD2;cases hD2
  have fr2:=fr.new hD2 (.lst ((Xs pl.length).map λi=>sgnM ((if A.gives x=true/\i=A.ws.length%2^A.k then x.getD 0 else(pl.getD i (0,0,0)).1),(pl.getD i (0,0,0)).1,m)));have hpl2:(Xs pl.length).map (λi=>sgnM ((if A.gives x=true/\i=A.ws.length%2^A.k then x.getD 0 else(pl.getD i (0,0,0)).1),(pl.getD i (0,0,0)).1,m))=(YS A m x pl).map sgnM:=by
   unfold YS;rw[Yp];rfl
  rw[hpl2]at fr2 ⊢;have hf2:updM M1 D2 (.lst ((YS A m x pl).map sgnM)) f=some (XT p g u):=by rw[X7 (neM hf1 hD2)];exact hf1
  have hg2:updM M1 D2 (.lst ((YS A m x pl).map sgnM)) g=some (Xk (2^(A.k+1)) n (Xh A.k A.ws.length,Xh A.k A.gp,A.gm) (A.gx.map (Xh A.k))):=by rw[X7 (neM hg1 hD2)];exact hg1
  have hu2:updM M1 D2 (.lst ((YS A m x pl).map sgnM)) u=M u:=by rw[X7 (neM (hu1.trans hu) hD2)];exact hu1
  have hd2:updM M1 D2 (.lst ((YS A m x pl).map sgnM)) D2=some (.lst ((YS A m x pl).map sgnM)):=Xb;generalize updM M1 D2 _=M2 at*
  simp![hf2,XT,putM]
  have fr3:=fr2.upd (p:=f) (by simp) (XT D2 g u)
  have hf3:updM M2 f (XT D2 g u) f=some (XT D2 g u):=Xb;have hg3:updM M2 f (XT D2 g u) g=some (Xk (2^(A.k+1)) n (Xh A.k A.ws.length,Xh A.k A.gp,A.gm) (A.gx.map (Xh A.k))):=by rw[X7 gf];exact hg2
  have hu3:updM M2 f (XT D2 g u) u=M u:=by rw[X7 uf];exact hu2
  have hd3:updM M2 f (XT D2 g u) D2=some (.lst ((YS A m x pl).map sgnM)):=by rw[X7 (_0 hd2 hf2 (by intro z;cases z))];exact hd2
  rw[XT]at fr3 hf3 hg3 hu3 hd3;generalize updM M2 f _=M3 at*;delta Lg;rw[hu]at hu3
  simp![hf3,hg3,hu3,Xk,valM]
  rw[eg]at hg3;refine⟨g,2^(A.k+1),n,(Xh A.k A.ws.length,Xh A.k A.gp,A.gm),A.gx.dropLast.map (Xh A.k),Xh A.k (XI A.gx),m,c,(Xh A.k A.tn,Xh A.k A.tp,A.tm),rfl,hg3,?_,Zn _,?_⟩
  ·have:=ok.gl;rw[Xc,Wt];lia
  intro d hd;have ed:d=Xh A.k (A.gSamp c):=by
   rw[<- hd];exact Gz ok.k4 ok.t1 _ _ c
  simp![ed]
  have fr4:=fr3.upd (p:=g) (by simp) (Xk (2^(A.k+1)) n (gray (n%2^(A.k+1)),Xh A.k A.ws.length,m) (d::A.gx.dropLast.map (Xh A.k)))
  rw[ed]at fr4;refine q D2 _ md2 fr4 ⟨ok.giver h2,?_,⟨YS A m x pl,?_,_h3 hpl⟩,?_,?_,hF.ne⟩
  ·rw[X7 gf.symm];exact hf3
  ·rw[X7 (_0 hd3 hg3 (by intro z;unfold Xk at z;cases z))];exact hd3
  ·rw[Xb];show _=some (Xk (2^(A.k+1)) (A.giver m c x).ws.length (Xh A.k (A.giver m c x).ws.length,Xh A.k A.ws.length,m) ((A.gSamp c::A.gx.dropLast).map (Xh A.k)));rw[<- hn];rfl
  ·rw[X7 hF.ne.symm];exact hu3
 show wSs _ _ _ [some (.ref f),some (.int m),some (.int c),some (wM x),none,none] M;delta EZ Lk;simp!;refine _L pl sgnM (λs=>.int s.1) ?_ ?_ hΦ λD hD=>?_
 ·simp![hf,hp,XT,valM]
  exact⟨rfl,by lia,hp⟩
 ·intro s hs M' same;simp only[sCm,Xx,Yc,Yu,Yv,Yo,Ya];simp!
 have fr0:=(FrM.refl M [f,g,u]).new hD (.lst (pl.map λs=>MV.int s.1));have hf0:updM M D (.lst (pl.map λs=>MV.int s.1)) f=some (XT p g u):=by rw[X7 (neM hf hD)];exact hf
 have hp0:updM M D (.lst (pl.map λs=>MV.int s.1)) p=some (.lst (pl.map sgnM)):=by rw[X7 (neM hp hD)];exact hp
 have hg0:updM M D (.lst (pl.map λs=>MV.int s.1)) g=some (Xk (2^(A.k+1)) A.ws.length (Xh A.k A.ws.length,Xh A.k A.gp,A.gm) (A.gx.map (Xh A.k))):=by rw[X7 (neM hg hD)];exact hg
 have hu0:updM M D (.lst (pl.map λs=>MV.int s.1)) u=M u:=by rw[X7 (neM hu hD)]
 have hd0:updM M D (.lst (pl.map λs=>MV.int s.1)) D=some (.lst (pl.map λs=>MV.int s.1)):=Xb;generalize updM M D _=M0 at*;have no:¬A.gives x=true->pl.map (λs=>MV.int s.1)=(Xs pl.length).map λi=>MV.int ((if A.gives x=true/\i=A.ws.length%2^A.k then x.getD 0 else(pl.getD i (0,0,0)).1:Nat):Int):=λz=>by
  refine BP (by simp) λi h1 h2=>?_
  have hi:i<pl.length:=by simpa using h1
  simp[z,hi]
 delta Lj;cases x with
 |none=>
  have z:¬A.gives none=true:=by simp[Ab.gives]
  have z':A.gives none=false:=by simpa using z
  simp![wM]
  delta EY
  simp![true_and]
  rw[no z]at hd0;have tl:=tail M0 D A.ws.length fr0 hf0 hp0 hu0 hg0 (by unfold Ab.giver;rw[if_neg z]) hd0
  rw[z',wM]at tl;exact tl
 |some y=>
  have jv:=hg0;rw[eg]at jv
  simp![wM,hf0,hg0,XT,Xk,valM]
  refine⟨g,_,_,_,_,_,rfl,jv,gs.1,Zn _,?_⟩
  simp![hd0]
  rw[gs.2,Xc,pll];have er:decide ((((A.ws.length:Int) - ((XI A.gx%2^(A.k+1):Nat):Int))%((2^(A.k+1):Nat):Int)<((2^A.k:Nat):Int)))=A.gives (some y):=by
   unfold Ab.gives;simp only[Option.isSome_some,C3];exact decide_eq_decide.mpr (_kf ok)
  rw[er];delta EY;cases z:A.gives (some y)with
  |false=>
   simp![true_and]
   rw[no (by rw[z];exact XE)]at hd0
   have tl:=tail M0 D A.ws.length fr0 hf0 hp0 hu0 hg0 (by unfold Ab.giver;rw[if_neg (by rw[z];exact XE)]) hd0
   rw[z,wM]at tl;exact tl
  |true=>
   simp![true_and]
   delta Li
   simp![wM,hf0,hg0,hd0,XT,Xk,valM,Xc]
   rw[pll,Dk];refine⟨by lia,A.ws.length%2^A.k,_np (VJ _ kpos),?_⟩
   have fr1:FrM M (updM M0 D (.lst ((pl.map λs=>MV.int s.1).set (A.ws.length%2^A.k) (.int y)))) [f,g,u]:=λa o e n=>by
    rw[X7 (neM e hD)];exact fr0 a o e n
   have eset:(pl.map λs=>MV.int s.1).set (A.ws.length%2^A.k) (.int y)=(Xs pl.length).map λi=>MV.int ((if A.gives (some y)=true/\i=A.ws.length%2^A.k then(some y).getD 0 else(pl.getD i (0,0,0)).1:Nat):Int):=by
    refine BP (by simp) λi h1 h2=>?_
    have hi:i<pl.length:=by simpa using h1
    rw[DB];by_cases e:A.ws.length%2^A.k=i
    ·subst e;rw[if_pos rfl];simp[z]
    ·rw[if_neg e];have e2:¬(A.gives (some y)=true/\i=A.ws.length%2^A.k):=λw=>e w.2.symm;simp[e2,hi]
   rw[eset]at fr1 ⊢;have hf1:updM M0 D (.lst ((Xs pl.length).map λi=>MV.int ((if A.gives (some y)=true/\i=A.ws.length%2^A.k then(some y).getD 0 else(pl.getD i (0,0,0)).1:Nat):Int))) f=some (XT p g u):=by rw[X7 (neM hf hD)];exact hf0
   have hp1:updM M0 D (.lst ((Xs pl.length).map λi=>MV.int ((if A.gives (some y)=true/\i=A.ws.length%2^A.k then(some y).getD 0 else(pl.getD i (0,0,0)).1:Nat):Int))) p=some (.lst (pl.map sgnM)):=by rw[X7 (neM hp hD)];exact hp0
   have hg1:updM M0 D (.lst ((Xs pl.length).map λi=>MV.int ((if A.gives (some y)=true/\i=A.ws.length%2^A.k then(some y).getD 0 else(pl.getD i (0,0,0)).1:Nat):Int))) g=some (Xk (2^(A.k+1)) A.ws.length (Xh A.k A.ws.length,Xh A.k A.gp,A.gm) (A.gx.map (Xh A.k))):=by rw[X7 (neM hg hD)];exact hg0
   have hu1:updM M0 D (.lst ((Xs pl.length).map λi=>MV.int ((if A.gives (some y)=true/\i=A.ws.length%2^A.k then(some y).getD 0 else(pl.getD i (0,0,0)).1:Nat):Int))) u=M u:=by rw[X7 (neM hu hD)];exact hu0
   have hd1:updM M0 D (.lst ((Xs pl.length).map λi=>MV.int ((if A.gives (some y)=true/\i=A.ws.length%2^A.k then(some y).getD 0 else(pl.getD i (0,0,0)).1:Nat):Int))) D=some (.lst ((Xs pl.length).map λi=>MV.int ((if A.gives (some y)=true/\i=A.ws.length%2^A.k then(some y).getD 0 else(pl.getD i (0,0,0)).1:Nat):Int))):=Xb;generalize updM M0 D _=M1 at*;delta Lh
   simp![hf1,hg1,XT,Xk,valM]
   refine⟨g,_,_,_,_,rfl,hg1,?_⟩;have fr2:=fr1.upd (p:=g) (by simp) (Xk (2^(A.k+1)) (A.ws.length+1) (Xh A.k A.ws.length,Xh A.k A.gp,A.gm) (A.gx.map (Xh A.k)))
   have tl:=tail _ D (A.ws.length+1) fr2 (by rw[X7 gf.symm];exact hf1) (by rw[X7 (_0 hp1 hg1 (by intro z;unfold Xk at z;cases z))];exact hp1) (by rw[X7 hF.ne.symm];exact hu1) Xb
    (by unfold Ab.giver;rw[if_pos z];simp) (by rw[X7 (_0 hd1 hg1 (by intro z;unfold Xk at z;cases z))];exact hd1)
   rw[z,wM]at tl;exact tl
def takM(A:Ab)(x:Bool):MV:=if A.takes x=true then .int (A.ws.getD A.tn 0:Nat)else .non
abbrev Wl:SpM:=λvs M Q=>∃(f p g u:Addr) (A:Ab) (m:Int) (c:Nat) (x:Bool),vs=[.ref f,.int m,.int c,.bl x]/\FyAt M f p g u A/\A.gm<m/\A.tm<m/\
 ∀M',FrM M M' [f,g,u]->FyAt M' f p g u (A.taker m c x)->Q (.tup [takM A x,.int (Xh A.k (A.tSamp c):Nat)]) M'
theorem _4H:MonW Wl:=by walk_at "m"
set_option tactic.hygienic true in
theorem _7B(T:Txt K mg t):FnOk P w K mg base CX0 4 t.bS t.bQ ["self","moment","choice","wished"] (liSp K Wl):=by
 refine T.ff.okM _7x (Ua (k:=3) (G:=Lr) (Φ:=[("sampled",Vl)]) (Ψ:=[("Side_grow",Us),("Side_less_the_seen",Ur),("Side_ring_ahead",Vm),("Side_show_and_see",Ut)]) (Χ:=[("sampled",Vl),("Side_grow",Us),("Side_less_the_seen",Ur),("Side_ring_ahead",Vm),("Side_show_and_see",Ut)]) rfl (Uo T) (Up T) rfl (fMc ⟨R5,(fMc ⟨GD,(fMc ⟨GA,(fMc ⟨R9,(fMc ⟨GE,nl0⟩)⟩)⟩)⟩)⟩) (fMc ⟨fE T.aS (R6 T),nl0⟩) (fMc ⟨⟨_,_,rfl,_,_,_,_,(FnOk.mono (Rc T) (by decide)),T.ac,T.ag,T.bN,T.bE⟩,(fMc ⟨⟨_,_,rfl,_,_,_,_,(FnOk.mono (Rb T) (by decide)),T.ac,T.ag,T.bY,T.bn⟩,(fMc ⟨⟨_,_,rfl,_,_,_,_,(FnOk.mono (Ra T) (by decide)),T.ac,T.ag,T.bb,T.ce⟩,(fMc ⟨⟨_,_,rfl,_,_,_,_,(FnOk.mono (Re T) (by decide)),T.ac,T.ag,T.bz,T.bq⟩,nl0⟩)⟩)⟩)⟩) nl0 (Uq T)) F1 _7Q (fun vs M Q h=>?_) (fun vs M Q h=>?_)
 ·obtain⟨f,p,g,u,A,m,c,x,rfl,_⟩:=h;rfl
 obtain⟨f,p,g,u,A,m,c,x,rfl,hF,h1,h2,q⟩:=h;have hf:=hF.fe;obtain⟨pl,hp,hpl⟩:=hF.pls;have hg:=hF.gi;have hu:=hF.ta;have ok:=hF.ok;have kpos:0<2^A.k:=Zn _;have k8:2^A.k≤8:=BX (by lia) (by have:=ok.k4;lia:A.k≤3)
 have pll:pl.length=2^A.k:=hpl.1;have gs:=Rf (n:=XI A.tx) ok.k4;have tl1:1≤A.tx.length:=by rw[ok.tl];exact ok.gl.1
 have eg:=Rg (k:=A.k) tl1;have gf:g≠f:=_0 hg hf Dm;have uf:u≠f:=_0 hu hf Dm;have up:u≠p:=_0 hu hp (by intro z;unfold Xk at z;cases z)
 have tail:∀(M1:MH) (n:Nat) (pz:Option MV),FrM M M1 [f,g,u]->M1 f=some (XT p g u)->M1 p=some (.lst (pl.map sgnM))->M1 g=M g->M1 u=some (Xk (2^(A.k+1)) n (Xh A.k A.tn,Xh A.k A.tp,A.tm) (A.tx.map (Xh A.k)))->n=(A.taker m c x).tn->
   wSs ([("sampled",Vl),("Side_grow",Us),("Side_less_the_seen",Ur),("Side_ring_ahead",Vm),("Side_show_and_see",Ut)]:List (Str×SpM)) F0 {nx:=fun _ M'=>Q .non M',rt:=Q} [some (.ref f),some (.int m),some (.int c),some (.bl x),some (takM A x),pz] M1:=by
  intro M1 n pz fr hf1 hp1 hg1 hu1 hn;rw[hg]at hg1;delta F0
  simp![hf1,hu1,hg1,XT,Xk,valM]
  rw[eg]at hu1;refine⟨u,2^(A.k+1),n,(Xh A.k A.tn,Xh A.k A.tp,A.tm),A.tx.dropLast.map (Xh A.k),Xh A.k (XI A.tx),m,c,(Xh A.k A.ws.length,Xh A.k A.gp,A.gm),rfl,hu1,?_,Zn _,?_⟩
  ·have:=ok.gl;have:=ok.tl;rw[Xc,Wt];lia
  intro d hd;have ed:d=Xh A.k (A.tSamp c):=by
   rw[<- hd];exact Gz ok.k4 ok.g1 _ _ c
  simp![ed]
  have fr4:=fr.upd (p:=u) (by simp) (Xk (2^(A.k+1)) n (gray (n%2^(A.k+1)),Xh A.k A.tn,m) (d::A.tx.dropLast.map (Xh A.k)))
  rw[ed]at fr4;refine q _ fr4 ⟨ok.taker h1,?_,⟨pl,?_,hpl⟩,?_,?_,hF.ne⟩
  ·rw[X7 uf.symm];exact hf1
  ·rw[X7 up.symm];exact hp1
  ·rw[X7 hF.ne];exact hg1
  ·rw[Xb];show _=some (Xk (2^(A.k+1)) (A.taker m c x).tn (Xh A.k (A.taker m c x).tn,Xh A.k A.tn,m) ((A.tSamp c::A.tx.dropLast).map (Xh A.k)));rw[<- hn];rfl
 show wSs _ _ _ [some (.ref f),some (.int m),some (.int c),some (.bl x),none,none] M;delta F1 Lq;simp!;delta Lp;cases x with
 |false=>
  have z:¬A.takes false=true:=by simp[Ab.takes]
  simp![true_and]
  have tl:=tail M A.tn none (FrM.refl _ _) hf hp rfl hu (by unfold Ab.taker;rw[if_neg z])
  rw[takM,if_neg z]at tl;exact tl
 |true=>
  have jw:=hu;rw[eg]at jw
  simp![hf,hu,XT,Xk,valM]
  refine⟨u,_,_,_,_,_,rfl,jw,gs.1,Zn _,?_⟩
  simp![true_and]
  rw[gs.2];refine Y4 (λhne=>?_) (λhne=>?_)
  ·have ne:XI A.tx≠A.tn:=λe=>hne ((QY ok).mpr e);have z:A.takes true=true:=by unfold Ab.takes;simpa using ne
   obtain⟨hj,ah,ha,hb⟩:=_hK ok hpl ne;delta Lo
   simp![hf,hu,hp,XT,Xk,valM,Xc]
   rw[pll,Dk];have a1:atI (pl.map sgnM) ((A.tn%2^A.k:Nat):Int)=some (sgnM (A.ws[A.tn],ah,A.gm)):=by
    refine YB ?_;rw[Xr,ha];rfl
   refine⟨by lia,_,a1,?_⟩
   delta Ln
   simp![hf,hu,XT,Xk,valM]
   refine⟨u,_,_,_,_,rfl,hu,?_⟩
   simp![true_and]
   refine⟨A.ws[A.tn],ah,A.gm,A.tm,c,rfl,?_⟩;have ew:(if A.tm<A.gm then seen ah A.ws[A.tn] c else A.ws[A.tn])=A.ws[A.tn]:=by
    split
    ·rename_i w;rw[hb w,_hX]
    ·rfl
   rw[ew];delta Lm
   simp![hf,hu,XT,Xk,valM]
   refine⟨u,_,_,_,_,rfl,hu,?_⟩;have fr2:=(FrM.refl M [f,g,u]).upd (p:=u) (by simp) (Xk (2^(A.k+1)) (A.tn+1) (Xh A.k A.tn,Xh A.k A.tp,A.tm) (A.tx.map (Xh A.k)))
   have tl:=tail _ (A.tn+1) (some (sgnM (A.ws[A.tn],ah,A.gm))) fr2 (by rw[X7 uf.symm];exact hf) (by rw[X7 up.symm];exact hp) (by rw[X7 hF.ne]) Xb (by unfold Ab.taker;rw[if_pos z])
   have eg2:A.ws.getD A.tn 0=A.ws[A.tn]:=by rw[Ym,Xa hj];rfl
   rw[takM,if_pos z,eg2]at tl;exact tl
  ·have e:XI A.tx=A.tn:=(QY ok).mp (Decidable.not_not.mp hne);have z:¬A.takes true=true:=by unfold Ab.takes;simpa using e
   have tl:=tail M A.tn none (FrM.refl _ _) hf hp rfl hu (by unfold Ab.taker;rw[if_neg z])
   rw[takM,if_neg z]at tl;exact tl
theorem FyAt.same{M M':MH}{f p g u:Addr}{A:Ab}(h:FyAt M f p g u A)(s:∀a o,M a=some o->(∀xs,o=.lst xs->a=p)->M' a=some o):FyAt M' f p g u A:=by
 obtain⟨pl,hp,hpl⟩:=h.pls;exact⟨h.ok,s _ _ h.fe (λxs z=>by cases z),⟨pl,s _ _ hp (λxs _=>rfl),hpl⟩,s _ _ h.gi (λxs z=>by cases z),s _ _ h.ta (λxs z=>by cases z),h.ne⟩
theorem FyAt.keep{M M':MH}{f p g u:Addr}{A:Ab}(h:FyAt M f p g u A)(s:SameM M M'):FyAt M' f p g u A:=h.same λa o e _=>s a o e
theorem FyAt.put{M:MH}{f p g u q:Addr}{A:Ab}{xs:List MV}(h:FyAt M f p g u A)(hq:M q=some (.lst xs))(n:q≠p)(ys:List MV):FyAt (updM M q (.lst ys)) f p g u A:=h.same λa o e z=>by
 by_cases w:a=q
 ·subst w;rw[hq]at e;cases e;exact absurd (z xs rfl) n
 ·rw[X7 w];exact e
theorem Ri{M:MH}{f p g u q:Addr}{A:Ab}{xs:List MV}(h:FyAt M f p g u A)(hq:M q=some (.lst xs)):q∉ [f,g,u]:=by
 intro z;rcases Xl.mp z with rfl|z
 ·rw[h.fe]at hq;cases hq
 rcases Xl.mp z with rfl|z
 ·rw[h.gi]at hq;cases hq
 rcases Xl.mp z with rfl|z
 ·rw[h.ta]at hq;cases hq
 ·cases z
abbrev GF:SpM:=λvs M Q=>∃(ns:List Int) (k:Nat),vs=[.frl (ns.map .int),.int k]/\Q (.int (ns.getD k 0)) M
theorem _7F:MonW GF:=by walk_at "m"
theorem _aY(T:Txt K mg t):FnOk P w K mg base CX0 1 t.ci t.cH ["script","k"] (liSp K GF):=by
 refine T.bd.F.okM _aK (fC (G:=OI) (Φ:=[]) T rfl nl0 nl0) FQ _bA (λvs M Q h=>?_) (λvs M Q h=>?_)
 ·obtain⟨ns,k,rfl,_⟩:=h;rfl
 obtain⟨ns,k,rfl,q⟩:=h;show wSs _ _ _ [some (.frl (ns.map .int)),some (.int k)] M;delta FQ OH;simp!;refine Y4 (λc=>?_) (λc=>?_)
 ·rw[Xc]at c;have hk:k<ns.length:=by lia
  delta OG;simp!;have e:ns.getD k 0=ns[k]:=by simp[Ym,hk]
  rw[e]at q;exact⟨_,YB (by rw[Xr,Xa hk];rfl),q⟩
 ·rw[Xc]at c;have e:ns.getD k 0=0:=by simp[Ym,GW.mpr (show ns.length≤k by lia)]
  rw[e]at q;delta OF;simp!;exact q
def alph:Str:="abcdefghijklmnopqrstuvwxyz"
theorem _lc:alph.cps.toList.length=26:=by decide+kernel
theorem _jJ:alph.length≤16777216:=by decide+kernel
theorem GG{i:Int}(h0:0≤i)(h1:i<26):∃c,atI alph.cps.toList i=some c:=by
 have hk:i.toNat<alph.cps.toList.length:=by rw[_lc];lia
 refine⟨alph.cps.toList[i.toNat],?_⟩;have:=YB (xs:=alph.cps.toList) (j:=i.toNat) (Xa hk)
 rwa [UJ h0]at this
theorem Rj(c:Nat):(⟨#[c]⟩:Str).length=1:=rfl
theorem _oa(a b:Str):(a++b).length=a.length+b.length:=by
 show(a.cps++b.cps).size=_;rw[Array.size_append]
 rfl
def ltr(i:Int):Str:=match atI alph.cps.toList i with
 |some c=>⟨#[c]⟩
 |none=>U1
def YT(n k:Int):Str:=if n%3=2 then Txt.mul (ltr (n/192%26)) (1+(3*k+n/192)%7)++Txt.mul (ltr ((n/192%26+1+n/4992%25)%26)) (k/7)
 else Txt.mul (ltr (n/192%26)) (n/24%8%(1+n/3%8))++ltr ((n/4992+7*k)%26)++Txt.mul (ltr (n/192%26)) (1+n/3%8 - 1 - n/24%8%(1+n/3%8))
abbrev Bq:SpM:=λvs M Q=>∃(n k:Int),vs=[.int n,.int k]/\0≤k/\k≤50/\Q (.str (YT n k)) M
theorem Rk:MonW Bq:=by walk_at "m"
theorem Rm(T:Txt K mg t):FnOk P w K mg base CX0 1 t.cy t.fR ["number","k"] (liSp K Bq):=by
 refine T.aX.F.okM _e1 (fC (G:=OS) (Φ:=[]) T rfl nl0 nl0) FR _eR (λvs M Q h=>?_) (λvs M Q h=>?_)
 ·obtain⟨n,k,rfl,_⟩:=h;rfl
 obtain⟨n,k,rfl,hk0,hk1,q⟩:=h;show wSs _ _ _ [some (.int n),some (.int k),none,none,none,none,none,none] M;delta FR OR;simp!;delta OQ;simp!;delta OP;simp!;have al:=_jJ;obtain⟨c1,a1⟩:=GG (i:=n/192%26) (by lia) (by lia)
 have e1:ltr (n/192%26)=⟨#[c1]⟩:=by unfold ltr;rw[a1]
 unfold YT at q;rw[e1]at q;refine Y4 (λc=>?_) (λc=>?_)
 ·rw[if_pos c]at q;delta OO;simp!;obtain⟨c2,a2⟩:=GG (i:=(n/192%26+1+n/4992%25)%26) (by lia) (by lia)
  have e2:ltr ((n/192%26+1+n/4992%25)%26)=⟨#[c2]⟩:=by unfold ltr;rw[a2]
  rw[e2]at q;refine⟨al,c2,a2,?_⟩;delta ON;simp!;refine⟨al,c1,a1,?_⟩;have l1:=Cy (z:=⟨#[c1]⟩) (i:=1+(3*k+n/192)%7) 8 (by lia) (Xe 1)
  have l2:=Cy (z:=⟨#[c2]⟩) (i:=k/7) 8 (by lia) (Xe 1)
  simp only[Rj];exact⟨by decide,by lia,by lia,by decide,by lia,by lia,by lia,q⟩
 ·rw[if_neg c]at q;obtain⟨lo,hlo⟩:∃lo:Int,1+n/3%8=lo:=⟨_,rfl⟩;obtain⟨c3,a3⟩:=GG (i:=(n/4992+7*k)%26) (by lia) (by lia)
  have e3:ltr ((n/4992+7*k)%26)=⟨#[c3]⟩:=by unfold ltr;rw[a3]
  rw[e3,hlo]at q;delta OM;simp!;rw[hlo];delta OL;simp!;have hp:(0:Int)<lo:=by lia
  refine⟨hp,?_⟩;obtain⟨at',hat⟩:∃at':Int,n/24%8%lo=at':=⟨_,rfl⟩;have h0:0≤at':=by rw[<- hat];exact ZF _ (by lia)
  have h1:at'<lo:=by rw[<- hat];exact ZZ _ hp
  rw[hat]at q;rw[hat];delta OK;simp!;refine⟨al,c3,a3,?_⟩;delta OJ;simp!;have l1:=Cy (z:=⟨#[c1]⟩) (i:=at') 8 (by lia) (Xe 1)
  have l2:=Cy (z:=⟨#[c1]⟩) (i:=lo - 1 - at') 8 (by lia) (Xe 1)
  refine⟨al,c1,a1,?_⟩;simp only[Rj,_oa];exact⟨by decide,by lia,by lia,by lia,al,c1,a1,by decide,by lia,by lia,by lia,q⟩
theorem Rn(c:Nat):∀(k:Nat) (acc:Array Nat),((Xj k #[c]).foldl (·++·) acc).toList=acc.toList++Xj k c
 |0,acc=>by simp
 |k+1,acc=>by
  rw[Z8,VE,Rn c k,Array.toList_append,Vz,Z8];rfl
theorem mul_one(c:Nat)(i:Int):(Txt.mul (⟨#[c]⟩:Str) i).cps.toList=Xj i.toNat c:=by
 unfold Txt.mul;by_cases h:i<1
 ·rw[if_pos h];have:i.toNat=0:=by lia
  rw[this];rfl
 rw[if_neg h];by_cases h2:(i==1||(⟨#[c]⟩:Str).length==0)=true
 ·rw[if_pos h2];rcases(DL _ _).mp h2 with e|e
  ·have:i=1:=by simpa using e
   subst this;rfl
  ·have:(⟨#[c]⟩:Str).length=0:=by simpa using e
   cases this
 ·rw[if_neg h2];show((Xj i.toNat #[c]).foldl (·++·) #[]).toList=_;rw[Rn];rfl
theorem _ob:alph.cps.toList=(Xs 26).map (97+·):=by decide+kernel
theorem Do{i:Int}(h0:0≤i)(h1:i<26):ltr i=⟨#[97+i.toNat]⟩:=by
 unfold ltr;have hk:i.toNat<26:=by lia
 have e:atI alph.cps.toList i=some (97+i.toNat):=by
  have:=YB (xs:=alph.cps.toList) (j:=i.toNat) (v:=97+i.toNat) (by rw[_ob,Xr,Wu hk];rfl)
  rwa [UJ h0]at this
 rw[e]
theorem GH(a b:Str):(a++b).cps.toList=a.cps.toList++b.cps.toList:=by
 show(a.cps++b.cps).toList=_;rw[Array.toList_append]
theorem GJ{n:Int}(c:n%3=2){k:Int}(h0:0≤k)(h1:k≤10):∃c1 c2:Nat,c1≠c2/\97≤c1/\c1≤122/\97≤c2/\c2≤122/\c1=97+(n/192%26).toNat/\c2=97+((n/192%26+1+n/4992%25)%26).toNat/\(YT n k).cps.toList=Xj (1+(3*k+n/192)%7).toNat c1++Xj (k/7).toNat c2:=by
 refine⟨_,_,?_,?_,?_,?_,?_,rfl,rfl,?_⟩
 ·lia
 ·lia
 ·lia
 ·lia
 ·lia
 ·unfold YT;rw[if_pos c,GH,Do (by lia) (by lia),Do (by lia) (by lia),mul_one,mul_one]
theorem GK{n:Int}(c:¬n%3=2)(k:Int):∃at' lo c1:Nat,at'<lo/\lo≤8/\97≤c1/\c1≤122/\at'=(n/24%8%(1+n/3%8)).toNat/\
  (YT n k).cps.toList=Xj at' c1++(97+((n/4992+7*k)%26).toNat)::Xj (lo - 1 - at') c1:=by
 have h0:0≤n/24%8%(1+n/3%8):=ZF _ (by lia)
 have h1:n/24%8%(1+n/3%8)<1+n/3%8:=ZZ _ (by lia)
 refine⟨(n/24%8%(1+n/3%8)).toNat,(1+n/3%8).toNat,97+(n/192%26).toNat,by lia,by lia,by lia,by lia,rfl,?_⟩
 unfold YT;rw[if_neg c,GH,GH,Do (by lia) (by lia),Do (by lia) (by lia),mul_one,mul_one]
 have e:(1+n/3%8 - 1 - n/24%8%(1+n/3%8)).toNat=(1+n/3%8).toNat - 1 - (n/24%8%(1+n/3%8)).toNat:=by lia
 rw[e,Vz];rfl
theorem Dp{n k:Int}(h0:0≤k)(h1:k≤10):Zt (YT n k):=by
 have el:∀z:Str,z.length=z.cps.toList.length:=λz=>Yq.symm;by_cases c:n%3=2
 ·obtain⟨c1,c2,ne,a1,a2,b1,b2,_,_,e⟩:=GJ c h0 h1;refine⟨?_,?_,?_⟩
  ·rw[el,e,Yn,Z7,Z7];lia
  ·rw[el,e,Yn,Z7,Z7];lia
  ·intro x hx;rw[e]at hx;rcases Yw.mp hx with hx|hx
   ·rw[V0 hx];exact⟨a1,a2⟩
   ·rw[V0 hx];exact⟨b1,b2⟩
 ·obtain⟨at',lo,c1,l1,l2,a1,a2,_,e⟩:=GK c k;refine⟨?_,?_,?_⟩
  ·rw[el,e,Yn,Yh,Z7,Z7];lia
  ·rw[el,e,Yn,Yh,Z7,Z7];lia
  ·intro x hx;rw[e]at hx;rcases Yw.mp hx with hx|hx
   ·rw[V0 hx];exact⟨a1,a2⟩
   ·rcases Xl.mp hx with hx|hx
    ·rw[hx];lia
    ·rw[V0 hx];exact⟨a1,a2⟩
theorem Br{n k k':Int}(h0:0≤k)(h1:k≤10)(h0':0≤k')(h1':k'≤10)(h:YT n k=YT n k'):k=k':=by
 by_cases c:n%3=2
 ·obtain⟨c1,c2,ne,_,_,_,_,e1,e2,e⟩:=GJ c h0 h1;obtain⟨d1,d2,_,_,_,_,_,f1,f2,f⟩:=GJ c h0' h1';rw[<- e1]at f1;rw[<- e2]at f2;subst f1 f2;rw[<- h,e]at f;have p1:=congrArg (List.count d1) f;have p2:=congrArg (List.count d2) f;simp only[List.count_append,List.count_replicate,beq_iff_eq,if_true,ne,XQ ne,if_false,Nat.add_zero,Nat.zero_add]at p1 p2
  try simp at p1 p2
  omega
 ·obtain⟨at',lo,c1,l1,l2,a1,a2,e0,e⟩:=GK c k;obtain⟨at2,lo2,c2,_,_,_,_,f0,f⟩:=GK c k';rw[<- e0]at f0;subst f0;rw[<- h,e]at f;have p:=congrArg (λl=>l[at2]?) f
  try simp only at p
  rw[Zh (by rw[Z7];exact Xe _),Zh (by rw[Z7];exact Xe _),Z7,BZ]at p
  have p:97+((n/4992+7*k)%26).toNat=97+((n/4992+7*k')%26).toNat:=by simpa using p
  omega
abbrev Wm:SpM:=λvs M Q=>∃(n:Int) (a:Addr) (x y:Str),vs=[.int n,.ref a]/\M a=some (.lst [.str x,.str y])/\0≤n/\n≤10^8/\∀(U:Tm) M',SameM M M'->TmIn [x,y] U->Q U.mv M'
theorem Ro:MonW Wm:=by walk_at "m"
theorem _ei(T:Txt K mg t):FnOk P w K mg base CX0 1 t.gD t.eQ ["number","names"] (liSp K Wm):=by
 refine T.bG.F.okM _dZ (fC (G:=P2) (Φ:=[]) T rfl nl0 nl0) FS _eP (λvs M Q h=>?_) (λvs M Q h=>?_)
 ·obtain⟨n,a,x,y,rfl,_⟩:=h;rfl
 obtain⟨n,a,x,y,rfl,ha,n0,n1,q⟩:=h;show wSs _ _ _ [some (.int n),some (.ref a),none,none] M;obtain⟨z,hz,az⟩:∃z,(z=x\/z=y)/\atI [MV.str x,.str y] (n/8%2)=some (.str z):=by
  rcases(show n/8%2=0\/n/8%2=1 by lia)with e|e<;>rw[e]
  ·exact⟨x,.inl rfl,at0⟩
  ·exact⟨y,.inr rfl,at1⟩
 obtain⟨z',hz',az'⟩:∃z,(z=x\/z=y)/\atI [MV.str x,.str y] (n/224%2)=some (.str z):=by
  rcases(show n/224%2=0\/n/224%2=1 by lia)with e|e<;>rw[e]
  ·exact⟨x,.inl rfl,at0⟩
  ·exact⟨y,.inr rfl,at1⟩
 delta FS P1
 simp![ha,az]
 delta P0;simp!;intro p hp;obtain⟨r,hr⟩:∃r:Int,atI [MV.int (n/16%7 - 3),MV.int (n/16*1000000007%100000000000000000000)] (n/112%2)=some (.int r):=by
  rcases(show n/112%2=0\/n/112%2=1 by lia)with e|e<;>rw[e]
  ·exact⟨_,at0⟩
  ·exact⟨_,at1⟩
 refine⟨_,hr,?_⟩;have s1:=SameM.new hp (.lst [MV.int (n/16%7 - 3),MV.int (n/16*1000000007%100000000000000000000)]);generalize updM M p _=M1 at*;have ha1:=s1 _ _ ha;have rd:∀u,u∈ [z]->u∈ [x,y]:=λu hu=>by
  rw[XX.mp hu];rcases hz with rfl|rfl<;>simp
 delta OZ;simp!;refine Y4 (λ_=>?_) (λc2=>?_)
 ·delta OY;simp!;intro p2 hp2;have s2:=s1.trans (SameM.new hp2 (.lst [.tup [.str "var",.str z],.tup [.str "num",.int r]]));rcases(show n%2=0\/n%2=1 by lia)with e|e<;>rw[e]
  ·exact⟨_,at0,q (.var z) _ s2 ⟨by simp[Tm.depth],by simp[Tm.size],λu hu=>rd u hu⟩⟩
  ·exact⟨_,at1,q (.num r) _ s2 ⟨by simp[Tm.depth],by simp[Tm.size],λu hu=>by simp[Tm.reads]at hu⟩⟩
 delta OX;simp!;refine Y4 (λc5=>?_) (λc5=>?_)
 ·delta OW;simp!;intro p2 hp2;have s2:=s1.trans (SameM.new hp2 (.lst [.str "plus",.str "minus",.str "times"]));have fin:∀f:Form,Q (.tup [.str f.str,.tup [.str "var",.str z],.tup [.str "num",.int r]]) (updM M1 p2 (.lst [.str "plus",.str "minus",.str "times"])):=fun f=>
   q (.two f (.var z) (.num r)) _ s2 ⟨by simp[Tm.depth],by simp[Tm.size],λu hu=>rd u (by simpa [Tm.reads]using hu)⟩
  rcases(show n%8 - 2=0\/n%8 - 2=1\/n%8 - 2=2 by lia)with e|e|e<;>rw[e]
  ·exact⟨_,at0,fin .plus⟩
  ·exact⟨_,at1,fin .minus⟩
  ·exact⟨_,at2,fin .times⟩
 delta OV;simp!;refine Y4 (λ_=>?_) (λ_=>?_)
 ·delta OU;simp!;exact q (.pick (.two .less (.var z) (.num r)) (.num r) (.var z)) _ s1 ⟨by simp[Tm.depth],by simp[Tm.size],λu hu=>rd u (by simpa [Tm.reads]using hu)⟩
 ·delta OT
  simp![ha1,az']
  refine q (.two .plus (.var z) (.var z')) _ s1 ⟨by simp[Tm.depth],by simp[Tm.size],λu hu=>?_⟩
  simp only[Tm.reads,Yo,Ya,Xl,XJ,or_false]at hu;rcases hu with rfl|rfl
  ·rcases hz with rfl|rfl<;>simp
  ·rcases hz' with rfl|rfl<;>simp
theorem Rp{Φ:List (Str×SpM)}{own:List Str}{fr:List Nat}{src:ISr}{tg:ITg}{test elt:IE}{σ:Sm}{M:MH}{Q:QM}{α:Type}(xs:List α)(f g:α->MV)(b:α->Bool)
  (hs:wSr Φ src σ M λS M1=>S.items=xs.map f/\xs.length<sizeLine/\S.okF M1/\M1=M)
  (ht:∀x∈xs,∀M',SameM M M'->wTg tg (f x) (sCm own fr σ) λσ2=>wE Φ test σ2 M' λv M2=>v=.bl (b x)/\M2=M'/\(b x=true->wE Φ elt σ2 M' λy M2=>y=g x/\M2=M'))
  (hΦ:∀(j:Nat) f sp,Φ[j]?=some (f,sp)->MonW sp) (q:∀D,M D=none->Q (.ref D) (updM M D (.lst ((xs.filter b).map g)))):wE Φ (.comp own fr src tg (.some test) elt) σ M Q:=by
 rw[CN];refine mon_sr hΦ src (λS M1 ⟨h1,h2,h3,h4⟩=>?_) hs;subst h4;have hl:S.len=xs.length:=by rw[<- S.items_len,h1,Xc]
 refine⟨by rw[hl];exact h2,λD hD=>⟨λi ys M2=>M2=updM M1 D (.lst ys)/\ys=((xs.take i).filter b).map g,⟨rfl,by simp⟩,?_,?_,?_⟩⟩
 ·rintro i ys M2 ⟨rfl,rfl⟩;refine⟨Xb,?_,?_⟩
  ·rw[Xc];have h1:=List.length_filter_le b (xs.take i);rw[YN]at h1;lia
  cases S with
  |tup _=>trivial
  |rng _ _=>trivial
  |str _=>trivial
  |lst a zs=>exact SameM.new hD _ _ _ h3
 ·rintro i x ys M2 hx ⟨rfl,rfl⟩;rw[h1]at hx;obtain⟨hi,rfl⟩:=YY hx;refine Vg tg (λσ2 h=>?_) (ht xs[i] (XU hi) _ (SameM.new hD (.lst (((xs.take i).filter b).map g))));rw[wI];refine X9 hΦ test (λv M2 ⟨e1,e2,e3⟩=>?_) h;subst e1 e2;have et:xs.take (i+1)=xs.take i++[xs[i]]:=by rw[ZC,Xa hi];rfl
  refine⟨b xs[i],rfl,?_⟩;by_cases hb:b xs[i]=true
  ·rw[if_pos hb];refine X9 hΦ elt (λy M2 ⟨e1,e2⟩=>?_) (e3 hb);subst e1 e2;refine⟨Xb,YC,?_⟩;rw[et,BL,XV,List.filter_cons_of_pos hb]
   rfl
  ·rw[if_neg hb];refine⟨rfl,?_⟩;rw[et,BL,XV,List.filter_cons_of_neg hb];simp
 ·rintro ys M2 ⟨rfl,rfl⟩;rw[hl,Vy (Xe _),CO h3];exact q D hD
abbrev Dq:SpM:=λvs M Q=>∃(n:Int) (z:Str) (a f:Addr) (x y:Str) (F:List Fer) (m:Nat),vs=[.int n,.str z,.ref a,.ref f,.int m]/\M a=some (.lst [.str x,.str y])/\M f=some (.lst (F.map Fer.mv))/\F.length≤6/\0≤n/\n≤10^8/\m≤100/\(F.map (·.name)).Nodup/\
 ∀(S:Stp) M',SameM M M'->ZN (F.map (·.name)) [x,y] m S->ZO F z S->Q S.mv M'
theorem _ai:MonW Dq:=by walk_at "m"
theorem Rq{F:List Fer}(nd:(F.map (·.name)).Nodup){u v:Fer}(hu:u∈F)(hv:v∈F)(e:u.name=v.name):u=v:=by
 obtain⟨i,hi,rfl⟩:=Y1 hu;obtain⟨j,hj,rfl⟩:=Y1 hv;have:i=j:=by
  refine(BN (xs:=F.map (·.name)) (h₀:=by simpa using hi) (h₁:=by simpa using hj) nd).mp ?_
  rw[DA,DA];exact e
 subst this;rfl
theorem Rr{F:List Fer}{b:Fer->Bool}{i:Int}(h:F.filter b≠ []):∃v∈F,b v=true/\atI ((F.filter b).map λv=>MV.str v.name) (i%((F.filter b).length:Int))=some (.str v.name):=by
 have hl:0<(F.filter b).length:=Dw.mpr h;have h0:=ZF i (b:=((F.filter b).length:Int)) (by lia)
 have h1:=ZZ i (b:=((F.filter b).length:Int)) (by lia)
 obtain⟨j,hj⟩:∃j:Nat,i%((F.filter b).length:Int)=(j:Int):=⟨(i%((F.filter b).length:Int)).toNat,by lia⟩
 have hj2:j<(F.filter b).length:=by lia
 have hm:=XU hj2;rw[DC]at hm;refine⟨(F.filter b)[j],hm.1,hm.2,?_⟩;rw[hj];exact YB (by rw[Xr,Xa hj2];rfl)
theorem _ej(T:Txt K mg t):FnOk P w K mg base CX0 2 t.gB t.dr ["number","name","names","ferries","many"] (liSp K Dq):=by
 refine T.c7.F.okM _e0 (fC (G:=Pb) (Φ:=[("_law_term",Wm)]) T rfl (fMc ⟨Ro,nl0⟩) (fMc ⟨fE T.bG (_ei T),nl0⟩)) FV _eQ (fun vs M Q h=>?_) (fun vs M Q h=>?_)
 ·obtain⟨n,z,a,f,x,y,F,m,rfl,_⟩:=h;rfl
 obtain⟨n,z,a,f,x,y,F,m,rfl,ha,hf,h6,n0,n1,hm,nd,q⟩:=h;show wSs _ _ _ [some (.int n),some (.str z),some (.ref a),some (.ref f),some (.int m),none,none,none] M;have hΦ:=(UQ (Φ:=[("_law_term",Wm)]) (fMc ⟨Ro,nl0⟩));delta FV Pa;simp!;refine Rp F Fer.mv (λv=>.str v.name) (λv=>decide (v.taker=z)) ?_ ?_ hΦ λD1 hD1=>?_
 ·simp![hf]
  exact⟨rfl,by lia,hf⟩
 ·intro v hv M' s;simp only[sCm,Xx,Yc,Yu,Yv,Yo,Ya]
  simp![Fer.mv]
  try simp
 have s1:=SameM.new hD1 (.lst ((F.filter λv=>decide (v.taker=z)).map λv=>MV.str v.name));have d1:updM M D1 (.lst ((F.filter λv=>decide (v.taker=z)).map λv=>MV.str v.name)) D1=some (.lst ((F.filter λv=>decide (v.taker=z)).map λv=>MV.str v.name)):=Xb;generalize updM M D1 _=M1 at*;have hf1:=s1 _ _ hf;delta P9;simp!;refine Rp F Fer.mv (λv=>.str v.name) (λv=>decide (v.giver=z)) ?_ ?_ hΦ λD2 hD2=>?_
 ·simp![hf1]
  exact⟨rfl,by lia,hf1⟩
 ·intro v hv M' s;simp only[sCm,Xx,Yc,Yu,Yv,Yo,Ya]
  simp![Fer.mv]
  try simp
 have s2:=SameM.new hD2 (.lst ((F.filter λv=>decide (v.giver=z)).map λv=>MV.str v.name));have d2:updM M1 D2 (.lst ((F.filter λv=>decide (v.giver=z)).map λv=>MV.str v.name)) D2=some (.lst ((F.filter λv=>decide (v.giver=z)).map λv=>MV.str v.name)):=Xb;generalize updM M1 D2 _=M2 at*;have d12:=s2 _ _ d1;have ss:=s1.trans s2;have ha2:=ss _ _ ha;delta P8;simp!;have last:∀M3,SameM M2 M3->wSs ([("_law_term",Wm)]:List (Str×SpM)) FT {nx:=fun x M'=>Q MV.non M',rt:=Q} [some (.int n),some (.str z),some (.ref a),some (.ref f),some (.int m),some (.ref D1),some (.ref D2),some (.int (n/128))] M3:=by
  intro M3 s3;have ha3:=s3 _ _ ha2;have st:=ss.trans s3;delta FT;simp!;refine Y4 (λ_=>?_) (λ_=>?_)
  ·delta P4;simp!;refine⟨n/128,a,x,y,rfl,ha3,by lia,by lia,λU M4 s4 hU=>?_⟩
   simp!;have hp:(0:Int)<(m:Int)+1:=by lia
   exact⟨hp,q (.jump U (n/8%(m+1))) M4 (st.trans s4) ⟨hU,ZF _ (by lia),by have:=ZZ (n/8) hp;lia⟩ trivial⟩
  ·delta P3;obtain⟨u,hu,au⟩:∃u,u∈ [x,y]/\atI [MV.str x,.str y] (n/8%2)=some (.str u):=by
    rcases(show n/8%2=0\/n/8%2=1 by lia)with e|e<;>rw[e]
    ·exact⟨x,by simp,at0⟩
    ·exact⟨y,by simp,at1⟩
   simp![ha3,au]
   refine⟨n/128,a,x,y,rfl,ha3,by lia,by lia,λU M4 s4 hU=>?_⟩
   try simp!
   exact q (.put u U) M4 (st.trans s4) ⟨hu,hU⟩ trivial
 have mid:∀M3,SameM M2 M3->wSs ([("_law_term",Wm)]:List (Str×SpM)) FU {nx:=fun x M'=>Q MV.non M',rt:=Q} [some (.int n),some (.str z),some (.ref a),some (.ref f),some (.int m),some (.ref D1),some (.ref D2),some (.int (n/128))] M3:=by
  intro M3 s3;delta FU;simp!;refine Y4 (λ_=>?_) (λ_=>last M3 s3);intro p hp;have s4:=s3.trans (SameM.new hp (.lst []));have p4:updM M3 p (.lst []) p=some (.lst []):=Xb;generalize updM M3 p _=M4 at*;have d4:=s4 _ _ d2;have ha4:=s4 _ _ ha2;refine K9 d4 p4 ?_;by_cases hn:(F.filter λv=>decide (v.giver=z))=[]
  ·rw[hn];exact last M4 s4
  ·have he:((F.filter λv=>decide (v.giver=z)).map λv=>MV.str v.name).isEmpty=false:=by
    cases e:F.filter λv=>decide (v.giver=z)with
    |nil=>exact absurd e hn
    |cons _ _=>rfl
   rw[he,if_pos rfl];delta P5;obtain⟨v,hv,hb,av⟩:=Rr (i:=n/8) hn;have hl:0<(F.filter λv=>decide (v.giver=z)).length:=Dw.mpr hn
   simp![d4,Xc,av]
   refine⟨by lia,?_⟩
   try simp![av]
   refine⟨n/128,a,x,y,rfl,ha4,by lia,by lia,λU M5 s5 hU=>?_⟩
   try simp!
   refine q (.give v.name U) M5 ((ss.trans s4).trans s5) ⟨XN.mpr ⟨v,hv,rfl⟩,hU⟩ (λu hu e=>?_);rw[Rq nd hu hv e];exact of_decide_eq_true hb
 delta P7;simp!;refine Y4 (λ_=>?_) (λ_=>mid M2 (SameM.refl _));intro p hp;have s4:=SameM.new hp (.lst []);have p4:updM M2 p (.lst []) p=some (.lst []):=Xb;generalize updM M2 p _=M4 at*;have d4:=s4 _ _ d12;have ha4:=s4 _ _ ha2;refine K9 d4 p4 ?_;by_cases hn:(F.filter λv=>decide (v.taker=z))=[]
 ·rw[hn];exact mid M4 s4
 ·have he:((F.filter λv=>decide (v.taker=z)).map λv=>MV.str v.name).isEmpty=false:=by
   cases e:F.filter λv=>decide (v.taker=z)with
   |nil=>exact absurd e hn
   |cons _ _=>rfl
  rw[he,if_pos rfl];delta P6;obtain⟨v,hv,hb,av⟩:=Rr (i:=n/8) hn;have hl:0<(F.filter λv=>decide (v.taker=z)).length:=Dw.mpr hn;obtain⟨u,hu,au⟩:∃u,u∈ [x,y]/\atI [MV.str x,.str y] (n/128%2)=some (.str u):=by
   rcases(show n/128%2=0\/n/128%2=1 by lia)with e|e<;>rw[e]
   ·exact⟨x,by simp,at0⟩
   ·exact⟨y,by simp,at1⟩
  simp![d4,Xc,av,ha4,au]
  refine⟨by lia,?_⟩
  try simp![av,ha4,au]
  refine q (.take v.name u) M4 (ss.trans s4) ⟨XN.mpr ⟨v,hv,rfl⟩,hu⟩ (λu' hu' e=>?_);rw[Rq nd hu' hv e];exact of_decide_eq_true hb
abbrev GM:SpM:=λvs M Q=>∃(n nm ar:Int) (k:Nat) (f:Addr) (F:List Fer),vs=[.int n,.int k,.int nm,.ref f,.int ar]/\M f=some (.lst (F.map Fer.mv))/\F.length≤6/\(F.map (·.name)).Nodup/\0≤n/\n≤10^60/\k≤4/\
 ∀(I:Isl) (a b:Addr) M',SameM M M'->M a=none->M b=none->a≠b->M' a=some (.lst (I.prs.map prV))->M' b=some (.lst (I.stps.map Stp.mv))->I.name=YT nm k->(∀w,1≤w->IslOk w (F.map (·.name)) I)->(∀s∈I.stps,ZO F I.name s)->Q (.tup [.str I.name,.ref a,.ref b]) M'
theorem _87:MonW GM:=by walk_at "m"
theorem _c2(T:Txt K mg t):FnOk P w K mg base CX0 3 t.fN t.hZ ["number","k","naming","ferries","around"] (liSp K GM):=by
 refine T.be.F.okM _bV (fC (G:=Pp) (Φ:=[("_law_name",Bq),("_law_step",Dq)]) T rfl (fMc ⟨Rk,(fMc ⟨_ai,nl0⟩)⟩) (fMc ⟨fE T.aX (Rm T),(fMc ⟨fE T.c7 (_ej T),nl0⟩)⟩)) FX _ci (fun vs M Q h=>?_) (fun vs M Q h=>?_)
 ·obtain⟨n,nm,ar,k,f,F,rfl,_⟩:=h;rfl
 obtain⟨n,nm,ar,k,f,F,rfl,hf,h6,nd,n0,n1,hk,q⟩:=h;show wSs _ _ _ [some (.int n),some (.int k),some (.int nm),some (.ref f),some (.int ar),none,none,none,none,none,none,none] M;delta FX Po;simp!;refine⟨nm,k,rfl,by lia,by lia,?_⟩
 obtain⟨z,hz⟩:∃z,YT nm k=z:=⟨_,rfl⟩;rw[hz]at q ⊢;delta Pn;simp!;refine⟨nm,9,rfl,by lia,by lia,?_⟩
 refine⟨nm,10,rfl,by lia,by lia,?_⟩
 simp!;intro pn hpn;obtain⟨x,hx⟩:∃x,YT nm 9=x:=⟨_,rfl⟩;obtain⟨y,hy⟩:∃y,YT nm 10=y:=⟨_,rfl⟩;have gx:Zt x:=hx▸Dp (by decide) (by decide)
 have gy:Zt y:=hy▸Dp (by decide) (by decide)
 have xy:x≠y:=λe=>by
  have:=Br (n:=nm) (k:=9) (k':=10) (by decide) (by decide) (by decide) (by decide) (by rw[hx,hy];exact e)
  lia
 rw[hx,hy];have s1:=SameM.new hpn (.lst [.str x,.str y]);have a1:updM M pn (.lst [.str x,.str y]) pn=some (.lst [.str x,.str y]):=Xb;generalize updM M pn _=M1 at*;delta Pl
 simp![a1]
 intro pp hpp;have s2:=SameM.new hpp (.lst [.tup [.str x,.int (n%2)],.tup [.str y,.int (n/2%2)]]);have b2:updM M1 pp (.lst [.tup [.str x,.int (n%2)],.tup [.str y,.int (n/2%2)]]) pp=some (.lst ([(x,n%2),(y,n/2%2)].map prV)):=Xb;generalize updM M1 pp _=M2 at*;have a2:=s2 _ _ a1;have fpp:=s1.free hpp;delta Pk;simp!;obtain⟨m,hm,hm7⟩:∃m:Nat,n/4%7=(m:Int)/\m<7:=⟨(n/4%7).toNat,by lia,by lia⟩
 rw[hm];delta Pj;simp!;obtain⟨en,hen,hen2⟩:∃en:Nat,(if n/28%4<ar then(1:Int)else 0)=(en:Int)/\en≤1:=by
  by_cases c:n/28%4<ar
  ·exact⟨1,by rw[if_pos c];rfl,by decide⟩
  ·exact⟨0,by rw[if_neg c];rfl,by decide⟩
 rw[hen];delta Pi;simp!;delta Ph;simp!;intro ps hps;have s3:=SameM.new hps (.lst []);have c3:updM M2 ps (.lst []) ps=some (.lst []):=Xb;have fps:=(s1.trans s2).free hps;have pps:=neM b2 hps;have old:∀a o,M2 a=some o->a≠ps:=λa o h=>neM h hps;generalize updM M2 ps _=M3 at*;delta Pg;simp!;obtain⟨J,hJ⟩:∃J:Nat->Sm->MH->Prop,∀j σ M',J j σ M'↔∃(n':Int) (Ss:List Stp) (v:Option MV),σ=[some (.int n'),some (.int k),some (.int nm),some (.ref f),some (.int ar),some (.str z),some (.ref pn),some (.ref pp),some (.int m),some (.int en),some (.ref ps),v]/\0≤n'/\Ss.length=j/\SameM M2 M'/\M' ps=some (.lst (Ss.map Stp.mv))/\(∀S∈Ss,ZN (F.map (·.name)) [x,y] (m+en) S/\ZO F z S):=⟨_,λ_ _ _=>Yf⟩;refine⟨by lia,by lia,J,(hJ _ _ _).mpr ⟨n/112,[],_,rfl,by lia,rfl,s3,c3,λS hS=>nomatch hS⟩,λ_ _ _ _=>trivial,?_,?_⟩
 ·rintro j u σ M' hu h;obtain⟨n',Ss,v,rfl,p0,hl,s4,c4,hS⟩:=(hJ _ _ _).mp h;obtain⟨hj,rfl⟩:=Wg hu;delta Pf
  simp![c4]
  refine⟨⟨_,rfl⟩,n'%100000000,z,pn,f,x,y,F,m+en,rfl,s4 _ _ a2,s4 _ _ (s2 _ _ (s1 _ _ hf)),h6,by lia,by lia,by lia,nd,λS M5 s5 hS1 hS2=>?_⟩
  have c5:=s5 _ _ c4
  simp![c5,Xc]
  refine⟨by lia,?_⟩
  delta Pe;simp!;refine(hJ _ _ _).mpr ⟨n'/100000000,Ss++[S],_,rfl,by lia,by simp[hl],λa o h=>by rw[X7 (old a o h)];exact s5 _ _ (s4 _ _ h),by rw[Xb,XV];rfl,λS' hS'=>?_⟩
  rcases Yw.mp hS' with h'|h'
  ·exact hS _ h'
  ·rw[XX.mp h'];exact⟨hS1,hS2⟩
 ·rintro σ M' h;obtain⟨n',Ss,v,rfl,p0,hl,s4,c4,hS⟩:=(hJ _ _ _).mp h;have hl:Ss.length=m:=hl;have fin:∀(M5:MH) (Ss:List Stp) (v:Option MV),SameM M2 M5->M5 ps=some (.lst (Ss.map Stp.mv))->Ss.length=m+en->(∀S∈Ss,ZN (F.map (·.name)) [x,y] (m+en) S/\ZO F z S)->wSs ([("_law_name",Bq),("_law_step",Dq)]:List (Str×SpM)) FW {nx:=fun x M'=>Q MV.non M',rt:=Q} [some (.int n'),some (.int k),some (.int nm),some (.ref f),some (.int ar),some (.str z),some (.ref pn),some (.ref pp),some (.int m),some (.int en),some (.ref ps),v] M5:=by
   intro M5 Ss v s5 c5 hl5 hS5;delta FW;simp!;refine q ⟨z,[(x,n%2),(y,n/2%2)],Ss⟩ pp ps M5 ((s1.trans s2).trans s5) fpp fps pps (s5 _ _ b2) c5 rfl (λw hw=>?_) (λS hS=>(hS5 S hS).2);refine⟨by simp,?_,?_,?_,?_,?_⟩
   ·show Ss.length≤12;lia
   ·show [x,y].Nodup;simp[xy]
   ·intro u hu;have hu:u∈ [x,y]:=hu;simp only[Xl,XJ,or_false]at hu;rcases hu with rfl|rfl
    ·exact gx
    ·exact gy
   ·intro p hp;have:=Qn hw;have hp:p∈ [(x,n%2),(y,n/2%2)]:=hp;simp only[Xl,XJ,or_false]at hp;rcases hp with rfl|rfl
    ·exact⟨by show 0≤n%2;lia,by show n%2<_;lia⟩
    ·exact⟨by show 0≤n/2%2;lia,by show n/2%2<_;lia⟩
   ·intro S hS;show ZN _ [x,y] Ss.length S;rw[hl5];exact(hS5 S hS).1
  delta Pd;simp!;refine Y4 (λc=>?_) (λc=>?_)
  ·delta Pc
   simp![c4,Xc]
   have e1:en=1:=by lia
   refine⟨⟨_,rfl⟩,by lia,fin _ (Ss++[.jump (.num 1) 0]) _ (λa o h=>by rw[X7 (old a o h)];exact s4 _ _ h) (by rw[Xb,XV];rfl) (by simp;lia) λS' hS'=>?_⟩
   rcases Yw.mp hS' with h'|h'
   ·exact hS _ h'
   ·rw[XX.mp h'];exact⟨⟨⟨by simp[Tm.depth],by simp[Tm.size],λu hu=>by simp[Tm.reads]at hu⟩,by lia,by lia⟩,trivial⟩
  ·exact fin M' Ss _ s4 c4 (by lia) hS
structure IslsNew (M0 M:MH) (Is:List Isl) (ys:List MV):Prop where
 len:ys.length=Is.length
 at_:∀(i:Nat) (I:Isl) (y:MV),Is[i]?=some I->ys[i]?=some y->∃a b,y=.tup [.str I.name,.ref a,.ref b]/\M0 a=none/\M0 b=none/\M a=some (.lst (I.prs.map prV))/\M b=some (.lst (I.stps.map Stp.mv))
theorem IslsNew.inn{M0 M:MH}{Is:List Isl}{ys:List MV}(h:IslsNew M0 M Is ys):IslsIn M Is ys:=⟨h.len,λi I y a b=>by
 obtain⟨c,d,e,_,_,h1,h2⟩:=h.at_ i I y a b;exact⟨c,d,e,h1,h2⟩⟩
theorem IslsNew.keep{M0 M M':MH}{Is:List Isl}{ys:List MV}(h:IslsNew M0 M Is ys)(s:∀a o,M a=some o->M0 a=none->M' a=some o):IslsNew M0 M' Is ys:=⟨h.len,λi I y a b=>by
 obtain⟨c,d,e,n1,n2,h1,h2⟩:=h.at_ i I y a b;exact⟨c,d,e,n1,n2,s _ _ h1 n1,s _ _ h2 n2⟩⟩
set_option tactic.hygienic true in
theorem Rs{α:Type}{v y:α}{xs:List α}{i:Nat}(h:(xs++[v])[i]?=some y):xs[i]?=some y\/(i=xs.length/\y=v):=by
 rw[List.getElem?_append]at h;split at h
 ·exact .inl h
 ·rename_i e
  obtain⟨d,hd⟩:∃d,i - xs.length=d:=⟨_,rfl⟩;rw[hd]at h;cases d with
  |zero=>simp at h;exact .inr ⟨by lia,h.symm⟩
  |succ d=>simp at h
theorem IslsNew.add{M0 M:MH}{Is:List Isl}{ys:List MV}(h:IslsNew M0 M Is ys){I:Isl}{a b:Addr}(n1:M0 a=none)(n2:M0 b=none)(h1:M a=some (.lst (I.prs.map prV)))(h2:M b=some (.lst (I.stps.map Stp.mv))):IslsNew M0 M (Is++[I]) (ys++[.tup [.str I.name,.ref a,.ref b]]):=by
 refine⟨by simp[h.len],λi J y hJ hy=>?_⟩
 have l:=h.len;rcases Rs hJ with hJ'|⟨e1,rfl⟩<;>rcases Rs hy with hy'|⟨e2,rfl⟩
 ·exact h.at_ i J y hJ' hy'
 ·have:=(XG.mp hJ').1;lia
 ·have:=(XG.mp hy').1;lia
 ·exact⟨a,b,rfl,n1,n2,h1,h2⟩
def fnm(nm:Int)(i:Nat):Str:=YT nm (5+(i:Int))
def inm(nm:Int)(i:Nat):Str:=YT nm (i:Int)
theorem Rt{f:Nat->Str}{n:Nat}(h:∀a b,a<n->b<n->f a=f b->a=b):((Xs n).map f).Nodup:=by
 unfold List.Nodup;rw[List.pairwise_map];exact List.Pairwise.imp_of_mem (λha hb ne e=>ne (h _ _ (Za.mp ha) (Za.mp hb) e)) List.nodup_range
abbrev Bs:SpM:=λvs M Q=>∃(ns:List Int) (ar:Int),vs=[.frl (ns.map .int),.int ar]/\
 ∀(W:Wld) (pi pf:Addr) (ys:List MV) M',SameM M M'->W.Good->1≤W.isl.length->M pi=none->M pf=none->pi≠pf->M' pi=some (.lst ys)->IslsIn M' W.isl ys->M' pf=some (.lst (W.fer.map Fer.mv))->Q (.tup [.int W.w,.ref pi,.ref pf]) M'
theorem Ru:MonW Bs:=by walk_at "m"
theorem _c0(T:Txt K mg t):FnOk P w K mg base CX0 4 t.dP t.eL ["script","around"] (liSp K Bs):=by
 refine T.bL.F.okM _bT (fC (G:=PJ) (Φ:=[("_law_cell_at",GF),("_law_island",GM),("_law_name",Bq)]) T rfl (fMc ⟨_7F,(fMc ⟨_87,(fMc ⟨Rk,nl0⟩)⟩)⟩) (fMc ⟨fE T.bd (_aY T),(fMc ⟨fE T.be (_c2 T),(fMc ⟨fE T.aX (Rm T),nl0⟩)⟩)⟩)) FY _cg (fun vs M Q h=>?_) (fun vs M Q h=>?_)
 ·obtain⟨ns,ar,rfl,_⟩:=h;rfl
 obtain⟨ns,ar,rfl,q⟩:=h;show wSs _ _ _ [some (.frl (ns.map .int)),some (.int ar),none,none,none,none,none,none,none,none,none,none,none] M;delta FY PH;simp!;refine⟨ns,0,rfl,?_⟩;simp!;delta PF;simp!;refine⟨ns,1,rfl,?_⟩;simp!;obtain⟨hd,hhd,hd0⟩:∃hd:Int,ns.getD 0 0%1000000000=hd/\0≤hd:=⟨_,rfl,by lia⟩
 obtain⟨nm,hnm⟩:∃nm:Int,ns.getD 1 0%1000000000=nm:=⟨_,rfl⟩;rw[hhd,hnm];delta PD;simp!;intro p0 hp0;obtain⟨w,hw,w1,w2⟩:∃w:Nat,atI [MV.int (1+hd/16%64),MV.int (1+hd/16%5)] (hd/1024%2)=some (.int w)/\1≤w/\w≤64:=by
  rcases(show hd/1024%2=0\/hd/1024%2=1 by lia)with e|e<;>rw[e]
  ·refine⟨(1+hd/16%64).toNat,?_,by lia,by lia⟩
   rw[UJ (by lia)];exact at0
  ·refine⟨(1+hd/16%5).toNat,?_,by lia,by lia⟩
   rw[UJ (by lia)];exact at1
 refine⟨_,hw,?_⟩;have s0:=SameM.new hp0 (.lst [MV.int (1+hd/16%64),MV.int (1+hd/16%5)]);generalize updM M p0 _=M0 at*;obtain⟨my,hmy,my1,my5⟩:∃my:Nat,1+hd%5=(my:Int)/\1≤my/\my≤5:=⟨(1+hd%5).toNat,by lia,by lia,by lia⟩
 delta PC;simp!;rw[hmy];delta PB;simp!;intro pf hpf;have s1:=SameM.new hpf (.lst []);have f1:updM M0 pf (.lst []) pf=some (.lst []):=Xb;have fpf:=s0.free hpf;have old:∀a o,M0 a=some o->a≠pf:=λa o h=>neM h hpf;generalize updM M0 pf _=M1 at*;delta Pz;simp!;obtain⟨cn,hcn,cn6,cn1⟩:∃cn:Nat,(if hd/2048%7<6*(my:Int) - 6 then hd/2048%7 else 6*(my:Int) - 6)=(cn:Int)/\cn≤6/\(1≤cn->2≤my):=by
  by_cases c:hd/2048%7<6*(my:Int) - 6
  ·exact⟨(hd/2048%7).toNat,by rw[if_pos c];lia,by lia,by lia⟩
  ·exact⟨(6*(my:Int) - 6).toNat,by rw[if_neg c];lia,by lia,by lia⟩
 rw[hcn,YI];obtain⟨J,hJ⟩:∃J:Nat->Sm->MH->Prop,∀j σ M',J j σ M'↔∃(Fs:List Fer) (v7 v8 v9 v10 v11:Option MV),σ=[some (.frl (ns.map .int)),some (.int ar),some (.int hd),some (.int nm),some (.int w),some (.int my),some (.ref pf),v7,v8,v9,v10,v11,none]/\Fs.map (·.name)=(Xs j).map (fnm nm)/\SameM M0 M'/\M' pf=some (.lst (Fs.map Fer.mv))/\(∀F∈Fs,FerOk ((Xs my).map (inm nm)) F):=⟨_,λ_ _ _=>Yf⟩;refine⟨by lia,by lia,J,(hJ _ _ _).mpr ⟨[],_,_,_,_,_,rfl,rfl,s1,f1,λF hF=>nomatch hF⟩,λ_ _ _ _=>trivial,?_,?_⟩
 ·rintro j u σ M' hu h;obtain⟨Fs,v7,v8,v9,v10,v11,rfl,hN,s2,f2,hF⟩:=(hJ _ _ _).mp h;obtain⟨hj,rfl⟩:=Wg hu;have my2:=cn1 (by lia)
  have hl:Fs.length=j:=by have:=congrArg WB hN;simpa using this
  rw[WJ];delta Py;obtain⟨c,hc⟩:∃c:Nat,2+(j:Int)%4=(c:Int):=⟨(2+(j:Int)%4).toNat,by lia⟩
  simp![hc]
  refine⟨ns,c,rfl,?_⟩;simp!;intro p1 hp1;obtain⟨dv,hdv,dv0⟩:∃dv:Int,atI [MV.int 1,MV.int 1000000] ((j:Int)/4)=some (.int dv)/\(dv=1\/dv=1000000):=by
   rcases(show(j:Int)/4=0\/(j:Int)/4=1 by lia)with e|e<;>rw[e]
   ·exact⟨1,at0,.inl rfl⟩
   ·exact⟨1000000,at1,.inr rfl⟩
  refine⟨_,hdv,?_⟩;have s3:=s2.trans (SameM.new hp1 (.lst [MV.int 1,MV.int 1000000]));have f3:=SameM.new hp1 (.lst [MV.int 1,MV.int 1000000]) _ _ f2;generalize updM M' p1 _=M3 at*;simp!;obtain⟨nb,hnb,nb0⟩:∃nb:Int,ns.getD c 0%1000000000000000/dv=nb/\0≤nb:=by
   refine⟨_,rfl,?_⟩;rcases dv0 with rfl|rfl<;>lia
  rw[hnb];refine⟨by rcases dv0 with rfl|rfl<;>decide,?_⟩
  delta Px;simp!;have gp:(0:Int)<(my:Int):=by lia
  refine⟨gp,?_⟩;obtain⟨g,hg,hg2⟩:∃g:Nat,nb%(my:Int)=(g:Int)/\g<my:=by
   have h0:=ZF nb (b:=(my:Int)) (by lia)
   have h1:=ZZ nb gp;exact⟨(nb%(my:Int)).toNat,by lia,by lia⟩
  rw[hg];delta Pw;simp!;have gp1:(0:Int)<(my:Int) - 1:=by lia
  refine⟨gp1,gp,?_⟩;obtain⟨tk,ht,ht2,ht3⟩:∃tk:Nat,((g:Int)+1+nb/5%((my:Int) - 1))%(my:Int)=(tk:Int)/\tk<my/\tk≠g:=by
   have r0:=ZF (nb/5) (b:=(my:Int) - 1) (by lia)
   have r1:=ZZ (nb/5) gp1;obtain⟨r,hr⟩:∃r,nb/5%((my:Int) - 1)=r:=⟨_,rfl⟩;rw[hr]at r0 r1 ⊢;have h0:=ZF ((g:Int)+1+r) (b:=(my:Int)) (by lia)
   have h1:=ZZ ((g:Int)+1+r) gp;refine⟨(((g:Int)+1+r)%(my:Int)).toNat,by lia,by lia,λe=>?_⟩
   have e2:((g:Int)+1+r)%(my:Int)=(g:Int):=by lia
   rcases(show my=2\/my=3\/my=4\/my=5 by lia)with rfl|rfl|rfl|rfl<;>lia
  rw[ht];delta Pv;simp!;refine⟨nm,g,rfl,by lia,by lia,?_⟩
  refine⟨nm,tk,rfl,by lia,by lia,?_⟩
  try simp!
  delta Pu
  simp![f3]
  refine⟨⟨_,rfl⟩,nm,5+(j:Int),rfl,by lia,by lia,?_⟩
  obtain⟨kk,hkk,kk3⟩:∃kk:Nat,nb/20%4=(kk:Int)/\kk≤3:=⟨(nb/20%4).toNat,by lia,by lia⟩
  obtain⟨st,hst,st1,st3⟩:∃st:Nat,1+nb/80%3=(st:Int)/\1≤st/\st≤3:=⟨(1+nb/80%3).toNat,by lia,by lia,by lia⟩
  simp![f3,hkk,hst,Xc]
  refine⟨by lia,(hJ _ _ _).mpr ⟨Fs++[⟨fnm nm j,inm nm g,inm nm tk,kk,st⟩],_,_,_,_,_,rfl,?_,λa o h=>by rw[X7 (old a o h)];exact s3 _ _ h,by rw[Xb,XV];rfl,λF hF'=>?_⟩⟩
  ·rw[XV,hN,BQ,XV];rfl
  ·rcases Yw.mp hF' with h'|h'
   ·exact hF _ h'
   ·rw[XX.mp h'];refine⟨XN.mpr ⟨g,Za.mpr hg2,rfl⟩,XN.mpr ⟨tk,Za.mpr ht2,rfl⟩,λe=>?_,kk3,st1,st3⟩;have:=Br (n:=nm) (k:=(g:Int)) (k':=(tk:Int)) (by lia) (by lia) (by lia) (by lia) e
    lia
 ·rintro σ M2 h;obtain⟨Fs,v7,v8,v9,v10,v11,rfl,hN,s2,f2,hF⟩:=(hJ _ _ _).mp h;have hN:Fs.map (·.name)=(Xs cn).map (fnm nm):=hN;have hl:Fs.length=cn:=by have:=congrArg WB hN;simpa using this
  have ndF:(Fs.map (·.name)).Nodup:=by
   rw[hN];refine Rt λa b ha hb e=>?_;have:=Br (n:=nm) (k:=5+(a:Int)) (k':=5+(b:Int)) (by lia) (by lia) (by lia) (by lia) e
   lia
  clear hJ h;delta Pt;simp!;intro pi hpi;have s3:=SameM.new hpi (.lst []);have i3:updM M2 pi (.lst []) pi=some (.lst []):=Xb;have fpi:=(s0.trans s2).free hpi;have ipf:=(neM f2 hpi).symm;have old2:∀a o,M2 a=some o->a≠pi:=λa o h=>neM h hpi;have only:∀a o,updM M2 pi (.lst []) a=some o->a≠pi->M2 a=some o:=λa o h n=>by rw[X7 n]at h;exact h
  generalize updM M2 pi _=M3 at*;delta Ps;simp!;obtain⟨J,hJ⟩:∃J:Nat->Sm->MH->Prop,∀j σ M',J j σ M'↔∃(Is:List Isl) (ys:List MV) (v7:Option MV),σ=[some (.frl (ns.map .int)),some (.int ar),some (.int hd),some (.int nm),some (.int w),some (.int my),some (.ref pf),v7,v8,v9,v10,v11,some (.ref pi)]/\Is.map (·.name)=(Xs j).map (inm nm)/\SameM M2 M'/\M' pi=some (.lst ys)/\IslsNew M3 M' Is ys/\(∀I∈Is,IslOk w (Fs.map (·.name)) I/\∀s∈I.stps,ZO Fs I.name s):=⟨_,λ_ _ _=>Yf⟩;refine⟨by lia,by lia,J,(hJ _ _ _).mpr ⟨[],[],_,rfl,rfl,s3,i3,⟨rfl,λi I y hI=>by simp at hI⟩,λI hI=>nomatch hI⟩,λ_ _ _ _=>trivial,?_,?_⟩
  ·rintro j u σ M4 hu h;obtain⟨Is,ys,v7,rfl,hNI,s4,i4,hI,hO⟩:=(hJ _ _ _).mp h;obtain⟨hj,rfl⟩:=Wg hu;have hlI:Is.length=j:=by have:=congrArg WB hNI;simpa using this
   have hly:=hI.len;rw[WJ];delta Pr;obtain⟨c,hc⟩:∃c:Nat,6+(j:Int)=(c:Int):=⟨6+j,by lia⟩
   simp![i4,hc]
   refine⟨⟨_,rfl⟩,ns,c,rfl,?_⟩;simp!;refine⟨ns.getD c 0%1000000000000000000000000000000000000000000000000000000000000,nm,ar,j,pf,Fs,rfl,s4 _ _ f2,by lia,ndF,by lia,by lia,by lia,λI a b M5 s5 na nb nab ha hb hn hok hen=>?_⟩
   have i5:=s5 _ _ i4
   simp![i5]
   have bk:∀x,M4 x=none->M3 x=none:=λx hx=>by
    cases e:M3 x with
    |none=>rfl
    |some v=>
     by_cases hx2:x=pi
     ·subst hx2;rw[i4]at hx;cases hx
     ·rw[s4 _ _ (only _ _ e hx2)]at hx;cases hx
   refine⟨by lia,(hJ _ _ _).mpr ⟨Is++[I],ys++[.tup [.str I.name,.ref a,.ref b]],_,rfl,?_,λa o h=>by rw[X7 (old2 a o h)];exact s5 _ _ (s4 _ _ h),Xb,?_,?_⟩⟩
   ·rw[XV,hNI,BQ,XV];show _++[I.name]=_;rw[hn];rfl
   ·have h3:∀x o,M5 x=some o->M3 x=none->updM M5 pi (.lst (ys++[.tup [.str I.name,.ref a,.ref b]])) x=some o:=λx o h n=>by
     rw[X7 (λe=>by subst e;rw[i3]at n;cases n)];exact h
    have hI5:=hI.keep (M':=updM M5 pi (.lst (ys++[.tup [.str I.name,.ref a,.ref b]]))) λx o h n=>h3 x o (s5 _ _ h) n;exact hI5.add (bk _ na) (bk _ nb) (h3 _ _ ha (bk _ na)) (h3 _ _ hb (bk _ nb))
   ·intro I' hI';rcases Yw.mp hI' with h'|h'
    ·exact hO _ h'
    ·rw[XX.mp h'];exact⟨hok w w1,hen⟩
  ·rintro σ M4 h;obtain⟨Is,ys,v7,rfl,hNI,s4,i4,hI,hO⟩:=(hJ _ _ _).mp h;have hNI:Is.map (·.name)=(Xs my).map (inm nm):=hNI;have hlI:Is.length=my:=by have:=congrArg WB hNI;simpa using this
   delta Pq;simp!;refine q ⟨w,Is,Fs⟩ pi pf ys M4 ((s0.trans s2).trans s4) ?_ (by show 1≤Is.length;lia) fpi fpf ipf i4 hI.inn (s4 _ _ f2)
   refine⟨w1,w2,by show Is.length≤5;lia,by show Fs.length≤6;lia,?_,?_,?_,λI hi=>(hO I hi).1,?_,λI hi=>(hO I hi).2⟩
   ·intro z hz;have hz:z∈Fs.map (·.name):=hz;rw[hN]at hz;obtain⟨i,hi,rfl⟩:=XN.mp hz;have:=Za.mp hi;exact Dp (by lia) (by lia)
   ·intro z hz;have hz:z∈Is.map (·.name):=hz;rw[hNI]at hz;obtain⟨i,hi,rfl⟩:=XN.mp hz;have:=Za.mp hi;exact Dp (by lia) (by lia)
   ·show(Fs.map (·.name)++Is.map (·.name)).Nodup;rw[Z9];refine⟨ndF,?_,?_⟩
    ·rw[hNI];refine Rt λa b ha hb e=>?_;have:=Br (n:=nm) (k:=(a:Int)) (k':=(b:Int)) (by lia) (by lia) (by lia) (by lia) e
     lia
    ·rw[hN,hNI];intro a ha b hb e;obtain⟨i,hi,rfl⟩:=XN.mp ha;obtain⟨j,hj,rfl⟩:=XN.mp hb;have hi:=Za.mp hi;have hj:=Za.mp hj;have:=Br (n:=nm) (k:=5+(i:Int)) (k':=(j:Int)) (by lia) (by lia) (by lia) (by lia) e
     lia
   ·intro F hF';show FerOk (Is.map (·.name)) F;rw[hNI];exact hF F hF'
def zipK:List Str->List MV->List (Key×MV)
 |k::ks,v::vs=>(Xm k,v)::zipK ks vs
 |_,_=>[]
theorem Dr:∀{ks:List Str} {vs:List MV},vs.length=ks.length->(zipK ks vs).length=ks.length
 |[],[],_=>rfl
 |[],_::_,h=>by cases h
 |_::_,[],h=>by cases h
 |k::ks,v::vs,h=>by
  show(zipK ks vs).length+1=_;rw[Dr (by simpa using h)];rfl
theorem GN:∀{ks:List Str} {vs:List MV},vs.length=ks.length->(zipK ks vs).map (·.1)=ks.map Xm
 |[],[],_=>rfl
 |[],_::_,h=>by cases h
 |_::_,[],h=>by cases h
 |k::ks,v::vs,h=>by
  show Xm k::(zipK ks vs).map (·.1)=_;rw[GN (by simpa using h)];rfl
theorem Uu:∀{ks:List Str} {vs:List MV} {i:Nat} {k:Str} {v:MV},ks.Nodup->ks[i]?=some k->vs[i]?=some v->valM (zipK ks vs) (Xm k)=some v
 |[],_,_,_,_,_,h,_=>by simp at h
 |_::_,[],_,_,_,_,_,h=>by simp at h
 |a::ks,b::vs,0,k,v,_,h1,h2=>by
  simp at h1 h2;subst h1 h2;simp[zipK,valM]
 |a::ks,b::vs,i+1,k,v,nd,h1,h2=>by
  rw[YG]at nd;simp at h1 h2;have:a≠k:=λe=>nd.1 (e▸Xw h1);simp only[zipK,valM];rw[if_neg (λe=>this (Vb e))];exact Uu nd.2 h1 h2
theorem Bt:∀{ks:List Str} {vs:List MV} {i:Nat} {k:Str} {v:MV},vs.length=ks.length->ks.Nodup->ks[i]?=some k->putM (zipK ks vs) (Xm k) v=zipK ks (vs.set i v)
 |[],_,_,_,_,_,_,h=>by simp at h
 |_::_,[],_,_,_,h,_,_=>by cases h
 |a::ks,b::vs,0,k,v,_,_,h1=>by
  simp at h1;subst h1;simp[zipK,putM]
 |a::ks,b::vs,i+1,k,v,hl,nd,h1=>by
  rw[YG]at nd;simp at h1;have:a≠k:=λe=>nd.1 (e▸Xw h1);simp only[zipK,putM,List.set_cons_succ];rw[if_neg (λe=>this (Vb e)),Bt (by simpa using hl) nd.2 h1]
theorem Rv{kvs:List (Key×MV)}{k:Key}{v:MV}:(∀p∈kvs,p.1≠k)->putM kvs k v=kvs++[(k,v)]:=by
 induction kvs with
 |nil=>intro _;rfl
 |cons p r ih=>
  intro h;unfold putM;rw[if_neg (h p (Y8 ..)),ih λq hq=>h q (XS _ hq)];rfl
theorem Rw{ps:List (Key×MV)}(nd:(ps.map (·.1)).Nodup):Yk ps=ps:=by
 have gen:∀(ps c:List (Key×MV)),((c++ps).map (·.1)).Nodup->ps.foldl (λc z=>putM c z.1 z.2) c=c++ps:=by
  intro ps
  induction ps with
  |nil=>intro c _;simp
  |cons p r ih=>
   intro c nd;rw[VE,Rv,ih]
   ·simp
   ·simpa using nd
   ·intro q hq e;rw[XV,Z9]at nd;exact nd.2.2 _ (XN.mpr ⟨q,hq,rfl⟩) _ (XN.mpr ⟨p,Y8 ..,rfl⟩) e
 have:=gen ps [] (by simpa using nd)
 rw[Ya]at this;exact this
theorem GO{ks:List Str}{vs:List MV}(hl:vs.length=ks.length)(nd:ks.Nodup):Yk (zipK ks vs)=zipK ks vs:=by
 refine Rw ?_;rw[GN hl];unfold List.Nodup;rw[List.pairwise_map];exact List.Pairwise.imp (λh e=>h (Vb e)) nd
theorem Rx{α:Type}(xs:List α)(f:α->Str)(g:α->MV):(xs.map λx=>MV.tup [.str (f x),g x])=(zipK (xs.map f) (xs.map g)).map prM:=by
 induction xs with
 |nil=>rfl
 |cons x r ih=>
  rw[Xx,ih];rfl
def SrcFrom(S:Src)(M M1:MH):Prop:=(S.okF M1/\M1=M)\/False
theorem SrcFrom.free{S:Src}{M M1:MH}(h:SrcFrom S M M1){p:Addr}(hp:M1 p=none):M p=none:=by
 rcases h with⟨_,rfl⟩|h
 ·exact hp
 ·exact h.elim
theorem SrcFrom.ok{S:Src}{M M1 M2:MH}(h:SrcFrom S M M1)(s:SameM M1 M2):S.ok M2:=by
 rcases h with⟨h1,rfl⟩|h
 ·cases S with
  |tup _=>trivial
  |rng _ _=>trivial
  |str _=>trivial
  |lst a zs=>exact s _ _ h1
 ·exact h.elim
theorem SrcFrom.thaw{S:Src}{M M1 M2:MH}(h:SrcFrom S M M1)(s:SameM M1 M2):SameM M (S.thaw M2)/\∀a,M1 a=none->(S.thaw M2) a=M2 a:=by
 rcases h with⟨h1,rfl⟩|h
 ·rw[CO h1];exact⟨s,λ_ _=>rfl⟩
 ·exact h.elim
theorem Ry{Φ:List (Str×SpM)}{own:List Str}{fr:List Nat}{src:ISr}{tg:ITg}{elt:IE}{σ:Sm}{M:MH}{Q:QM}{α:Type}(xs:List α)(f:α->MV)(C:α->MV->List Addr->MH->Prop)(Pm:MH->Prop)
  (hC:∀x y N M2 M3,(∀a∈N,M3 a=M2 a)->C x y N M2->C x y N M3)
  (hs:wSr Φ src σ M λS M1=>S.items=xs.map f/\xs.length<sizeLine/\SrcFrom S M M1/\Pm M1)
  (ht:∀x∈xs,∀M1 M',Pm M1->SameM M1 M'->wTg tg (f x) (sCm own fr σ) λσ2=>wE Φ elt σ2 M' λy M2=>SameM M' M2/\∃N:List Addr,N.Nodup/\(∀a∈N,M' a=none/\∃o,M2 a=some o)/\C x y N M2)
  (hΦ:∀(j:Nat) f sp,Φ[j]?=some (f,sp)->MonW sp)
  (q:∀D (ys:List MV) (Ns:List (List Addr)) M',M D=none->SameM M M'->ys.length=xs.length->Ns.length=xs.length->Ns.flatten.Nodup->D∉Ns.flatten->(∀a∈Ns.flatten,M a=none)->
   (∀(j:Nat) x y N,xs[j]?=some x->ys[j]?=some y->Ns[j]?=some N->C x y N M')->M' D=some (.lst ys)->Q (.ref D) M'):wE Φ (.comp own fr src tg .none elt) σ M Q:=by
 rw[CN];refine mon_sr hΦ src (λS M1 ⟨h1,h2,h3,h4⟩=>?_) hs;have hl:S.len=xs.length:=by rw[<- S.items_len,h1,Xc]
 refine⟨by rw[hl];exact h2,λD hD=>⟨λi ys M2=>SameM M1 M2/\M2 D=some (.lst ys)/\ys.length=i/\∃Ns:List (List Addr),Ns.length=i/\Ns.flatten.Nodup/\D∉Ns.flatten/\(∀a∈Ns.flatten,M1 a=none/\∃o,M2 a=some o)/\(∀(j:Nat) x y N,xs[j]?=some x->ys[j]?=some y->Ns[j]?=some N->C x y N M2),⟨SameM.new hD _,Xb,rfl,[],rfl,by simp,by simp,by simp,by simp⟩,?_,?_,?_⟩⟩
 ·rintro i ys M2 ⟨s2,d2,e,_⟩;exact⟨d2,by lia,h3.ok s2⟩
 ·rintro i x ys M2 hx ⟨s2,d2,e,Ns,n1,n2,n3,n4,n5⟩;rw[h1]at hx;obtain⟨hi,rfl⟩:=YY hx;refine Vg tg (λσ2 h=>?_) (ht xs[i] (XU hi) M1 M2 h4 s2);rw[wI,if_pos rfl];refine X9 hΦ elt (λy M3 ⟨s3,N,m1,m2,m3⟩=>?_) h;have dN:D∉N:=λz=>by have:=(m2 _ z).1;rw[d2]at this;cases this
  have keep:∀a,a≠D->updM M3 D (.lst (ys++[y])) a=M3 a:=λa z=>X7 z;have fl:(Ns++[N]).flatten=Ns.flatten++N:=by simp
  refine⟨s3 _ _ d2,λa o z=>by rw[X7 (neM z hD)];exact s3 _ _ (s2 _ _ z),Xb,by simp[e],Ns++[N],by simp[n1],?_,?_,?_,?_⟩
  ·rw[fl,Z9];refine⟨n2,m1,λa ha b hb z=>?_⟩;subst z;obtain⟨_,o,ho⟩:=n4 _ ha;rw[(m2 _ hb).1]at ho;cases ho
  ·rw[fl,Yw];exact λz=>z.elim n3 dN
  ·rw[fl];intro a ha;have aD:a≠D:=λz=>by
    subst z;rcases Yw.mp ha with ha|ha
    ·exact n3 ha
    ·exact dN ha
   rw[keep a aD];rcases Yw.mp ha with ha|ha
   ·obtain⟨z1,o,z2⟩:=n4 _ ha;exact⟨z1,o,s3 _ _ z2⟩
   ·exact⟨s2.free (m2 _ ha).1,(m2 _ ha).2⟩
  ·intro j x' y' N' hxj hy hN;by_cases hj:j<i
   ·rw[Zz (by lia)]at hy hN
    refine hC _ _ _ M2 _ (λa ha=>?_) (n5 j x' y' N' hxj hy hN);have hm:a∈Ns.flatten:=VB.mpr ⟨N',Xw hN,ha⟩;rw[keep a λz=>n3 (z▸hm)];obtain⟨_,o,z2⟩:=n4 _ hm;rw[z2];exact s3 _ _ z2
   ·have hj:j=i:=by
     have:=(XG.mp hy).1;simp at this;lia
    subst hj;rw[Zh (by lia),e,BZ]at hy
    rw[Zh (by lia),n1,BZ]at hN
    rw[Xa hi]at hxj;simp at hxj hy hN;subst hxj hy hN;exact hC _ _ _ M3 _ (λa ha=>keep a λz=>dN (z▸ha)) m3
 ·rintro ys M2 ⟨s2,d2,e,Ns,n1,n2,n3,n4,n5⟩;obtain⟨t1,t2⟩:=h3.thaw s2;refine q D ys Ns _ (h3.free hD) t1 (by lia) (by lia) n2 n3 (λa ha=>h3.free (n4 a ha).1) (λj x y N a b c=>?_) (by rw[t2 _ hD];exact d2)
  exact hC _ _ _ M2 _ (λz hz=>t2 _ (n4 z (VB.mpr ⟨N,Xw c,hz⟩)).1) (n5 j x y N a b c)
theorem GP{Φ:List (Str×SpM)}{own:List Str}{fr:List Nat}{src:ISr}{tg:ITg}{elt:IE}{σ:Sm}{M:MH}{Q:QM}{α:Type}(xs:List α)(f:α->MV)(nm:α->Str)(ob:α->MO)(Pm:MH->Prop)
  (hs:wSr Φ src σ M λS M1=>S.items=xs.map f/\xs.length<sizeLine/\SrcFrom S M M1/\Pm M1)
  (ht:∀x∈xs,∀M1 M',Pm M1->SameM M1 M'->wTg tg (f x) (sCm own fr σ) λσ2=>wE Φ elt σ2 M' λy M2=>∃p,M' p=none/\y=.tup [.str (nm x),.ref p]/\M2=updM M' p (ob x))
  (hΦ:∀(j:Nat) f sp,Φ[j]?=some (f,sp)->MonW sp)
  (q:∀D (as:List Addr) M',M D=none->SameM M M'->as.length=xs.length->as.Nodup->D∉as->(∀a∈as,M a=none)->
   (∀(j:Nat) a x,as[j]?=some a->xs[j]?=some x->M' a=some (ob x))->M' D=some (.lst ((zipK (xs.map nm) (as.map MV.ref)).map prM))->Q (.ref D) M'):wE Φ (.comp own fr src tg .none elt) σ M Q:=by
 refine Ry xs f (λx y N M2=>∃p,N=[p]/\y=.tup [.str (nm x),.ref p]/\M2 p=some (ob x)) Pm ?_ hs ?_ hΦ ?_
 ·rintro x y N M2 M3 hk ⟨p,rfl,e1,e2⟩;exact⟨p,rfl,e1,by rw[hk p (by simp)];exact e2⟩
 ·intro x hx M1 M' h1 h2;refine Vg tg (λσ2 h=>?_) (ht x hx M1 M' h1 h2);refine X9 hΦ elt (λy M3 ⟨p,m1,m2,m3⟩=>?_) h;subst m3;exact⟨SameM.new m1 _,[p],by simp,by simp[m1,Xb],p,rfl,m2,Xb⟩
 ·intro D ys Ns M' h1 h2 h3 h4 h5 h6 h7 h8 h9;have key:∀(xs:List α) (ys:List MV) (Ns:List (List Addr)),ys.length=xs.length->Ns.length=xs.length->(∀(j:Nat) x y N,xs[j]?=some x->ys[j]?=some y->Ns[j]?=some N->∃p,N=[p]/\y=.tup [.str (nm x),.ref p]/\M' p=some (ob x))->
    Ns.flatten.length=xs.length/\ys=(zipK (xs.map nm) (Ns.flatten.map MV.ref)).map prM/\∀(j:Nat) a x,Ns.flatten[j]?=some a->xs[j]?=some x->M' a=some (ob x):=by
   intro xs
   induction xs with
   |nil=>
    intro ys Ns h1 h2 _;cases ys with
    |nil=>
     cases Ns with
     |nil=>exact⟨rfl,rfl,λj a x h=>by simp at h⟩
     |cons _ _=>cases h2
    |cons _ _=>cases h1
   |cons x xs ih=>
    intro ys Ns h1 h2 h3;cases ys with
    |nil=>cases h1
    |cons y ys=>
     cases Ns with
     |nil=>cases h2
     |cons N Ns=>
      obtain⟨p,rfl,rfl,ep⟩:=h3 0 x y N rfl rfl rfl;obtain⟨i1,i2,i3⟩:=ih ys Ns (by simpa using h1) (by simpa using h2) λj x y N a b c=>h3 (j+1) x y N (by simpa using a) (by simpa using b) (by simpa using c)
      refine⟨by simp at i1 ⊢;lia,?_,?_⟩
      ·show _=prM (Xm (nm x),MV.ref p)::((zipK (xs.map nm) (Ns.flatten.map MV.ref)).map prM);rw[<- i2];rfl
      ·intro j a x' ha hx;cases j with
       |zero=>simp at ha hx;subst ha hx;exact ep
       |succ j=>exact i3 j a x' (by simpa using ha) (by simpa using hx)
  obtain⟨k1,k2,k3⟩:=key xs ys Ns h3 h4 h8;exact q D Ns.flatten M' h1 h2 k1 h5 h6 h7 k3 (by rw[<- k2];exact h9)
def WdOk(w:Nat)(I:Isl)(kvs:List (Key×MV)):Prop:=∃vs:List Int,vs.length=I.vars.length/\kvs=zipK I.vars (vs.map MV.int)/\∀v∈vs,0≤v/\v<2^w
def rhoK(kvs:List (Key×MV))(x:Str):Int:=match valM kvs (Xm x)with
 |some (.int i)=>i
 |_=>0
theorem WdOk.at{k:Nat}{I:Isl}{kvs:List (Key×MV)}(h:WdOk k I kvs)(nd:I.vars.Nodup){x:Str}(hx:x∈I.vars):valM kvs (Xm x)=some (.int (rhoK kvs x))/\0≤rhoK kvs x/\rhoK kvs x<2^k:=by
 obtain⟨vs,hl,rfl,hv⟩:=h;obtain⟨i,hi,rfl⟩:=Y1 hx;have hi2:i<vs.length:=by lia
 have e:valM (zipK I.vars (vs.map MV.int)) (Xm I.vars[i])=some (.int vs[i]):=Uu (i:=i) nd (Xa hi) (by rw[Xr,Xa hi2];rfl)
 have e2:rhoK (zipK I.vars (vs.map MV.int)) I.vars[i]=vs[i]:=by unfold rhoK;rw[e]
 rw[e2];exact⟨e,hv _ (XU hi2)⟩
theorem WdOk.reads{k:Nat}{I:Isl}{kvs:List (Key×MV)}(h:WdOk k I kvs)(nd:I.vars.Nodup):readsOk I.vars kvs (rhoK kvs) k:=λ_ hx=>h.at nd hx
theorem WdOk.len{k:Nat}{I:Isl}{kvs:List (Key×MV)}(h:WdOk k I kvs):kvs.length=I.vars.length:=by
 obtain⟨vs,hl,rfl,hv⟩:=h;exact Dr (by rw[Xc];exact hl)
theorem WdOk.put{k:Nat}{I:Isl}{kvs:List (Key×MV)}(h:WdOk k I kvs)(nd:I.vars.Nodup){x:Str}(hx:x∈I.vars){v:Int}(hv:0≤v/\v<2^k):WdOk k I (putM kvs (Xm x) (.int v)):=by
 obtain⟨vs,hl,rfl,hr⟩:=h;obtain⟨i,hi,rfl⟩:=Y1 hx;refine⟨vs.set i v,by rw[UF];exact hl,?_,λu hu=>?_⟩
 ·rw[Bt (i:=i) (by rw[Xc];exact hl) nd (Xa hi),Wz]
 ·rcases GX hu with hu|rfl
  ·exact hr u hu
  ·exact hv
structure Boat where
 b:Addr
 p:Addr
 g:Addr
 u:Addr
 gl:Addr
 tl:Addr
 A:Ab
def Boat.ads(x:Boat):List Addr:=[x.b,x.p,x.g,x.u,x.gl,x.tl]
structure BoatAt (M:MH) (f:Fer) (w:Nat) (m:Int) (x:Boat):Prop where
 fy:FyAt M x.b x.p x.g x.u x.A
 gv:M x.gl=some (.lst (x.A.ws.map natM))
 tk:M x.tl=some (.lst ((x.A.ws.take x.A.tn).map natM))
 n1:x.gl≠x.tl/\x.gl≠x.p/\x.tl≠x.p
 k:x.A.k=f.k
 gm:x.A.gm<m
 tm:x.A.tm<m
 wd:∀z∈x.A.ws,z<2^w
theorem BoatAt.at_{M:MH}{f:Fer}{w:Nat}{m:Int}{x:Boat}(h:BoatAt M f w m x):∀a∈x.ads,∃o,M a=some o/\(∀kvs,o≠.dic kvs)/\∀fs,o≠.ins "Run" fs:=by
 have e1:¬(("Ferry":Str)="Run"):=by rw[Wf];decide
 have e2:¬(("Side":Str)="Run"):=by rw[Wf];decide
 obtain⟨pl,hp,_⟩:=h.fy.pls;intro a ha;simp only[Boat.ads,Xl,XJ,or_false]at ha;rcases ha with rfl|rfl|rfl|rfl|rfl|rfl
 ·exact⟨_,h.fy.fe,(λ_ z=>by cases z),(λfs z=>e1 (by injection z))⟩
 ·exact⟨_,hp,(λ_ z=>by cases z),(λfs z=>by cases z)⟩
 ·exact⟨_,h.fy.gi,(λ_ z=>by cases z),(λfs z=>e2 (by injection z))⟩
 ·exact⟨_,h.fy.ta,(λ_ z=>by cases z),(λfs z=>e2 (by injection z))⟩
 ·exact⟨_,h.gv,(λ_ z=>by cases z),(λfs z=>by cases z)⟩
 ·exact⟨_,h.tk,(λ_ z=>by cases z),(λfs z=>by cases z)⟩
theorem BoatAt.dic{M:MH}{f:Fer}{w:Nat}{m:Int}{x:Boat}(h:BoatAt M f w m x){a:Addr}{kvs:List (Key×MV)}(ha:M a=some (.dic kvs)):a∉x.ads:=λz=>by
 obtain⟨o,e,n,_⟩:=h.at_ a z;rw[ha]at e;cases e;exact n _ rfl
theorem BoatAt.run{M:MH}{f:Fer}{w:Nat}{m:Int}{x:Boat}(h:BoatAt M f w m x){a:Addr}{fs:List (Str×MV)}(ha:M a=some (.ins "Run" fs)):a∉x.ads:=fun z=>by
 obtain⟨o,e,_,n⟩:=h.at_ a z;rw[ha]at e;cases e;exact n _ rfl
theorem BoatAt.fr{M M':MH}{f:Fer}{w:Nat}{m m':Int}{x:Boat}(h:BoatAt M f w m x)(l:m≤m')(s:∀a∈x.ads,∀o,M a=some o->M' a=some o):BoatAt M' f w m' x:=by
 have s:∀a,a∈ [x.b,x.p,x.g,x.u,x.gl,x.tl]->∀o,M a=some o->M' a=some o:=s;obtain⟨pl,hp,hpl⟩:=h.fy.pls;exact⟨⟨h.fy.ok,s _ (by simp) _ h.fy.fe,⟨pl,s _ (by simp) _ hp,hpl⟩,s _ (by simp) _ h.fy.gi,s _ (by simp) _ h.fy.ta,h.fy.ne⟩,s _ (by simp) _ h.gv,s _ (by simp) _ h.tk,h.n1,h.k,VO h.gm l,VO h.tm l,h.wd⟩
structure RunS where
 m:Int
 nums:List Nat
 ws:List Addr
 dn:List Nat
 bs:List Boat
 pn:Addr
 pw:Addr
 ps:Addr
 pb:Addr
 pg:Addr
 pt:Addr
noncomputable def runO(W:Wld)(R:RunS):MO:=.ins "Run" [("world",W.mv),("moment",.int R.m),("next_numbers",.ref R.pn),("words_now",.ref R.pw),("steps_so_far",.ref R.ps),("boats",.ref R.pb),("given_so_far",.ref R.pg),("taken_so_far",.ref R.pt)]
structure RunAt (M:MH) (W:Wld) (r:Addr) (R:RunS) (mm:Nat->Int):Prop where
 ob:M r=some (runO W R)
 hn:M R.pn=some (.dic (zipK W.ins (R.nums.map natM)))
 hw:M R.pw=some (.dic (zipK W.ins (R.ws.map MV.ref)))
 hs:M R.ps=some (.dic (zipK W.ins (R.dn.map natM)))
 hb:M R.pb=some (.dic (zipK W.fns (R.bs.map λx=>MV.ref x.b)))
 hg:M R.pg=some (.dic (zipK W.fns (R.bs.map λx=>MV.ref x.gl)))
 ht:M R.pt=some (.dic (zipK W.fns (R.bs.map λx=>MV.ref x.tl)))
 nl:R.nums.length=W.isl.length
 wl:R.ws.length=W.isl.length
 sl:R.dn.length=W.isl.length
 bl:R.bs.length=W.fer.length
 nb:∀(i:Nat) I n,W.isl[i]?=some I->R.nums[i]?=some n->n≤I.stps.length
 wa:∀(i:Nat) I a,W.isl[i]?=some I->R.ws[i]?=some a->∃kvs,M a=some (.dic kvs)/\WdOk W.w I kvs
 ba:∀(j:Nat) f x,W.fer[j]?=some f->R.bs[j]?=some x->BoatAt M f W.w (mm j) x
 sep:∀(i j:Nat) x y,i≠j->R.bs[i]?=some x->R.bs[j]?=some y->∀a∈x.ads,a∉y.ads
 nd:(R.pn::R.pw::R.ps::R.pb::R.pg::R.pt::R.ws).Nodup
def RunS.own(R:RunS)(r:Addr):List Addr:=r::R.pn::R.pw::R.ps::R.bs.flatMap Boat.ads
structure Kept (M M':MH) (r:Addr) (R R':RunS):Prop where
 fr:FrM M M' (R.own r)
 nw:∀a∈R'.own r,a∈R.own r\/M a=none
theorem Kept.trans{M M1 M2:MH}{r:Addr}{R R1 R2:RunS}(h:Kept M M1 r R R1)(g:Kept M1 M2 r R1 R2):Kept M M2 r R R2:=by
 refine⟨λa o ha hn=>g.fr a o (h.fr a o ha hn) λz=>?_,λa ha=>?_⟩
 ·rcases h.nw a z with z|z
  ·exact hn z
  ·rw[ha]at z;cases z
 ·rcases g.nw a ha with z|z
  ·exact h.nw a z
  ·by_cases c:a∈R.own r
   ·exact .inl c
   ·cases e:M a with
    |none=>exact .inr rfl
    |some o=>rw[h.fr a o e c]at z;cases z
theorem Kept.new{M M':MH}{r:Addr}{R:RunS}(s:SameM M M'):Kept M M' r R R:=⟨λa o h _=>s a o h,λ_ h=>.inl h⟩
theorem RunAt.keep{M M':MH}{W:Wld}{r:Addr}{R:RunS}{mm:Nat->Int}(h:RunAt M W r R mm)(s:SameM M M'):RunAt M' W r R mm:=
 ⟨s _ _ h.ob,s _ _ h.hn,s _ _ h.hw,s _ _ h.hs,s _ _ h.hb,s _ _ h.hg,s _ _ h.ht,h.nl,h.wl,h.sl,h.bl,h.nb,λi I a hI ha=>let⟨k,e,o⟩:=h.wa i I a hI ha;⟨k,s _ _ e,o⟩,λj f x hf hx=>(h.ba j f x hf hx).fr (U0 _) λa _ o e=>s a o e,h.sep,h.nd⟩
theorem Wn{α:Type}{xs:List α}{i j:Nat}{v x:α}(h:(xs.set j v)[i]?=some x):(i=j/\x=v)\/(i≠j/\xs[i]?=some x):=by
 rw[VA]at h;by_cases e:j=i
 ·subst e;rw[if_pos rfl]at h;by_cases l:j<xs.length
  ·rw[if_pos l]at h;exact .inl ⟨rfl,(Y7 h).symm⟩
  ·rw[if_neg l]at h;cases h
 ·rw[if_neg e]at h;exact .inr ⟨λz=>e z.symm,h⟩
set_option tactic.hygienic true in
theorem GQ{α β:Type}{f:α->β}{xs:List α}{j:Nat}{x y:α}(hx:xs[j]?=some x) (e:f y=f x):(xs.set j y).map f=xs.map f:=by
 rw[Wz,e];apply BM;intro i;rw[VA];split
 ·rename_i h;subst h;split
  ·rw[Xr,hx];rfl
  ·rename_i l;rw[Zi (by lia)]
 ·rfl
theorem RunAt.boat{M M':MH}{W:Wld}{r:Addr}{R:RunS}{mm mm':Nat->Int}(h:RunAt M W r R mm){j:Nat}{f:Fer}{x y:Boat}(hf:W.fer[j]?=some f) (hx:R.bs[j]?=some x) (fr:FrM M M' x.ads) (hy:BoatAt M' f W.w (mm' j) y) (eb:y.b=x.b) (eg:y.gl=x.gl) (et:y.tl=x.tl) (ad:∀a∈y.ads,a∈x.ads\/M a=none) (hm:∀i,i≠j->mm i≤mm' i):
  RunAt M' W r {R with bs:=R.bs.set j y} mm'/\Kept M M' r R {R with bs:=R.bs.set j y}:=by
 have bx:=h.ba j f x hf hx;have dic:∀a kvs,M a=some (.dic kvs)->M' a=some (.dic kvs):=λa kvs e=>fr a _ e (bx.dic e);have b1:(R.bs.set j y).map (λx=>MV.ref x.b)=R.bs.map λx=>MV.ref x.b:=GQ hx (by rw[eb])
 have b2:(R.bs.set j y).map (λx=>MV.ref x.gl)=R.bs.map λx=>MV.ref x.gl:=GQ hx (by rw[eg])
 have b3:(R.bs.set j y).map (λx=>MV.ref x.tl)=R.bs.map λx=>MV.ref x.tl:=GQ hx (by rw[et])
 have off:∀(i:Nat) z,i≠j->R.bs[i]?=some z->∀a∈z.ads,a∉y.ads:=λi z ne hz a ha hay=>by
  rcases ad a hay with c|c
  ·exact h.sep i j z x ne hz hx a ha c
  ·have hi:i<W.fer.length:=by rw[<- h.bl];exact(XG.mp hz).1
   obtain⟨o,e,_⟩:=(h.ba i _ z (Xa hi) hz).at_ a ha;rw[e]at c;cases c
 refine⟨⟨fr _ _ h.ob (bx.run h.ob),dic _ _ h.hn,dic _ _ h.hw,dic _ _ h.hs,?_,?_,?_,h.nl,h.wl,h.sl,by show(R.bs.set j y).length=_;rw[UF];exact h.bl,h.nb,λi I a hI ha=>let⟨k,e,o⟩:=h.wa i I a hI ha;⟨k,dic _ _ e,o⟩,λi g z hg hz=>?_,λi i' z z' ne hz hz'=>?_,h.nd⟩,⟨λa o ha hn=>fr a o ha λc=>hn ?_,λa ha=>?_⟩⟩
 ·show M' R.pb=some (.dic (zipK W.fns ((R.bs.set j y).map λx=>MV.ref x.b)));rw[b1];exact dic _ _ h.hb
 ·show M' R.pg=some (.dic (zipK W.fns ((R.bs.set j y).map λx=>MV.ref x.gl)));rw[b2];exact dic _ _ h.hg
 ·show M' R.pt=some (.dic (zipK W.fns ((R.bs.set j y).map λx=>MV.ref x.tl)));rw[b3];exact dic _ _ h.ht
 ·rcases Wn hz with⟨rfl,rfl⟩|⟨ne,hz⟩
  ·rw[hf]at hg;cases hg;exact hy
  ·exact(h.ba i g z hg hz).fr (hm i ne) λa ha o e=>fr a o e λc=>h.sep i j z x ne hz hx a ha c
 ·rcases Wn hz with⟨e1,y1⟩|⟨n1,y1⟩<;>rcases Wn hz' with⟨e2,y2⟩|⟨n2,y2⟩
  ·exact absurd (e1.trans e2.symm) ne
  ·subst y1;exact λa ha hb=>off i' z' n2 y2 a hb ha
  ·subst y2;exact off i z n1 y1
  ·exact h.sep i i' z z' ne y1 y2
 ·exact XS _ (XS _ (XS _ (XS _ (VC.mpr ⟨x,Xw hx,c⟩))))
 ·simp only[RunS.own,Xl,VC]at ha ⊢;rcases ha with c|c|c|c|⟨z,hz,c⟩
  ·exact .inl (.inl c)
  ·exact .inl (.inr (.inl c))
  ·exact .inl (.inr (.inr (.inl c)))
  ·exact .inl (.inr (.inr (.inr (.inl c))))
  ·obtain⟨i,hi,rfl⟩:=Y1 hz;rcases Wn (Xa hi)with⟨_,e⟩|⟨_,e⟩
   ·rw[e]at c;exact(ad a c).imp (λd=>.inr (.inr (.inr (.inr ⟨x,Xw hx,d⟩)))) id
   ·exact .inl (.inr (.inr (.inr (.inr ⟨_,Xw e,c⟩))))
noncomputable def askO(o:Option Stp)(ρ:Str->Int)(w:Nat):MV:=match o with
 |none=>.non
 |some (.take f _)=>.tup [.str "take",.str f]
 |some (.give f T)=>.tup [.str "give",.str f,.int (T.val ρ w)]
 |some _=>.tup [.str "own"]
theorem _q2(ss:List Stp)(ρ:Str->Int)(w i:Nat):dueM ss ρ w i=askO ss[i]? ρ w:=rfl
noncomputable def UU(o:Option Stp):MV:=match o with
 |none=>.tup [.str "done"]
 |some (.take f _)=>.tup [.str "wait",.str f]
 |some (.give f _)=>.tup [.str "wait",.str f]
 |some _=>.tup [.str "own"]
noncomputable def Y5(o:Option Stp)(z:Str):Bool:=match o with
 |some (.take f _)=>decide (f=z)
 |some (.give f _)=>decide (f=z)
 |_=>false
abbrev Vo:SpM:=λvs M Q=>∃(o:Option Stp) (ρ:Str->Int) (w:Nat),vs=[askO o ρ w]/\Q (UU o) M
theorem _8W:MonW Vo:=by walk_at "m"
theorem _dc(T:Txt K mg t):FnOk P w K mg base CX0 1 t.eC t.ee ["asked"] (liSp K Vo):=by
 refine T.bU.F.okM _d4 (fC (G:=NW) (Φ:=[]) T rfl nl0 nl0) FH _dC (λvs M Q h=>?_) (λvs M Q h=>?_)
 ·obtain⟨_,_,_,rfl,_⟩:=h;rfl
 obtain⟨o,ρ,k,rfl,q⟩:=h;show wSs _ _ _ [some (askO o ρ k)] M;delta FH NV;rcases o with _|s
 ·simp only[askO];simp!;delta NU;simp!;exact q
 ·cases s<;>simp only[askO]<;>simp!<;>rw[NT]<;>simp!<;>first|(rw[NS];simp!;exact q)|(rw[NR];simp!;exact q)
abbrev Wo:SpM:=λvs M Q=>∃(o:Option Stp) (ρ:Str->Int) (w:Nat) (z:Str),vs=[askO o ρ w,.str z]/\Q (.bl (Y5 o z)) M
theorem _8Y:MonW Wo:=by walk_at "m"
theorem _de(T:Txt K mg t):FnOk P w K mg base CX0 1 t.gq t.i8 ["asked","ferry_name"] (liSp K Wo):=by
 refine T.bW.F.okM _d7 (fC (G:=NY) (Φ:=[]) T rfl nl0 nl0) FI _dF (λvs M Q h=>?_) (λvs M Q h=>?_)
 ·obtain⟨_,_,_,_,rfl,_⟩:=h;rfl
 obtain⟨o,ρ,k,z,rfl,q⟩:=h;show wSs _ _ _ [some (askO o ρ k),some (.str z)] M;delta FI NX;rcases o with _|s
 ·simp only[askO];simp!;exact q
 ·cases s<;>simp only[askO]<;>simp!<;>exact q
theorem Wld.Good.in_nd{W:Wld}(G:W.Good):W.ins.Nodup:=(Z9.mp G.nd).2.1
theorem Wld.Good.fn_nd{W:Wld}(G:W.Good):W.fns.Nodup:=(Z9.mp G.nd).1
theorem UV{W:Wld}{i:Nat}{I:Isl}(h:W.isl[i]?=some I):W.ins[i]?=some I.name:=by unfold Wld.ins;rw[Xr,h];rfl
theorem Uv{W:Wld}{i:Nat}{f:Fer}(h:W.fer[i]?=some f):W.fns[i]?=some f.name:=by unfold Wld.fns;rw[Xr,h];rfl
theorem Wp{W:Wld}:W.ins.length=W.isl.length:=by unfold Wld.ins;rw[Xc]
theorem Uw{W:Wld}:W.fns.length=W.fer.length:=by unfold Wld.fns;rw[Xc]
theorem Rz{fs ns:List Str}{n:Nat}{s:Stp}(h:ZN fs ns n s):s.ok ns n:=by
 cases s with
 |take f x=>exact h.2
 |give f T=>exact h.2
 |put x T=>exact h
 |jump T i=>exact h
section
variable{M:MH}{W:Wld}{r:Addr}{R:RunS}{mm:Nat->Int}
theorem RunAt.gvl(h:RunAt M W r R mm)(G:W.Good){j:Nat}{f:Fer}{x:Boat}(hf:W.fer[j]?=some f) (hx:R.bs[j]?=some x):valM (zipK W.fns (R.bs.map λx=>MV.ref x.gl)) (Xm f.name)=some (.ref x.gl):=Uu G.fn_nd (Uv hf) (by rw[Xr,hx];rfl)
theorem RunAt.tkl(h:RunAt M W r R mm)(G:W.Good){j:Nat}{f:Fer}{x:Boat}(hf:W.fer[j]?=some f) (hx:R.bs[j]?=some x):valM (zipK W.fns (R.bs.map λx=>MV.ref x.tl)) (Xm f.name)=some (.ref x.tl):=Uu G.fn_nd (Uv hf) (by rw[Xr,hx];rfl)
theorem RunAt.btl(h:RunAt M W r R mm)(G:W.Good){j:Nat}{f:Fer}{x:Boat}(hf:W.fer[j]?=some f) (hx:R.bs[j]?=some x):valM (zipK W.fns (R.bs.map λx=>MV.ref x.b)) (Xm f.name)=some (.ref x.b):=Uu G.fn_nd (Uv hf) (by rw[Xr,hx];rfl)
theorem RunAt.nml(h:RunAt M W r R mm)(G:W.Good){i n:Nat}{I:Isl}(hI:W.isl[i]?=some I) (hn:R.nums[i]?=some n):valM (zipK W.ins (R.nums.map natM)) (Xm I.name)=some (.int n):=Uu G.in_nd (UV hI) (by rw[Xr,hn];rfl)
theorem RunAt.wdl(h:RunAt M W r R mm)(G:W.Good){i:Nat}{a:Addr}{I:Isl}(hI:W.isl[i]?=some I) (ha:R.ws[i]?=some a):valM (zipK W.ins (R.ws.map MV.ref)) (Xm I.name)=some (.ref a):=Uu G.in_nd (UV hI) (by rw[Xr,ha];rfl)
theorem RunAt.dnl(h:RunAt M W r R mm)(G:W.Good){i n:Nat}{I:Isl}(hI:W.isl[i]?=some I) (hn:R.dn[i]?=some n):valM (zipK W.ins (R.dn.map natM)) (Xm I.name)=some (.int n):=Uu G.in_nd (UV hI) (by rw[Xr,hn];rfl)
set_option tactic.hygienic true in
theorem RunAt.went(h:RunAt M W r R mm){M':MH}{i n d:Nat}{I:Isl}{p:Addr}{kvs:List (Key×MV)}(hI:W.isl[i]?=some I) (hn:n≤I.stps.length) (hp:M p=none) (fr:∀a o,M a=some o->a≠R.pn->a≠R.pw->a≠R.ps->M' a=some o) (hk:M' p=some (.dic kvs)) (wk:WdOk W.w I kvs)
  (h1:M' R.pn=some (.dic (zipK W.ins ((R.nums.set i n).map natM)))) (h2:M' R.pw=some (.dic (zipK W.ins ((R.ws.set i p).map MV.ref)))) (h3:M' R.ps=some (.dic (zipK W.ins ((R.dn.set i d).map natM)))):
  RunAt M' W r {R with nums:=R.nums.set i n,ws:=R.ws.set i p,dn:=R.dn.set i d} mm/\Kept M M' r R {R with nums:=R.nums.set i n,ws:=R.ws.set i p,dn:=R.dn.set i d}:=by
 have nd:=h.nd;simp only[YG,Xl,not_or]at nd;obtain⟨⟨a1,a2,a3,a4,a5,a6⟩,⟨b2,b3,b4,b5,b6⟩,⟨c3,c4,c5,c6⟩,⟨d4,d5,d6⟩,⟨e5,e6⟩,f6,ndw⟩:=nd;have kd:∀a kv,M a=some (.dic kv)->a≠r:=λa kv e z=>by subst z;rw[h.ob]at e;cases e
 have wne:∀(k:Nat) a,R.ws[k]?=some a->a≠R.pn/\a≠R.pw/\a≠R.ps:=λk a ha=>⟨λz=>a6 (z▸Xw ha),λz=>b6 (z▸Xw ha),λz=>c6 (z▸Xw ha)⟩;have old:∀a o,M a=some o->a≠p:=λa o e=>neM e hp;refine⟨⟨fr _ _ h.ob (kd _ _ h.hn).symm (kd _ _ h.hw).symm (kd _ _ h.hs).symm,h1,h2,h3,fr _ _ h.hb (XQ a3) (XQ b3) (XQ c3),fr _ _ h.hg (XQ a4) (XQ b4) (XQ c4),fr _ _ h.ht (XQ a5) (XQ b5) (XQ c5),by show(R.nums.set i n).length=_;rw[UF];exact h.nl,by show(R.ws.set i p).length=_;rw[UF];exact h.wl,by show(R.dn.set i d).length=_;rw[UF];exact h.sl,h.bl,λk J m hJ hm=>?_,λk J a hJ ha=>?_,λj f x hf hx=>?_,h.sep,?_⟩,⟨λa o ha hn=>fr a o ha ?_ ?_ ?_,λa ha=>.inl ha⟩⟩
 ·rcases Wn hm with⟨rfl,rfl⟩|⟨_,hm⟩
  ·rw[hI]at hJ;cases hJ;exact hn
  ·exact h.nb k J m hJ hm
 ·rcases Wn ha with⟨rfl,rfl⟩|⟨_,ha⟩
  ·rw[hI]at hJ;cases hJ;exact⟨kvs,hk,wk⟩
  ·obtain⟨kv,e,o⟩:=h.wa k J a hJ ha;obtain⟨n1,n2,n3⟩:=wne k a ha;exact⟨kv,fr _ _ e n1 n2 n3,o⟩
 ·have hx:R.bs[j]?=some x:=hx;have b:=h.ba j f x hf hx;exact b.fr (U0 _) λa ha o e=>fr a o e (λz=>b.dic (z▸h.hn) ha) (λz=>b.dic (z▸h.hw) ha) (λz=>b.dic (z▸h.hs) ha)
 ·have pnot:∀a kv,M a=some (.dic kv)->a≠p:=λa kv e=>old a _ e;have ms:∀a,a∈R.ws.set i p->a∈R.ws\/a=p:=λa ha=>GX ha;have pin:p∉R.ws:=λz=>by
   obtain⟨k,hk',e⟩:=Y1 z;have hi:k<W.isl.length:=by rw[<- h.wl];exact hk'
   obtain⟨kv,e2,_⟩:=h.wa k _ _ (Xa hi) (Xa hk');rw[e,hp]at e2;cases e2
  have ndp:(R.ws.set i p).Nodup:=by
   refine List.pairwise_iff_getElem.mpr λk l hk' hl kl e=>?_;rw[UF]at hk' hl;rw[DB,DB]at e;split at e<;>split at e
   ·rename_i z1 z2;lia
   ·exact pin (e▸XU hl)
   ·exact pin (e.symm▸XU hk')
   ·have:=(BN ndw).mp e;lia
  have mk:∀a kv,M a=some (.dic kv)->a∉R.ws->a∉R.ws.set i p:=λa kv e hn z=>(ms a z).elim hn (pnot a kv e);show(R.pn::R.pw::R.ps::R.pb::R.pg::R.pt::R.ws.set i p).Nodup;simp only[YG,Xl,not_or];exact⟨⟨a1,a2,a3,a4,a5,mk _ _ h.hn a6⟩,⟨b2,b3,b4,b5,mk _ _ h.hw b6⟩,⟨c3,c4,c5,mk _ _ h.hs c6⟩,⟨d4,d5,mk _ _ h.hb d6⟩,⟨e5,mk _ _ h.hg e6⟩,mk _ _ h.ht f6,ndp⟩
 ·exact λz=>hn (by simp[RunS.own,z])
 ·exact λz=>hn (by simp[RunS.own,z])
 ·exact λz=>hn (by simp[RunS.own,z])
end
theorem _kI{W:Wld}{I:Isl}{i:Nat}{s:Stp}(ok:IslOk W.w W.fns I)(hs:I.stps[i]?=some s) (ρ:Str->Int):∃n:Nat,Wi s ρ W.w i=(n:Int)/\n≤I.stps.length:=by
 have hi:=(XG.mp hs).1;have st:=ok.st s (Xw hs);have nx:∃n:Nat,(i:Int)+1=(n:Int)/\n≤I.stps.length:=⟨i+1,by lia,hi⟩
 cases s with
 |jump T j=>
  unfold Wi;by_cases c:T.val ρ W.w≠0
  ·simp only[if_pos c];exact⟨j.toNat,by have:=st.2.1;lia,by have:=st.2.1;have:=st.2.2;lia⟩
  ·simp only[if_neg c];exact nx
 |take _ _=>exact nx
 |give _ _=>exact nx
 |put _ _=>exact nx
theorem _jB{W:Wld}{I:Isl}{s:Stp}{kvs:List (Key×MV)}{wd:MV}(w1:1≤W.w)(ok:IslOk W.w W.fns I)(hs:s∈I.stps)(wk:WdOk W.w I kvs)(hw:∀f x,s=.take f x->∃v:Int,wd=.int v/\0≤v/\v<2^W.w):WdOk W.w I (D5 s kvs (rhoK kvs) W.w wd):=by
 have st:=ok.st s hs;cases s with
 |take f x=>
  obtain⟨v,rfl,hv⟩:=hw f x rfl;exact wk.put ok.nd st.2 hv
 |put x T=>exact wk.put ok.nd st.1 (T.val_in w1 λy hy=>(wk.at ok.nd (st.2.2.2 y hy)).2)
 |give _ _=>exact wk
 |jump _ _=>exact wk
abbrev UW:SpM:=λvs M Q=>∃(r:Addr) (W:Wld) (R:RunS) (mm:Nat->Int) (i n:Nat) (I:Isl) (s:Stp) (wd:MV),vs=[.ref r,.str I.name,.tup (I.stps.map Stp.mv),wd]/\W.Good/\RunAt M W r R mm/\W.isl[i]?=some I/\R.nums[i]?=some n/\I.stps[n]?=some s/\(∀f x,s=.take f x->∃v:Int,wd=.int v/\0≤v/\v<2^W.w)/\
 ∀R' M',R'.m=R.m->R'.bs=R.bs->RunAt M' W r R' mm->Kept M M' r R R'->Q .non M'
theorem _ak:MonW UW:=by walk_at "m"
theorem _el(T:Txt K mg t):FnOk P w K mg base CX0 52 t.bg t.bA ["self","name","steps","word"] (liSp K UW):=by
 refine T.dk.okM _e4 (fC (G:=OE) (Φ:=[("after",G8)]) T rfl (fMc ⟨_ep,nl0⟩) (fMc ⟨fE T.b0 (_kA T),nl0⟩)) FP _eU (fun vs M Q h=>?_) (fun vs M Q h=>?_)
 ·obtain⟨_,_,_,_,_,_,_,_,_,rfl,_⟩:=h;rfl
 obtain⟨r,W,R,mm,i,n,I,s,wd,rfl,G,h,hI,hn,hs,hw,q⟩:=h;show wSs _ _ _ [some (.ref r),some (.str I.name),some (.tup (I.stps.map Stp.mv)),some wd,none] M;have hi:i<W.isl.length:=(XG.mp hI).1;have i5:=G.i5;have ok:=G.io I (Xw hI);obtain⟨a,ha⟩:∃a,R.ws[i]?=some a:=⟨_,Xa (by rw[h.wl];exact hi)⟩
 obtain⟨d,hd⟩:∃d,R.dn[i]?=some d:=⟨_,Xa (by rw[h.sl];exact hi)⟩
 obtain⟨kvs,hk,wk⟩:=h.wa i I a hI ha;have ob:=h.ob;have hpn:=h.hn;have hpw:=h.hw;have hps:=h.hs;have vn:=h.nml G hI hn;have vw:=h.wdl G hI ha;have vd:=h.dnl G hI hd;have nd:=h.nd;simp only[YG,Xl,not_or]at nd;obtain⟨⟨a1,a2,_⟩,⟨b2,_⟩,_⟩:=nd;have rn:∀b kv,M b=some (.dic kv)->r≠b:=λb kv e z=>by subst z;rw[ob]at e;cases e
 have r1:=rn _ _ hpn;have r2:=rn _ _ hpw;have r3:=rn _ _ hps;have lz:∀vs:List MV,vs.length=W.isl.length->(zipK W.ins vs).length<16777216:=λvs e=>by rw[Dr (by rw[Wp];exact e),Wp];lia
 delta FP OD
 simp![ob,runO,valM,Wld.mv,hpn,hpw,vn,vw]
 refine⟨_,a,I.stps,n,W.w,kvs,rhoK kvs,I.vars,s,wd,rfl,.inl rfl,hs,Rz (ok.st s (Xw hs)),G.w1,G.w2,hk,by rw[wk.len];unfold Isl.vars;rw[Xc];have:=ok.nv;lia,wk.reads ok.nd,λp hp=>?_⟩
 obtain⟨n',hn',hn2⟩:=_kI ok hs (rhoK kvs);rw[hn'];have wk':=_jB (wd:=wd) G.w1 ok (Xw hs) wk hw;generalize D5 s kvs (rhoK kvs) W.w wd=kvs' at*;have s1:=SameM.new hp (.dic kvs');have hk1:updM M p (.dic kvs') p=some (.dic kvs'):=Xb;have pn:R.pn≠p:=neM hpn hp;have pw:R.pw≠p:=neM hpw hp;have ps:R.ps≠p:=neM hps hp;have ob1:=s1 _ _ ob;have hpn1:=s1 _ _ hpn;have hpw1:=s1 _ _ hpw;have hps1:=s1 _ _ hps;generalize updM M p _=M1 at*;delta OC
 simp![ob1,runO,valM,hpn1]
 refine⟨lz _ (by rw[Xc];exact h.nl),?_⟩
 rw[Bt (i:=i) (by rw[Xc,Wp];exact h.nl) G.in_nd (UV hI)]
 have e1:(R.nums.map natM).set i (.int n')=(R.nums.set i n').map natM:=by rw[Wz]
 rw[e1];have ob2:updM M1 R.pn (.dic (zipK W.ins ((R.nums.set i n').map natM))) r=_:=(X7 r1).trans ob1;have hn2':updM M1 R.pn (.dic (zipK W.ins ((R.nums.set i n').map natM))) R.pn=_:=Xb;have hw2:updM M1 R.pn (.dic (zipK W.ins ((R.nums.set i n').map natM))) R.pw=_:=(X7 (XQ a1)).trans hpw1;have hs2:updM M1 R.pn (.dic (zipK W.ins ((R.nums.set i n').map natM))) R.ps=_:=(X7 (XQ a2)).trans hps1;have hk2:updM M1 R.pn (.dic (zipK W.ins ((R.nums.set i n').map natM))) p=_:=(X7 (XQ pn)).trans hk1;have f2:∀b o,M1 b=some o->b≠R.pn->updM M1 R.pn (.dic (zipK W.ins ((R.nums.set i n').map natM))) b=some o:=λb o e z=>(X7 z).trans e;generalize updM M1 R.pn _=M2 at*;delta OB
 simp![ob2,runO,valM,hw2]
 refine⟨lz _ (by rw[Xc];exact h.wl),?_⟩
 rw[Bt (i:=i) (by rw[Xc,Wp];exact h.wl) G.in_nd (UV hI)]
 have e2:(R.ws.map MV.ref).set i (.ref p)=(R.ws.set i p).map MV.ref:=by rw[Wz]
 rw[e2];have ob3:updM M2 R.pw (.dic (zipK W.ins ((R.ws.set i p).map MV.ref))) r=_:=(X7 r2).trans ob2;have hn3:updM M2 R.pw (.dic (zipK W.ins ((R.ws.set i p).map MV.ref))) R.pn=_:=(X7 a1).trans hn2';have hw3:updM M2 R.pw (.dic (zipK W.ins ((R.ws.set i p).map MV.ref))) R.pw=_:=Xb;have hs3:updM M2 R.pw (.dic (zipK W.ins ((R.ws.set i p).map MV.ref))) R.ps=_:=(X7 (XQ b2)).trans hs2;have hk3:updM M2 R.pw (.dic (zipK W.ins ((R.ws.set i p).map MV.ref))) p=_:=(X7 (XQ pw)).trans hk2;have f3:∀b o,M2 b=some o->b≠R.pw->updM M2 R.pw (.dic (zipK W.ins ((R.ws.set i p).map MV.ref))) b=some o:=λb o e z=>(X7 z).trans e;generalize updM M2 R.pw _=M3 at*;delta OA
 simp![ob3,runO,valM,hs3,vd]
 refine⟨lz _ (by rw[Xc];exact h.sl),?_⟩
 rw[Bt (i:=i) (by rw[Xc,Wp];exact h.sl) G.in_nd (UV hI)]
 have e3:(R.dn.map natM).set i (.int ((d:Int)+1))=(R.dn.set i (d+1)).map natM:=by rw[Wz];rfl
 rw[e3];obtain⟨A,B⟩:=h.went (M':=updM M3 R.ps (.dic (zipK W.ins ((R.dn.set i (d+1)).map natM)))) hI hn2 hp (λb o e z1 z2 z3=>(X7 z3).trans (f3 b o (f2 b o (s1 b o e) z1) z2)) ((X7 (XQ ps)).trans hk3) wk' ((X7 a2).trans hn3) ((X7 b2).trans hw3) Xb;exact q {R with nums:=R.nums.set i n',ws:=R.ws.set i p,dn:=R.dn.set i (d+1)} _ rfl rfl A B
def Zqe(w:Nat)(f:Fer)(o:Option Stp)(ρ:Str->Int)(v:MV):Prop:=v=.non\/(∃T,o=some (.give f.name T)/\v=askO o ρ w)\/∃(x:Str) (n:Nat),o=some (.take f.name x)/\n<2^w/\v=.tup [.str "take",.str f.name,.int n]
noncomputable def Bu(w:Nat)(f:Fer)(o:Option Stp)(ρ:Str->Int):Option Nat:=match o with
 |some (.give g T)=>if g=f.name then some (T.val ρ w).toNat else none
 |_=>none
def Ux(w:Nat)(f:Fer)(z:Str)(m:Int)(c:Nat)(o:Option Stp)(ρ:Str->Int)(A:Ab):Ab:=if f.giver=z then A.giver m c (Bu w f o ρ)else A.taker m c (Y5 o f.name)
def smpA(f:Fer)(z:Str)(c:Nat)(A:Ab):Nat:=if f.giver=z then Xh A.k (A.gSamp c)else Xh A.k (A.tSamp c)
def hitA(w:Nat)(f:Fer)(z:Str)(o:Option Stp)(ρ:Str->Int)(A:Ab):Bool:=if f.giver=z then A.gives (Bu w f o ρ)else A.takes (Y5 o f.name)
def YK(w:Nat)(f:Fer)(z:Str)(o:Option Stp)(ρ:Str->Int)(A:Ab):MV:=if hitA w f z o ρ A=true then(if f.giver=z then askO o ρ w else .tup [.str "take",.str f.name,.int (A.ws.getD A.tn 0:Nat)])else .non
abbrev Vp:SpM:=λvs M Q=>∃(r:Addr) (W:Wld) (R:RunS) (mm:Nat->Int) (j:Nat) (f:Fer) (z:Str) (c:Nat) (o:Option Stp) (ρ:Str->Int) (x:Boat),vs=[.ref r,f.mv,.str z,.int c,askO o ρ W.w]/\W.Good/\RunAt M W r R mm/\mm j≤R.m/\W.fer[j]?=some f/\(z=f.giver\/z=f.taker)/\(∀s,o=some s->ZO W.fer z s)/\(∀g T,o=some (.give g T)->0≤T.val ρ W.w/\T.val ρ W.w<2^W.w)/\(∀y∈R.bs,y.A.ws.length≤1000)/\R.bs[j]?=some x/\
 ∀y M',RunAt M' W r {R with bs:=R.bs.set j y} (λi=>if i=j then R.m+1 else mm i)->Kept M M' r R {R with bs:=R.bs.set j y}->y.A=Ux W.w f z R.m c o ρ x.A->Zqe W.w f o ρ (YK W.w f z o ρ x.A)->Q (.tup [YK W.w f z o ρ x.A,.int (smpA f z c x.A:Nat)]) M'
theorem _5r:MonW Vp:=by walk_at "m"
theorem _mG{w:Nat}{v:Int}(h0:0≤v)(h1:v<2^w):∃n:Nat,v=(n:Int)/\n<2^w:=by
 refine⟨v.toNat,(UJ h0).symm,?_⟩;have e:((2:Int)^w)=((2^w:Nat):Int):=by rw[V9];rfl
 lia
theorem _8U(T:Txt K mg t):FnOk P w K mg base CX0 5 t.bI t.bV ["self","ferry","name","choice","asked"] (liSp K Vp):=by
 refine T.eX.okM _8R (Ua (k:=4) (G:=Oz) (Φ:=[("is_wish_of",Wo)]) (Ψ:=[("Ferry_ring_giver",Vn),("Ferry_ring_taker",Wl)]) (Χ:=[("is_wish_of",Wo),("Ferry_ring_giver",Vn),("Ferry_ring_taker",Wl)]) rfl (Uo T) (Up T) rfl (fMc ⟨_8Y,(fMc ⟨_4I,(fMc ⟨_4H,nl0⟩)⟩)⟩) (fMc ⟨fE T.bW (_de T),nl0⟩) (fMc ⟨⟨_,_,rfl,_,_,_,_,(FnOk.mono (_7C T) (by decide)),T.aA,T.aB,T.gL,T.ef⟩,(fMc ⟨⟨_,_,rfl,_,_,_,_,(FnOk.mono (_7B T) (by decide)),T.aA,T.aB,T.gR,T.ge⟩,nl0⟩)⟩) nl0 (Uq T)) FO _9b (fun vs M Q h=>?_) (fun vs M Q h=>?_)
 ·obtain⟨_,_,_,_,_,_,_,_,_,_,_,rfl,_⟩:=h;rfl
 obtain⟨r,W,R,mm,j,f,z,c,o,ρ,x,rfl,G,h,hmj,hf,hz,hE,hT,hL,hx,q⟩:=h;show wSs _ _ _ [some (.ref r),some f.mv,some (.str z),some (.int c),some (askO o ρ W.w),none,none,none] M;have hj:j<W.fer.length:=(XG.mp hf).1;have fm:f∈W.fer:=Xw hf;have fok:=G.fo f fm;have b:=h.ba j f x hf hx;have xl:=hL x (Xw hx);have ob:=h.ob;have hb:=h.hb;have hg:=h.hg;have ht:=h.ht;have vb:=h.btl G hf hx;have vg:=h.gvl G hf hx;have vt:=h.tkl G hf hx;have fe:=b.fy.fe;have mm':∀i,i≠j->mm i≤(λi=>if i=j then R.m+1 else mm i) i:=λi ne=>by simp[ne]
 have m1:(λi=>if i=j then R.m+1 else mm i) j=R.m+1:=by simp
 have jk:∀M',FrM M M' [x.b,x.g,x.u]->∀a kv,M a=some (.dic kv)->M' a=some (.dic kv):=λM' fr a kv e=>fr a _ e λc=>b.dic e (by
  simp only[Boat.ads,Xl,XJ,or_false]at c ⊢;rcases c with c|c|c<;>simp[c])
 have jm:∀M',FrM M M' [x.b,x.g,x.u]->M' r=some (runO W R):=λM' fr=>fr _ _ ob λc=>b.run ob (by
  simp only[Boat.ads,Xl,XJ,or_false]at c ⊢;rcases c with c|c|c<;>simp[c])
 have glo:x.gl∉ [x.b,x.g,x.u]:=Ri b.fy b.gv;have tlo:x.tl∉ [x.b,x.g,x.u]:=Ri b.fy b.tk;have adF:∀M',FrM M M' [x.b,x.g,x.u]->FrM M M' x.ads:=λM' fr a o e hn=>fr a o e λc=>hn (by
  simp only[Boat.ads,Xl,XJ,or_false]at c ⊢;rcases c with c|c|c<;>simp[c])
 delta FO Oy
 simp![ob,runO,valM,Fer.mv,hb,vb]
 delta Ox
 simp![Fer.mv]
 refine⟨o,ρ,W.w,f.name,rfl,?_⟩;delta Ow
 simp![Fer.mv]
 refine Y4 (λcg=>?_) (λcg=>?_)
 · -- the giver's end
  have wsh:Y5 o f.name=true->∃T,o=some (.give f.name T):=λe=>by
   rcases o with _|s
   ·cases e
   ·cases s with
    |take g y=>
     obtain rfl:g=f.name:=of_decide_eq_true e;exact absurd (cg.trans ((hE _ rfl) f fm rfl).symm) fok.ne
    |give g T=>
     obtain rfl:g=f.name:=of_decide_eq_true e;exact⟨T,rfl⟩
    |put _ _=>cases e
    |jump _ _=>cases e
  have go:∀(xo:Option Nat) (v:MV),v=wM xo->Bu W.w f o ρ=xo->(xo=none\/∃T n,o=some (.give f.name T)/\askO o ρ W.w=.tup [.str "give",.str f.name,.int ((n:Nat):Int)]/\xo=some n/\n<2^W.w)->
    Vn [.ref x.b,.int R.m,.int c,v] M (fun v1 M1=>wSs ([("is_wish_of",Wo),("Ferry_ring_giver",Vn),("Ferry_ring_taker",Wl)]:List (Str×SpM)) FN {nx:=fun σ M=>wSs ([("is_wish_of",Wo),("Ferry_ring_giver",Vn),("Ferry_ring_taker",Wl)]:List (Str×SpM)) FM {nx:=fun _ M'=>Q .non M',rt:=Q} σ M,rt:=Q} [some (.ref r),some f.mv,some (.str z),some (.int c),some (askO o ρ W.w),some (.ref x.b),some (.bl (Y5 o f.name)),some v1] M1):=by
   intro xo v hv eN hxo;subst hv;have eR:x.A.giver R.m c xo=Ux W.w f z R.m c o ρ x.A:=by rw[Ux,if_pos cg,eN]
   have eS:smpA f z c x.A=Xh x.A.k (x.A.gSamp c):=if_pos cg;have eH:hitA W.w f z o ρ x.A=x.A.gives xo:=by rw[hitA,if_pos cg,eN]
   refine⟨x.b,x.p,x.g,x.u,x.A,R.m,c,xo,rfl,b.fy,VO b.gm hmj,VO b.tm hmj,λp' M1 hp' fr fy=>?_⟩;have gl1:=fr _ _ b.gv glo;have tl1:=fr _ _ b.tk tlo;have n1:x.gl≠p':=neM b.gv hp';have n2:x.tl≠p':=neM b.tk hp';have ads:∀(A:Ab),∀a∈(⟨x.b,p',x.g,x.u,x.gl,x.tl,A⟩:Boat).ads,a∈x.ads\/M a=none:=λA a ha=>by
    simp only[Boat.ads,Xl,XJ,or_false]at ha ⊢;rcases ha with e|e|e|e|e|e
    ·exact .inl (.inl e)
    ·exact .inr (e▸hp')
    ·exact .inl (.inr (.inr (.inl e)))
    ·exact .inl (.inr (.inr (.inr (.inl e))))
    ·exact .inl (.inr (.inr (.inr (.inr (.inl e)))))
    ·exact .inl (.inr (.inr (.inr (.inr (.inr e)))))
   delta FN;simp!;by_cases gvs:x.A.gives xo=true
   ·have eA:(x.A.giver R.m c xo).ws=x.A.ws++[xo.getD 0]:=if_pos gvs;rcases hxo with e|⟨T,n,eo,ea,rfl,hn⟩
    ·subst e;cases gvs
    rw[gvs];have g1:=jk _ fr _ _ hg;have r1:=jm _ fr;simp!;delta Ot
    simp![Fer.mv,r1,runO,valM,g1,vg,gl1,ea]
    refine⟨⟨_,rfl⟩,by rw[Xc];lia,?_⟩
    have eM:x.A.ws.map natM++[MV.int (n:Int)]=(x.A.giver R.m c (some n)).ws.map natM:=by rw[eA,XV];rfl
    rw[eM];have fy2:=fy.put gl1 n1 ((x.A.giver R.m c (some n)).ws.map natM);have gl2:updM M1 x.gl (.lst ((x.A.giver R.m c (some n)).ws.map natM)) x.gl=_:=Xb;have tl2:updM M1 x.gl (.lst ((x.A.giver R.m c (some n)).ws.map natM)) x.tl=_:=(X7 (XQ b.n1.1)).trans tl1;have fr2:FrM M (updM M1 x.gl (.lst ((x.A.giver R.m c (some n)).ws.map natM))) x.ads:=λa o e hn=>(X7 (λz=>hn (by simp[Boat.ads,z]))).trans (adF _ fr a o e hn)
    generalize updM M1 x.gl _=M2 at*;delta Os;simp!;have tn:(x.A.giver R.m c (some n)).tn≤x.A.ws.length:=by
     have:=b.fy.ok.lg1;have:=(b.fy.ok.tb _ (_Q (by rw[b.fy.ok.tl];exact b.fy.ok.gl.1))).2
     have:=(b.fy.ok.tb _ (_Q (by rw[b.fy.ok.tl];exact b.fy.ok.gl.1))).1
     have:=b.fy.ok.lt1;show x.A.tn≤_;lia
    have hy:BoatAt M2 f W.w (R.m+1) ⟨x.b,p',x.g,x.u,x.gl,x.tl,x.A.giver R.m c (some n)⟩:=⟨fy2,gl2,by
      show M2 x.tl=some (.lst (((x.A.giver R.m c (some n)).ws.take (x.A.giver R.m c (some n)).tn).map natM));rw[tl2,eA,GU tn];rfl,⟨b.n1.1,n1,n2⟩,b.k,by show R.m<R.m+1;lia,by show x.A.tm<R.m+1;have:=b.tm;lia,λu hu=>by
      have hu:u∈(x.A.giver R.m c (some n)).ws:=hu;rw[eA]at hu;rcases Yw.mp hu with hu|hu
      ·exact b.wd u hu
      ·obtain rfl:u=n:=by simpa using hu
       exact hn⟩
    obtain⟨A1,A2⟩:=h.boat (y:=⟨x.b,p',x.g,x.u,x.gl,x.tl,x.A.giver R.m c (some n)⟩) (mm':=λi=>if i=j then R.m+1 else mm i) hf hx fr2 (by show BoatAt _ _ _ (if j=j then R.m+1 else mm j) _;rw[if_pos rfl];exact hy) rfl rfl rfl (ads _) mm'
    rw[<- ea];have eV:YK W.w f z o ρ x.A=askO o ρ W.w:=by rw[YK,eH,if_pos gvs,if_pos cg]
    have:=q _ M2 A1 A2 eR (eV▸.inr (.inl ⟨T,eo,rfl⟩));rw[eV,eS]at this;exact this
   ·have eA:(x.A.giver R.m c xo).ws=x.A.ws:=if_neg gvs;rw[Bool.not_eq_true]at gvs;rw[gvs];simp!;delta Ou;simp!;have hy:BoatAt M1 f W.w (R.m+1) ⟨x.b,p',x.g,x.u,x.gl,x.tl,x.A.giver R.m c xo⟩:=⟨fy,by
      show M1 x.gl=some (.lst ((x.A.giver R.m c xo).ws.map natM));rw[eA];exact gl1,by
      show M1 x.tl=some (.lst (((x.A.giver R.m c xo).ws.take (x.A.giver R.m c xo).tn).map natM));rw[eA];exact tl1,⟨b.n1.1,n1,n2⟩,b.k,by show R.m<R.m+1;lia,by show x.A.tm<R.m+1;have:=b.tm;lia,by
      show∀u∈(x.A.giver R.m c xo).ws,u<2^W.w;rw[eA];exact b.wd⟩
    obtain⟨A1,A2⟩:=h.boat (y:=⟨x.b,p',x.g,x.u,x.gl,x.tl,x.A.giver R.m c xo⟩) (mm':=λi=>if i=j then R.m+1 else mm i) hf hx (adF _ fr) (by show BoatAt _ _ _ (if j=j then R.m+1 else mm j) _;rw[if_pos rfl];exact hy) rfl rfl rfl (ads _) mm'
    have eV:YK W.w f z o ρ x.A=.non:=by rw[YK,eH,gvs];rfl
    have:=q _ M1 A1 A2 eR (eV▸.inl rfl);rw[eV,eS]at this;exact this
  delta Ov
  simp![fe,XT,valM,ob,runO]
  by_cases hw:Y5 o f.name=true
  ·obtain⟨T,eo⟩:=wsh hw;obtain⟨v0,v1⟩:=hT _ T eo;obtain⟨n,en,hn⟩:=_mG v0 v1;have ea:askO o ρ W.w=.tup [.str "give",.str f.name,.int (n:Int)]:=by rw[eo];show MV.tup [.str "give",.str f.name,.int (T.val ρ W.w)]=_;rw[en]
   have:=go (some n) _ rfl (by subst eo;show(if f.name=f.name then some (T.val ρ W.w).toNat else none)=some n;rw[if_pos rfl,en];rfl) (.inr ⟨T,n,eo,ea,rfl,hn⟩)
   rw[if_pos hw]
   simp![ea]
   rw[<- ea];exact this
  ·have gn:Bu W.w f o ρ=none:=by
    rcases o with _|s
    ·rfl
    ·cases s with
     |give g T=>exact if_neg λe=>hw (decide_eq_true e)
     |take _ _=>rfl
     |put _ _=>rfl
     |jump _ _=>rfl
   have:=go none _ rfl gn (.inl rfl);rw[if_neg hw]
   try simp!
   exact this
 · -- the taker's end
  have zt:f.taker=z:=(hz.resolve_left λe=>cg e.symm).symm;have wsh:Y5 o f.name=true->∃y,o=some (.take f.name y):=λe=>by
   rcases o with _|s
   ·cases e
   ·cases s with
    |take g y=>
     obtain rfl:g=f.name:=of_decide_eq_true e;exact⟨y,rfl⟩
    |give g T=>
     obtain rfl:g=f.name:=of_decide_eq_true e;exact absurd ((hE _ rfl) f fm rfl) cg
    |put _ _=>cases e
    |jump _ _=>cases e
  delta FM
  simp![fe,XT,valM,ob,runO]
  refine⟨x.b,x.p,x.g,x.u,x.A,R.m,c,Y5 o f.name,rfl,b.fy,VO b.gm hmj,VO b.tm hmj,λM1 fr fy=>?_⟩;have gl1:=fr _ _ b.gv glo;have tl1:=fr _ _ b.tk tlo;have ads:∀(A:Ab),∀a∈(⟨x.b,x.p,x.g,x.u,x.gl,x.tl,A⟩:Boat).ads,a∈x.ads\/M a=none:=λA a ha=>.inl ha;have eR:x.A.taker R.m c (Y5 o f.name)=Ux W.w f z R.m c o ρ x.A:=by rw[Ux,if_neg cg]
  have eS:smpA f z c x.A=Xh x.A.k (x.A.tSamp c):=if_neg cg;have eH:hitA W.w f z o ρ x.A=x.A.takes (Y5 o f.name):=if_neg cg;delta Oq;simp!;by_cases tks:x.A.takes (Y5 o f.name)=true
  ·have eT:takM x.A (Y5 o f.name)=.int (x.A.ws.getD x.A.tn 0:Nat):=if_pos tks;have eA:(x.A.taker R.m c (Y5 o f.name)).tn=x.A.tn+1:=if_pos tks;have hw:Y5 o f.name=true:=((XW _ _).mp tks).1;have hlt:x.A.tn<x.A.ws.length:=by
    have m2:=_Q (xs:=x.A.tx) (by rw[b.fy.ok.tl];exact b.fy.ok.gl.1)
    have t1:=b.fy.ok.tb _ m2;have t2:=b.fy.ok.lt1;have t3:XI x.A.tx≠x.A.tn:=of_decide_eq_true ((XW _ _).mp tks).2;lia
   obtain⟨y,eo⟩:=wsh hw;have gd:x.A.ws.getD x.A.tn 0=x.A.ws[x.A.tn]:=by rw[Ym,Xa hlt];rfl
   rw[eT];have t1:=jk _ fr _ _ ht;have r1:=jm _ fr;simp!;delta Oo
   simp![Fer.mv,r1,runO,valM,t1,vt,tl1]
   refine⟨⟨_,rfl⟩,by rw[Xc,YN];lia,?_⟩
   have eM:(x.A.ws.take x.A.tn).map natM++[MV.int ((x.A.ws.getD x.A.tn 0:Nat):Int)]=(x.A.ws.take (x.A.tn+1)).map natM:=by
    rw[ZC,Xa hlt,XV,gd];rfl
   rw[eM];have fy2:=fy.put tl1 b.n1.2.2 ((x.A.ws.take (x.A.tn+1)).map natM);have tl2:updM M1 x.tl (.lst ((x.A.ws.take (x.A.tn+1)).map natM)) x.tl=_:=Xb;have gl2:updM M1 x.tl (.lst ((x.A.ws.take (x.A.tn+1)).map natM)) x.gl=_:=(X7 b.n1.1).trans gl1;have fr2:FrM M (updM M1 x.tl (.lst ((x.A.ws.take (x.A.tn+1)).map natM))) x.ads:=λa o e hn=>(X7 (λz=>hn (by simp[Boat.ads,z]))).trans (adF _ fr a o e hn)
   generalize updM M1 x.tl _=M2 at*;delta On
   simp![Fer.mv]
   have hy:BoatAt M2 f W.w (R.m+1) ⟨x.b,x.p,x.g,x.u,x.gl,x.tl,x.A.taker R.m c (Y5 o f.name)⟩:=⟨fy2,gl2,by
     show M2 x.tl=some (.lst ((x.A.ws.take (x.A.taker R.m c (Y5 o f.name)).tn).map natM));rw[eA];exact tl2,b.n1,b.k,by show x.A.gm<R.m+1;have:=b.gm;lia,by show R.m<R.m+1;lia,b.wd⟩
   obtain⟨A1,A2⟩:=h.boat (y:=⟨x.b,x.p,x.g,x.u,x.gl,x.tl,x.A.taker R.m c (Y5 o f.name)⟩) (mm':=λi=>if i=j then R.m+1 else mm i) hf hx fr2 (by show BoatAt _ _ _ (if j=j then R.m+1 else mm j) _;rw[if_pos rfl];exact hy) rfl rfl rfl (ads _) mm'
   have eV:YK W.w f z o ρ x.A=.tup [.str "take",.str f.name,.int (x.A.ws.getD x.A.tn 0:Nat)]:=by rw[YK,eH,if_pos tks,if_neg cg]
   have:=q _ M2 A1 A2 eR (eV▸.inr (.inr ⟨y,_,eo,by rw[gd];exact b.wd _ (XU hlt),rfl⟩))
   rw[eV,eS]at this;exact this
  ·have eT:takM x.A (Y5 o f.name)=.non:=if_neg tks;have eA:(x.A.taker R.m c (Y5 o f.name)).tn=x.A.tn:=if_neg tks;rw[eT];simp!;delta Op;simp!;have hy:BoatAt M1 f W.w (R.m+1) ⟨x.b,x.p,x.g,x.u,x.gl,x.tl,x.A.taker R.m c (Y5 o f.name)⟩:=⟨fy,gl1,by
     show M1 x.tl=some (.lst ((x.A.ws.take (x.A.taker R.m c (Y5 o f.name)).tn).map natM));rw[eA];exact tl1,b.n1,b.k,by show x.A.gm<R.m+1;have:=b.gm;lia,by show R.m<R.m+1;lia,b.wd⟩
   obtain⟨A1,A2⟩:=h.boat (y:=⟨x.b,x.p,x.g,x.u,x.gl,x.tl,x.A.taker R.m c (Y5 o f.name)⟩) (mm':=λi=>if i=j then R.m+1 else mm i) hf hx (adF _ fr) (by show BoatAt _ _ _ (if j=j then R.m+1 else mm j) _;rw[if_pos rfl];exact hy) rfl rfl rfl (ads _) mm'
   have eV:YK W.w f z o ρ x.A=.non:=by rw[YK,eH,if_neg tks]
   have:=q _ M1 A1 A2 eR (eV▸.inl rfl);rw[eV,eS]at this;exact this
abbrev GR:SpM:=λvs M Q=>∃(ns:List Str) (ys:List MV) (z:Str) (i:Nat) (y:MV),vs=[.tup ys,.str z]/\(∀(j:Nat) u,ys[j]?=some u->∃x r,u=.tup (.str x::r)/\ns[j]?=some x)/\ns.Nodup/\ns[i]?=some z/\ys[i]?=some y/\Q y M
theorem _8X:MonW GR:=by walk_at "m"
theorem _dd(T:Txt K mg t):FnOk P w K mg base CX0 1 t.eJ t.gX ["row","name"] (liSp K GR):=by
 refine T.cc.F.okM _d5 (fC (G:=NO) (Φ:=[]) T rfl nl0 nl0) FF _dD (λvs M Q h=>?_) (λvs M Q h=>?_)
 ·obtain⟨_,_,_,_,_,rfl,_⟩:=h;rfl
 obtain⟨ns,ys,z,k,y,rfl,ha,nd,hn,hy,q⟩:=h;show wSs _ _ _ [some (.tup ys),some (.str z),none] M;delta FF NN;simp!;obtain⟨J,hJ⟩:∃J:Nat->Sm->MH->Prop,∀j σ M',J j σ M'↔M'=M/\j≤k/\∃v,σ=[some (.tup ys),some (.str z),v]:=⟨_,λ_ _ _=>Yf⟩;refine⟨J,(hJ _ _ _).mpr ⟨rfl,YH _,_,rfl⟩,λj σ M' h=>trivial,?_,?_⟩
 ·rintro j u σ M' hu h;obtain⟨rfl,hj,v,rfl⟩:=(hJ _ _ _).mp h;have hu:ys[j]?=some u:=hu;obtain⟨x,r,rfl,hx⟩:=ha j u hu;delta NM;simp!;refine Y4 (λe=>?_) (λe=>?_)
  ·subst e;have:=(Ww (XG.mp hx).1 nd).mp (hx.trans hn.symm);subst this;rw[hy]at hu;cases hu;delta NL;simp!;exact q
  ·refine(hJ _ _ _).mpr ⟨rfl,?_,_,rfl⟩;rcases Nat.lt_or_eq_of_le hj with l|l
   ·exact l
   ·subst l;rw[hx]at hn;exact absurd (Y7 hn) e
 ·rintro σ M' h;obtain⟨rfl,hj,v,rfl⟩:=(hJ _ _ _).mp h;have:=(XG.mp hy).1;have hj:ys.length≤k:=hj;lia
abbrev Vq:SpM:=λvs M Q=>∃(W:Wld) (i:Nat) (I:Isl),vs=[W.mv,.str I.name]/\W.Good/\W.isl[i]?=some I/\Q I.mv M
theorem _ah:MonW Vq:=by walk_at "m"
theorem _eg(T:Txt K mg t):FnOk P w K mg base CX0 2 t.dA t.cG ["world","name"] (liSp K Vq):=by
 refine T.bF.F.okM _dX (fC (G:=NQ) (Φ:=[("one_called",GR)]) T rfl (fMc ⟨_8X,nl0⟩) (fMc ⟨fE T.cc (_dd T),nl0⟩)) FG _eN (fun vs M Q h=>?_) (fun vs M Q h=>?_)
 ·obtain⟨_,_,_,rfl,_⟩:=h;rfl
 obtain⟨W,i,I,rfl,G,hI,q⟩:=h;show wSs _ _ _ [some W.mv,some (.str I.name)] M;delta FG NP;rw[Wld.mv];simp!;refine⟨W.ins,W.isl.map Isl.mv,I.name,i,I.mv,rfl,λj u hu=>?_,G.in_nd,UV hI,by rw[Xr,hI];rfl,q⟩
 obtain⟨hj,rfl⟩:=YY hu;exact⟨_,_,rfl,UV (Xa hj)⟩
def RA(w:Nat)(o:Option Stp)(ρ:Str->Int)(v:MV):Prop:=v=UU o\/(∃f T,o=some (.give f T)/\v=askO o ρ w)\/∃(f x:Str) (n:Nat),o=some (.take f x)/\n<2^w/\v=.tup [.str "take",.str f,.int n]
theorem RunAt.tick{M:MH}{W:Wld}{r:Addr}{R:RunS}{mm mm':Nat->Int}(h:RunAt M W r R mm)(hm:∀i,i<W.fer.length->mm i≤mm' i)(m:Int):RunAt (updM M r (runO W {R with m:=m})) W r {R with m:=m} mm'/\Kept M (updM M r (runO W {R with m:=m})) r R {R with m:=m}:=by
 have ne:∀a kv,M a=some (.dic kv)->a≠r:=λa kv e z=>by subst z;rw[h.ob]at e;cases e
 have d:∀a kv,M a=some (.dic kv)->updM M r (runO W {R with m:=m}) a=some (.dic kv):=λa kv e=>(X7 (ne a kv e)).trans e;refine⟨⟨Xb,d _ _ h.hn,d _ _ h.hw,d _ _ h.hs,d _ _ h.hb,d _ _ h.hg,d _ _ h.ht,h.nl,h.wl,h.sl,h.bl,h.nb,λi I a hI ha=>let⟨k,e,o⟩:=h.wa i I a hI ha;⟨k,d _ _ e,o⟩,λj f x hf hx=>?_,h.sep,h.nd⟩,⟨λa o e hn=>(X7 λz=>hn (by simp[RunS.own,z])).trans e,λa ha=>.inl ha⟩⟩
 have b:=h.ba j f x hf hx;exact b.fr (hm j (XG.mp hf).1) λa ha o e=>(X7 λz=>b.run h.ob (by rw[<- z];exact ha)).trans e
theorem RunAt.le{M:MH}{W:Wld}{r:Addr}{R:RunS}{mm mm':Nat->Int}(h:RunAt M W r R mm)(hm:∀i,mm i≤mm' i):RunAt M W r R mm':={h with ba:=λj f x hf hx=>(h.ba j f x hf hx).fr (hm j) λ_ _ _ e=>e}
theorem RunAt.off{M:MH}{W:Wld}{r:Addr}{R:RunS}{mm:Nat->Int}(h:RunAt M W r R mm){p:Addr}{xs:List MV}(hp:M p=some (.lst xs))(hn:p∉R.own r)(o:MO):RunAt (updM M p o) W r R mm:=by
 have d:∀a kv,M a=some (.dic kv)->updM M p o a=some (.dic kv):=λa kv e=>(X7 λz=>by subst z;rw[hp]at e;cases e).trans e
 refine⟨(X7 λz=>hn (by rw[<- z];exact Y8 ..)).trans h.ob,d _ _ h.hn,d _ _ h.hw,d _ _ h.hs,d _ _ h.hb,d _ _ h.hg,d _ _ h.ht,h.nl,h.wl,h.sl,h.bl,h.nb,λi I a hI ha=>let⟨k,e,u⟩:=h.wa i I a hI ha;⟨k,d _ _ e,u⟩,λj f x hf hx=>(h.ba j f x hf hx).fr (U0 _) λa ha u e=>(X7 λz=>hn ?_).trans e,h.sep,h.nd⟩
 rw[<- z];exact XS _ (XS _ (XS _ (XS _ (VC.mpr ⟨x,Xw hx,ha⟩))))
noncomputable def atB(W:Wld)(z:Str)(k:Nat):Bool:=match W.fer[k]? with
 |some f=>decide (z=f.giver\/z=f.taker)
 |none=>false
def smpM(W:Wld)(bs:List Boat)(z:Str)(c k:Nat):MV:=match W.fer[k]?,bs[k]? with
 |some f,some a=>.tup [.str f.name,.int (smpA f z (c/2^(8*k)) a.A:Nat)]
 |_,_=>.non
def ixs(W:Wld)(z:Str)(j:Nat):List Nat:=(Xs j).filter (atB W z)
theorem RB{W:Wld}{z:Str}{j:Nat}{f:Fer}(hf:W.fer[j]?=some f):atB W z j=decide (z=f.giver\/z=f.taker):=by unfold atB;rw[hf]
theorem RC{W:Wld}{bs:List Boat}{z:Str}{c j:Nat}{f:Fer}{a:Boat}(hf:W.fer[j]?=some f) (ha:bs[j]?=some a):smpM W bs z c j=.tup [.str f.name,.int (smpA f z (c/2^(8*j)) a.A:Nat)]:=by unfold smpM;rw[hf,ha]
theorem RD{W:Wld}{z:Str}{j:Nat}{f:Fer}(hf:W.fer[j]?=some f) (c:z=f.giver\/z=f.taker):ixs W z (j+1)=ixs W z j++[j]:=by
 unfold ixs;rw[BQ,BL,List.filter_cons,RB hf,decide_eq_true c];rfl
theorem RE{W:Wld}{z:Str}{j:Nat}{f:Fer}(hf:W.fer[j]?=some f) (c:¬(z=f.giver\/z=f.taker)):ixs W z (j+1)=ixs W z j:=by
 unfold ixs;rw[BQ,BL,List.filter_cons,RB hf,decide_eq_false c];simp
theorem RF{W:Wld}{z:Str}{j:Nat}:(ixs W z j).length≤j:=Y2 (List.length_filter_le ..) (by rw[UE];exact Xe _)
def newA(w:Nat)(z:Str)(m:Int)(c:Nat)(o:Option Stp)(ρ:Str->Int)(k:Nat)(f:Fer)(A:Ab):Ab:=if z=f.giver\/z=f.taker then Ux w f z m (c/2^(8*k)) o ρ A else A
theorem _kC{w:Nat}{z:Str}{m:Int}{c:Nat}{o:Option Stp}{ρ:Str->Int}{k:Nat}{f:Fer}{A:Ab}:(newA w z m c o ρ k f A).ws.length≤A.ws.length+1:=by
 unfold newA;split
 ·unfold Ux;split
  ·show(if A.gives _=true then A.ws++[_]else A.ws).length≤_;split
   ·rw[Yn];exact Xe _
   ·exact UI _
  ·exact UI _
 ·exact UI _
def Hit(W:Wld)(bs:List Boat)(z:Str)(o:Option Stp)(ρ:Str->Int)(k:Nat)(f:Fer)(a:Boat):Prop:=W.fer[k]?=some f/\bs[k]?=some a/\(z=f.giver\/z=f.taker)/\hitA W.w f z o ρ a.A=true
def WhatTo(W:Wld)(bs:List Boat)(z:Str)(o:Option Stp)(ρ:Str->Int)(j:Nat)(v:MV):Prop:=(v=UU o/\∀k f a,k<j->¬Hit W bs z o ρ k f a)\/∃k f a,k<j/\Hit W bs z o ρ k f a/\v=YK W.w f z o ρ a.A
theorem WhatTo.stay{W:Wld}{bs:List Boat}{z:Str}{o:Option Stp}{ρ:Str->Int}{j:Nat}{v:MV}(h:WhatTo W bs z o ρ j v)(n:∀f a,¬Hit W bs z o ρ j f a):WhatTo W bs z o ρ (j+1) v:=by
 rcases h with⟨e,h⟩|⟨k,f,a,hk,h,e⟩
 ·refine .inl ⟨e,λk f a hk=>?_⟩;rcases DK.mp hk with hk|rfl
  ·exact h k f a hk
  ·exact n f a
 ·exact .inr ⟨k,f,a,ZE hk,h,e⟩
def BsTo(W:Wld)(bs bs':List Boat)(z:Str)(m:Int)(c:Nat)(o:Option Stp)(ρ:Str->Int)(j:Nat):Prop:=∀k f a,k<j->W.fer[k]?=some f->bs[k]?=some a->∃a',bs'[k]?=some a'/\a'.A=newA W.w z m c o ρ k f a.A
theorem BsTo.len{W:Wld}{bs bs':List Boat}{z:Str}{m:Int}{c:Nat}{o:Option Stp}{ρ:Str->Int}{j:Nat}(h:BsTo W bs bs' z m c o ρ j)(hl:bs'.length=W.fer.length)(hb:bs.length=W.fer.length)(hr:∀k,j≤k->bs'[k]?=bs[k]?) {n:Nat} (hn:∀y∈bs,y.A.ws.length≤n):∀y∈bs',y.A.ws.length≤n+1:=λy hy=>by
 obtain⟨k,hk,rfl⟩:=Y1 hy;by_cases e:k<j
 ·have l2:k<bs.length:=by rw[hb,<- hl];exact hk
  obtain⟨a',h1,h2⟩:=h k _ _ e (Xa (by rw[<- hl];exact hk)) (Xa l2)
  rw[Xa hk]at h1;cases h1;rw[h2];exact Y2 _kC (Nat.succ_le_succ (hn _ (XU l2)))
 ·have e1:=(hr k (Nat.le_of_not_lt e)).symm.trans (Xa hk);exact Nat.le_succ_of_le (hn _ (Xw e1))
abbrev Bv:SpM:=λvs M Q=>∃(r:Addr) (W:Wld) (R:RunS) (i:Nat) (I:Isl) (c n:Nat) (o:Option Stp),vs=[.ref r,.str I.name,.int c]/\W.Good/\RunAt M W r R (λ_=>R.m)/\W.isl[i]?=some I/\(∀y∈R.bs,y.A.ws.length≤900)/\R.nums[i]?=some n/\I.stps[n]?=o/\
 ∀(ρ:Str->Int) R' M' v p,RunAt M' W r R' (λ_=>R'.m)->Kept M M' r R R'->R'.m=R.m+1->M p=none->p∉R'.own r->M' p=some (.lst ((ixs W I.name W.fer.length).map (smpM W R.bs I.name c)))->BsTo W R.bs R'.bs I.name R.m c o ρ W.fer.length->WhatTo W R.bs I.name o ρ W.fer.length v->Q (.tup [.str I.name,.int n,v,.ref p]) M'
theorem RG:MonW Bv:=by walk_at "m"
theorem Uy{z a b:Str}:inV (toV (.str z)) ([MV.str a,.str b].map toV)=decide (z=a\/z=b):=by
 have:=Gb (z:=z) (zs:=[a,b])
 simpa using this
set_option tactic.hygienic true in
theorem _fl(T:Txt K mg t):FnOk P w K mg base CX0 53 t.bu t.b9 ["self","name","choice"] (liSp K Bv):=by
 refine T.eP.okM _fi (Ua (k:=52) (G:=Om) (Φ:=[("island_of",Vq),("two_to",Zs),("what_alone",Vo),("wish",Vj)]) (Ψ:=[("Run_go_on",UW),("Run_ring_ferry",Vp)]) (Χ:=[("island_of",Vq),("two_to",Zs),("what_alone",Vo),("wish",Vj),("Run_go_on",UW),("Run_ring_ferry",Vp)]) rfl (Uo T) (Up T) rfl (fMc ⟨_ah,(fMc ⟨CY,(fMc ⟨_8W,(fMc ⟨_fo,(fMc ⟨_ak,(fMc ⟨_5r,nl0⟩)⟩)⟩)⟩)⟩)⟩) (fMc ⟨fE T.bF (_eg T),(fMc ⟨fE T.aC (CZ T),(fMc ⟨fE T.bU (_dc T),(fMc ⟨fE T.bc (_n2 T),nl0⟩)⟩)⟩)⟩) (fMc ⟨⟨_,_,rfl,_,_,_,_,(FnOk.mono (_el T) (by decide)),T.ae,T.ak,T.cq,T.fq⟩,(fMc ⟨⟨_,_,rfl,_,_,_,_,(FnOk.mono (_8U T) (by decide)),T.ae,T.ak,T.dG,T.fT⟩,nl0⟩)⟩) nl0 (Uq T)) FL _fS (fun vs M Q h=>?_) (fun vs M Q h=>?_)
 ·obtain⟨_,_,_,_,_,_,_,_,rfl,_⟩:=h;rfl
 obtain⟨r,W,R,i,I,c,n,o,rfl,G,h,hI,hL,hn,ho,q⟩:=h;show wSs _ _ _ [some (.ref r),some (.str I.name),some (.int c),none,none,none,none,none,none,none,none] M;have hi:i<W.isl.length:=(XG.mp hI).1;have im:I∈W.isl:=Xw hI;have ok:=G.io I im;have f6:=G.f6;obtain⟨a,ha⟩:∃a,R.ws[i]?=some a:=⟨_,Xa (by rw[h.wl];exact hi)⟩
 obtain⟨kvs,hk,wk⟩:=h.wa i I a hI ha;have ob:=h.ob;have hpn:=h.hn;have hpw:=h.hw;have vn:=h.nml G hI hn;have vw:=h.wdl G hI ha;delta FL Ol
 simp![ob,runO,valM]
 refine⟨W,i,I,rfl,G,hI,?_⟩
 simp![Isl.mv]
 delta Oj
 simp![ob,runO,valM,hpn,vn]
 delta Oi
 simp![ob,runO,valM,Wld.mv,hpw,vw]
 refine⟨_,a,I.stps,n,W.w,kvs,rhoK kvs,I.vars,rfl,.inl rfl,λs hs=>Rz (ok.st s hs),h.nb i I n hI hn,G.w1,G.w2,hk,wk.reads ok.nd,?_⟩;rw[_q2];rw[ho];have hE:∀s,o=some s->ZO W.fer I.name s:=λs e=>G.en I im s (Xw (ho.trans e));have hT:∀g T,o=some (.give g T)->0≤T.val (rhoK kvs) W.w/\T.val (rhoK kvs) W.w<2^W.w:=λg T e=>T.val_in G.w1 λy hy=>(wk.at ok.nd ((ok.st _ (Xw (ho.trans e))).2.2.2 y hy)).2;generalize rhoK kvs=ρ at*;delta Oh;simp!;refine⟨o,ρ,W.w,rfl,?_⟩;delta Og;simp!;intro p hp;have s1:=SameM.new hp (.lst []);have hp1:updM M p (.lst []) p=some (.lst []):=Xb;have h1:=h.keep s1;have k1:Kept M (updM M p (.lst [])) r R R:=Kept.new s1;have own_some:∀b∈R.own r,∃u,M b=some u:=λb hb=>by
  simp only[RunS.own,Xl,VC]at hb;rcases hb with rfl|rfl|rfl|rfl|⟨x,hx,hb⟩
  ·exact⟨_,ob⟩
  ·exact⟨_,hpn⟩
  ·exact⟨_,hpw⟩
  ·exact⟨_,h.hs⟩
  ·obtain⟨j,hj,rfl⟩:=Y1 hx;obtain⟨u,e,_⟩:=(h.ba j _ _ (Xa (by rw[<- h.bl];exact hj)) (Xa hj)).at_ b hb
   exact⟨u,e⟩
 have pno:p∉R.own r:=λz=>by
  obtain⟨u,e⟩:=own_some p z;rw[hp]at e;cases e
 generalize updM M p _=M1 at*;have ob1:=h1.ob;delta Of
 simp![ob1,runO,valM,Wld.mv,Xc]
 obtain⟨J,hJ⟩:∃J:Nat->Sm->MH->Prop,∀j σ M',J j σ M'↔∃(bs:List Boat) (v:MV) (v8 v9 v10:Option MV),RunAt M' W r {R with bs:=bs} (λk=>if k<j then R.m+1 else R.m)/\Kept M M' r R {R with bs:=bs}/\RA W.w o ρ v/\WhatTo W R.bs I.name o ρ j v/\M' p=some (.lst ((ixs W I.name j).map (smpM W R.bs I.name c)))/\p∉RunS.own {R with bs:=bs} r/\(∀k,j≤k->bs[k]?=R.bs[k]?)/\BsTo W R.bs bs I.name R.m c o ρ j/\
  σ=[some (.ref r),some (.str I.name),some (.int c),some (.tup (I.stps.map Stp.mv)),some (.int n),some (askO o ρ W.w),some v,some (.ref p),v8,v9,v10]:=⟨_,λ_ _ _=>Yf⟩
 refine⟨by lia,by lia,J,(hJ _ _ _).mpr ⟨R.bs,_,_,_,_,by simpa using h1,k1,.inl rfl,.inl ⟨rfl,λk f a hk=>absurd hk (WF _)⟩,hp1,pno,λ_ _=>rfl,λk f a hk=>absurd hk (WF _),rfl⟩,λj σ M' h=>trivial,?_,?_⟩
 ·rintro j y σ M2 hy hj;obtain⟨bs,v,v8,v9,v10,hR,hK,hv,hw,hxs,hpo,hbs,hto,rfl⟩:=(hJ _ _ _).mp hj;obtain⟨hjl,rfl⟩:=Wg hy;have hjl:j<W.fer.length:=by simpa using hjl
  have ej:((0:Int)+(j:Nat))=(j:Nat):=by lia
  have hf:W.fer[j]?=some W.fer[j]:=Xa hjl;generalize W.fer[j]=f at*;have bl1:bs.length=W.fer.length:=hR.bl;obtain⟨x,hx⟩:∃x,bs[j]?=some x:=⟨_,Xa (by rw[bl1];exact hjl)⟩
  have hx0:R.bs[j]?=some x:=(hbs j (Xe _)).symm.trans hx;have xl:=RF (W:=W) (z:=I.name) (j:=j);have ob2:=hR.ob;have af:atI (W.fer.map Fer.mv) (j:Int)=some f.mv:=YB (by rw[Xr,hf];rfl)
  rw[ej];delta Oe
  simp![ob2,runO,valM,Wld.mv,af]
  delta Od
  simp![Fer.mv]
  refine⟨rfl,rfl,?_⟩;rw[Uy];simp!;refine Y4 (λcz=>?_) (λcz=>?_)
  ·delta Oc
   simp![ob2,runO,valM]
   have e8:(8:Int)*(j:Int)=((8*j:Nat):Int):=by lia
   rw[e8];refine⟨8*j,rfl,by lia,?_⟩
   simp!;have hc2:(c:Int)/2^(8*j)=((c/2^(8*j):Nat):Int):=by rw[Int.natCast_ediv,V9];rfl
   rw[hc2];refine⟨⟨Wh _,Int.lt_of_le_of_lt (G3 (by lia)) (by decide)⟩,?_⟩
   refine⟨r,W,{R with bs:=bs},_,j,f,I.name,_,o,ρ,x,rfl,G,hR,by simp,hf,cz,hE,hT,λy hy=>Y2 (hto.len bl1 h.bl hbs hL y hy) (by decide),hx,λy M3 a3 a4 eA a5=>?_⟩
   have a3:RunAt M3 W r {R with bs:=bs.set j y} (λi=>if i=j then R.m+1 else if i<j then R.m+1 else R.m):=a3;have a4:Kept M2 M3 r {R with bs:=bs} {R with bs:=bs.set j y}:=a4;have hp3:=a4.fr _ _ hxs hpo;have pno2:p∉RunS.own {R with bs:=bs.set j y} r:=λz=>by
    rcases a4.nw p z with y|y
    ·exact hpo y
    ·rw[hxs]at y;cases y
   have a3':RunAt M3 W r {R with bs:=bs.set j y} (λk=>if k<j+1 then R.m+1 else R.m):=a3.le λk=>by
    by_cases e1:k=j
    ·subst e1;rw[if_pos rfl,if_pos (V4 _)];exact U0 _
    ·rw[if_neg e1];by_cases e2:k<j
     ·rw[if_pos e2,if_pos (by lia)];exact U0 _
     ·rw[if_neg e2,if_neg (by lia)];exact U0 _
   have k3:=hK.trans a4;delta Ob
   simp![Fer.mv,hp3]
   refine⟨⟨_,rfl⟩,by rw[Xc];lia,?_⟩
   have es:(ixs W I.name j).map (smpM W R.bs I.name c)++[.tup [.str f.name,.int (smpA f I.name (c/2^(8*j)) x.A:Nat)]]=(ixs W I.name (j+1)).map (smpM W R.bs I.name c):=by rw[RD hf cz,XV,<- RC hf hx0];rfl
   rw[es];have r4:=a3'.off hp3 pno2 (.lst ((ixs W I.name (j+1)).map (smpM W R.bs I.name c)));have p4:updM M3 p (.lst ((ixs W I.name (j+1)).map (smpM W R.bs I.name c))) p=some (.lst ((ixs W I.name (j+1)).map (smpM W R.bs I.name c))):=Xb;have k4:Kept M (updM M3 p (.lst ((ixs W I.name (j+1)).map (smpM W R.bs I.name c)))) r R {R with bs:=bs.set j y}:=⟨λb u e hb=>(X7 (neM e hp)).trans (k3.fr b u e hb),k3.nw⟩;generalize updM M3 p _=M4 at*;have bs4:∀k,j+1≤k->(bs.set j y)[k]?=R.bs[k]?:=λk hk=>(BJ (by lia)).trans (hbs k (by lia))
   have to4:BsTo W R.bs (bs.set j y) I.name R.m c o ρ (j+1):=λk g a hk hg ha=>by
    rcases DK.mp hk with hk|rfl
    ·obtain⟨a',h1,h2⟩:=hto k g a hk hg ha;exact⟨a',(BJ (by lia)).trans h1,h2⟩
    ·rw[hf]at hg;cases hg;rw[hx0]at ha;cases ha;exact⟨y,by rw[Du (by rw[bl1];exact hjl)],by rw[eA,newA,if_pos cz]⟩
   have fin:∀v3 w8 w9 w10,RA W.w o ρ v3->WhatTo W R.bs I.name o ρ (j+1) v3->J (j+1) [some (.ref r),some (.str I.name),some (.int c),some (.tup (I.stps.map Stp.mv)),some (.int n),some (askO o ρ W.w),some v3,some (.ref p),w8,w9,w10] M4:=λv3 w8 w9 w10 hv3 hw3=>(hJ _ _ _).mpr ⟨_,v3,w8,w9,w10,r4,k4,hv3,hw3,p4,pno2,bs4,to4,rfl⟩;delta Oa;by_cases hh:hitA W.w f I.name o ρ x.A=true
   ·have wt:WhatTo W R.bs I.name o ρ (j+1) (YK W.w f I.name o ρ x.A):=.inr ⟨j,f,x,V4 _,⟨hf,hx0,cz,hh⟩,rfl⟩;rcases a5 with e|⟨T,eo,e⟩|⟨y,m,eo,hm,e⟩
    ·rw[YK,if_pos hh]at e;split at e
     ·rename_i eg
      rw[e]at fin ⊢;cases o with
      |none=>rw[hitA,if_pos eg]at hh;cases hh
      |some s=>cases s<;>cases e
     ·cases e
    ·rw[e]at wt ⊢;have ea:askO o ρ W.w=.tup [.str "give",.str f.name,.int (T.val ρ W.w)]:=by rw[eo];rfl
     simp![ea]
     delta FK;simp!;have:=fin (askO o ρ W.w) (some (.int (j:Int))) (some f.mv) (some (.tup [askO o ρ W.w,.int (smpA f I.name (c/2^(8*j)) x.A:Nat)])) (.inr (.inl ⟨_,T,eo,rfl⟩)) wt;rw[ea]at this;exact this
    ·rw[e]at wt ⊢;simp!;delta FK;simp!;exact fin _ _ _ _ (.inr (.inr ⟨_,y,m,eo,hm,rfl⟩)) wt
   ·have et:YK W.w f I.name o ρ x.A=.non:=if_neg hh;rw[et];simp!;exact fin _ _ _ _ hv (hw.stay λg a hg=>hh (by
     obtain⟨z1,z2,_,z4⟩:=hg;rw[hf]at z1;cases z1;rw[hx0]at z2;cases z2;exact z4))
  ·refine(hJ _ _ _).mpr ⟨bs,v,_,_,_,hR.le λk=>?_,hK,hv,hw.stay λg a hg=>cz (by
     obtain⟨z1,_,z3,_⟩:=hg;rw[hf]at z1;cases z1;exact z3),by rw[RE hf cz];exact hxs,hpo,λk hk=>hbs k (by lia),λk g a hk hg ha=>?_,rfl⟩
   ·show(if k<j then R.m+1 else R.m)≤(if k<j+1 then R.m+1 else R.m);by_cases e2:k<j
    ·rw[if_pos e2,if_pos (by lia)];exact U0 _
    ·rw[if_neg e2];by_cases e3:k<j+1
     ·rw[if_pos e3];lia
     ·rw[if_neg e3];exact U0 _
   ·rcases DK.mp hk with hk|rfl
    ·exact hto k g a hk hg ha
    ·rw[hf]at hg;cases hg;exact⟨a,(hbs k (Xe _)).trans ha,by rw[newA,if_neg cz]⟩
 ·rintro σ M2 hj;obtain⟨bs,v,v8,v9,v10,hR,hK,hv,hw,hxs,hpo,hbs,hto,rfl⟩:=(hJ _ _ _).mp hj;have hw:WhatTo W R.bs I.name o ρ W.fer.length v:=hw;have hto:BsTo W R.bs bs I.name R.m c o ρ W.fer.length:=hto;have hxs:M2 p=some (.lst ((ixs W I.name W.fer.length).map (smpM W R.bs I.name c))):=hxs;have ob2:=hR.ob;obtain⟨t1,t2⟩:=hR.tick (mm':=λ_=>R.m+1) (λk hk=>by show(if _ then _ else _)≤_;split<;>lia) (R.m+1)
  have k2:=hK.trans t2;have pr:p≠r:=λz=>hpo (by rw[z];exact Y8 ..)
  delta O9
  simp![ob2,runO,valM,putM]
  have eo:updM M2 r (runO W {R with bs:=bs,m:=R.m+1})=updM M2 r (.ins "Run" [("world",W.mv),("moment",.int (R.m+1)),("next_numbers",.ref R.pn),("words_now",.ref R.pw),("steps_so_far",.ref R.ps),("boats",.ref R.pb),("given_so_far",.ref R.pg),("taken_so_far",.ref R.pt)]):=rfl;have px:updM M2 r (runO W {R with bs:=bs,m:=R.m+1}) p=_:=(X7 pr).trans hxs;rw[eo]at t1 k2 px;have pno3:p∉RunS.own {R with bs:=bs,m:=R.m+1} r:=hpo;generalize updM M2 r _=M3 at*;have ret:∀(R3:RunS) (M4:MH) (D:EndM),D.rt=Q->RunAt M4 W r R3 (fun _=>R3.m)->Kept M M4 r R R3->R3.m=R.m+1->R3.bs=bs->p∉R3.own r->M4 p=some (.lst ((ixs W I.name W.fer.length).map (smpM W R.bs I.name c)))->∀v8 v9 v10,wSs ([("island_of",Vq),("two_to",Zs),("what_alone",Vo),("wish",Vj),("Run_go_on",UW),("Run_ring_ferry",Vp)]:List (Str×SpM)) Be D [some (.ref r),some (.str I.name),some (.int c),some (.tup (I.stps.map Stp.mv)),some (.int n),some (askO o ρ W.w),some v,some (.ref p),v8,v9,v10] M4:=by
   intro R3 M4 D hD a1 a2 a3 a4 a5 a6 v8 v9 v10;delta Be;simp!;rw[hD];exact q ρ R3 M4 _ p a1 a2 a3 hp a5 a6 (a4▸hto) hw
  have stay:∀D:EndM,D.rt=Q->∀v8 v9 v10,wSs ([("island_of",Vq),("two_to",Zs),("what_alone",Vo),("wish",Vj),("Run_go_on",UW),("Run_ring_ferry",Vp)]:List (Str×SpM)) Be D [some (.ref r),some (.str I.name),some (.int c),some (.tup (I.stps.map Stp.mv)),some (.int n),some (askO o ρ W.w),some v,some (.ref p),v8,v9,v10] M3:=fun D hD=>ret {R with bs:=bs,m:=R.m+1} M3 D hD t1 k2 rfl rfl pno3 px;have ob3:=t1.ob;have go:∀(s:Stp) (wd:MV),o=some s->(∀f x,s=.take f x->∃v:Int,wd=.int v/\0≤v/\v<2^W.w)->∀v8 v9 v10,UW [.ref r,.str I.name,.tup (I.stps.map Stp.mv),wd] M3 (fun _ M4=>wSs ([("island_of",Vq),("two_to",Zs),("what_alone",Vo),("wish",Vj),("Run_go_on",UW),("Run_ring_ferry",Vp)]:List (Str×SpM)) Be {nx:=fun _ M'=>Q .non M',rt:=Q} [some (.ref r),some (.str I.name),some (.int c),some (.tup (I.stps.map Stp.mv)),some (.int n),some (askO o ρ W.w),some v,some (.ref p),v8,v9,v10] M4):=fun s wd es hw v8 v9 v10=>
   ⟨r,W,{R with bs:=bs,m:=R.m+1},_,i,n,I,s,wd,rfl,G,t1,hI,hn,ho.trans es,hw,λR' M4 e1 e2 a1 a2=>ret R' M4 _ rfl (a1.le λ_=>Int.le_of_eq e1.symm) (k2.trans a2) e1 e2 (λz=>(a2.nw p z).elim pno3 λy=>by rw[px]at y;cases y) (a2.fr _ _ px pno3) v8 v9 v10⟩
  delta O8;rcases hv with rfl|⟨f,T,es,rfl⟩|⟨f,y,m,es,hm,rfl⟩
  ·rcases o with _|s
   ·simp only[UU]at stay ⊢;simp!;refine⟨rfl,rfl,?_⟩;rw[Uy];simp!;exact stay _ rfl _ _ _
   ·cases s with
    |take f x=>
     simp only[UU]at stay ⊢;simp!;refine⟨rfl,rfl,?_⟩;rw[Uy];simp!;exact stay _ rfl _ _ _
    |give f T=>
     simp only[UU]at stay ⊢;simp!;refine⟨rfl,rfl,?_⟩;rw[Uy];simp!;exact stay _ rfl _ _ _
    |put x T=>
     have:=go _ .non rfl (λf x e=>nomatch e) v8 v9 v10;simp only[UU]at this ⊢;simp!;refine⟨rfl,rfl,?_⟩;rw[Uy];simp!;delta Bf
     simp![ob3,runO,valM]
     exact this
    |jump T x=>
     have:=go _ .non rfl (λf x e=>nomatch e) v8 v9 v10;simp only[UU]at this ⊢;simp!;refine⟨rfl,rfl,?_⟩;rw[Uy];simp!;delta Bf
     simp![ob3,runO,valM]
     exact this
  ·have this:=go _ .non es (λf x e=>nomatch e) v8 v9 v10;have ea:askO o ρ W.w=.tup [.str "give",.str f,.int (T.val ρ W.w)]:=by rw[es];rfl
   rw[ea]at this ⊢;simp!;refine⟨rfl,rfl,?_⟩;rw[Uy];simp!;delta Bf
   simp![ob3,runO,valM]
   exact this
  ·have this:=go _ (.int (m:Int)) es (λf x e=>⟨_,rfl,by lia,by
    have e:((2:Int)^W.w)=((2^W.w:Nat):Int):=by rw[V9];rfl
    lia⟩) v8 v9 v10
   simp!;refine⟨rfl,rfl,?_⟩;rw[Uy];simp!;delta Bf
   simp![ob3,runO,valM]
   exact this
theorem RI{w:Nat}{I:Isl}(nd:I.vars.Nodup)(wd:∀p∈I.prs,0≤p.2/\p.2<2^w):Yk (I.prs.map λp=>((Xm p.1:Key),MV.int p.2))=zipK I.vars ((I.prs.map (·.2)).map MV.int)/\WdOk w I (zipK I.vars ((I.prs.map (·.2)).map MV.int)):=by
 have e:∀ps:List (Str×Int),(ps.map λp=>((Xm p.1:Key),MV.int p.2))=zipK (ps.map (·.1)) ((ps.map (·.2)).map MV.int):=λps=>by
  induction ps with
  |nil=>rfl
  |cons p r ih=>rw[Xx,ih];rfl
 refine⟨by rw[e];exact GO (by simp) nd,I.prs.map (·.2),by unfold Isl.vars;simp,rfl,λv hv=>?_⟩
 obtain⟨p,hp,rfl⟩:=XN.mp hv;exact wd p hp
theorem _pb(ps:List (Str×Int)):ps.map prV=(ps.map λp=>((Xm p.1:Key),MV.int p.2)).map prM:=by rw[Yp];rfl
theorem RJ:∀{ks:List Str} {vs ys:List MV},vs.length=ks.length->ys.length=ks.length->(∀(j:Nat) k v,ks[j]?=some k->vs[j]?=some v->ys[j]?=some (.tup [.str k,v]))->ys=(zipK ks vs).map prM
 |[],[],[],_,_,_=>rfl
 |[],_::_,_,h,_,_=>by cases h
 |[],_,_::_,_,h,_=>by cases h
 |_::_,[],_,h,_,_=>by cases h
 |_::_,_,[],_,h,_=>by cases h
 |k::ks,v::vs,y::ys,h1,h2,h=>by
  have e:=h 0 k v rfl rfl;have e:y=.tup [.str k,v]:=by simpa using e
  rw[e,RJ (ks:=ks) (vs:=vs) (ys:=ys) (by simpa using h1) (by simpa using h2) λj k v a b=>by simpa using h (j+1) k v (by simpa using a) (by simpa using b)]
  rfl
theorem FrM.grow{M M1 M2:MH}{l:List Addr}(h:FrM M M1 l)(s:SameM M1 M2):FrM M M2 l:=λa o e n=>s a o (h a o e n)
theorem Cw{α β:Type}{d:α}{f:α->β}{L:List α}{n:Nat}(h:L.length=n):(Xs n).map (λj=>f (L.getD j d))=L.map f:=by
 apply BM;intro i;rw[Xr,Xr];by_cases hi:i<n
 ·rw[Wu hi,Xa (by rw[h];exact hi),Cj,Cj,Ym,Xa (by rw[h];exact hi)];rfl
 ·rw[Zi (by rw[UE];lia),Zi (by lia)];rfl
def abOf(W:Wld)(j:Nat):Ab:=match W.fer[j]? with
 |some f=>ab0 f.k f.st
 |none=>ab0 0 1
def Ze(W:Wld)(Ns:List (List Addr))(gs ts:List Addr)(j:Nat):Boat:=⟨(Ns.getD j []).getD 0 default,(Ns.getD j []).getD 1 default,(Ns.getD j []).getD 2 default,(Ns.getD j []).getD 3 default,gs.getD j default,ts.getD j default,abOf W j⟩
theorem RK:∀{L:List (List Addr)} {i j:Nat} {x y:List Addr},L.flatten.Nodup->L[i]?=some x->L[j]?=some y->i≠j->∀a∈x,a∉y
 |[],_,_,_,_,_,h,_,_=>by simp at h
 |l::L,0,0,_,_,_,_,_,ne=>absurd rfl ne
 |l::L,0,j+1,x,y,nd,h1,h2,_=>λa ha hb=>by
  rw[ZB,Z9]at nd;obtain rfl:l=x:=by simpa using h1
  exact nd.2.2 a ha a (VB.mpr ⟨y,Xw (by simpa using h2),hb⟩) rfl
 |l::L,i+1,0,x,y,nd,h1,h2,_=>λa ha hb=>by
  rw[ZB,Z9]at nd;obtain rfl:l=y:=by simpa using h2
  exact nd.2.2 a hb a (VB.mpr ⟨x,Xw (by simpa using h1),ha⟩) rfl
 |l::L,i+1,j+1,x,y,nd,h1,h2,ne=>by
  rw[ZB,Z9]at nd;exact RK nd.2.1 (by simpa using h1) (by simpa using h2) (λe=>ne (by rw[e]))
theorem _R{L:List Addr}{j:Nat}(h:j<L.length):L.getD j default∈L/\L[j]?=some (L.getD j default):=by
 rw[Ym,Xa h];exact⟨XU h,rfl⟩
theorem RL{L:List Addr}(nd:L.Nodup){i j:Nat}(hi:i<L.length)(hj:j<L.length)(ne:i≠j):L.getD i default≠L.getD j default:=λe=>by
 have:=(Ww hi nd).mp ((_R hi).2.trans ((congrArg some e).trans (_R hj).2.symm));exact ne this
abbrev Bw:SpM:=fun vs M Q=>∃(r:Addr) (W:Wld),vs=[.ref r,W.mv]/\M r=some (.ins "Run" [])/\W.Good/\∀R M',FrM M M' [r]->RunAt M' W r R (fun _=>R.m)->R.m=0->(∀(j:Nat) f y,W.fer[j]?=some f->R.bs[j]?=some y->y.A=ab0 f.k f.st)->(∀a∈R.own r,a=r\/M a=none)->Q .non M'
theorem RN:MonW Bw:=by walk_at "m"
theorem _aZ(T:Txt K mg t):FnOk P w K mg base CX0 6 t.aQ t.bj ["self","world"] (liSp K Bw):=by
 refine T.fS.okM _aL (Ua (k:=5) (G:=O7) (Φ:=[]) (Ψ:=[("Ferry___init__",Bp)]) (Χ:=[("Ferry___init__",Bp)]) rfl (Uo T) (Up T) rfl (fMc ⟨Rh,nl0⟩) nl0 nl0 (fMc ⟨⟨_,_,rfl,_,_,_,_,_,(by decide:4+1≤5),_8V T,T.aA,T.fM,T.dt,T.fi⟩,nl0⟩) (Uq T)) FJ _bB (fun vs M Q h=>?_) (fun vs M Q h=>?_)
 ·obtain⟨_,_,rfl,_⟩:=h;rfl
 obtain⟨r,W,rfl,hr,G,q⟩:=h;show wSs _ _ _ [some (.ref r),some W.mv] M;have hΦ:=(UQ (Φ:=[("Ferry___init__",Bp)]) (fMc ⟨Rh,nl0⟩));have i5:=G.i5;have f6:=G.f6;have dins:∀{ps:List MV},ps.length=W.isl.length->Yk (zipK W.ins ps)=zipK W.ins ps:=λe=>GO (by rw[Wp];exact e) G.in_nd
 have dfns:∀{ps:List MV},ps.length=W.fer.length->Yk (zipK W.fns ps)=zipK W.fns ps:=λe=>GO (by rw[Uw];exact e) G.fn_nd
 delta FJ O6
 simp![hr,putM]
 have fr0:=(FrM.refl M [r]).upd (XX.mpr rfl) (.ins "Run" [("world",W.mv)]);have r0:updM M r (.ins "Run" [("world",W.mv)]) r=some (.ins "Run" [("world",W.mv)]):=Xb;generalize updM M r _=M0 at*;delta O5
 simp![r0,putM]
 have fr1:=fr0.upd (XX.mpr rfl) (.ins "Run" [("world",W.mv),("moment",.int 0)]);have r1:updM M0 r (.ins "Run" [("world",W.mv),("moment",.int 0)]) r=some (.ins "Run" [("world",W.mv),("moment",.int 0)]):=Xb;generalize updM M0 r _=M1 at*;delta O4;simp!;refine _L W.isl Isl.mv (λI=>.tup [.str I.name,.int 0]) ?_ ?_ hΦ λD hD=>?_
 ·simp![Wld.mv]
  exact⟨rfl,by lia,trivial⟩
 ·intro I hI M' s;simp only[sCm,Xx,Yc,Yu,Yv,Yo,Ya]
  simp![Isl.mv]
  try exact⟨rfl,rfl⟩
 rw[Rx W.isl (·.name) (λ_=>.int 0)];have s2:=SameM.new hD (.lst ((zipK (W.isl.map (·.name)) (W.isl.map λ_=>MV.int 0)).map prM));have d2:updM M1 D (.lst ((zipK (W.isl.map (·.name)) (W.isl.map λ_=>MV.int 0)).map prM)) D=some (.lst ((zipK (W.isl.map (·.name)) (W.isl.map λ_=>MV.int 0)).map prM)):=Xb;generalize updM M1 D _=M2 at*;simp!;refine⟨_,d2,λpn hpn=>?_⟩;have e2:Yk (zipK (W.isl.map (·.name)) (W.isl.map λ_=>MV.int 0))=zipK W.ins ((W.isl.map λ_=>0).map natM):=by rw[Yp];exact dins (by rw[Xc])
 rw[e2];have s3:=s2.trans (SameM.new hpn (.dic (zipK W.ins ((W.isl.map λ_=>0).map natM))));have hn3:updM M2 pn (.dic (zipK W.ins ((W.isl.map λ_=>0).map natM))) pn=some (.dic (zipK W.ins ((W.isl.map λ_=>0).map natM))):=Xb;have rpn:pn≠r:=(neM (s2 _ _ r1) hpn).symm;have f_pn:M1 pn=none:=s2.free hpn;generalize updM M2 pn _=M3 at*;have r3:=s3 _ _ r1
 simp![r3,putM]
 obtain⟨X,hX⟩:∃X,X=MO.ins "Run" [("world",W.mv),("moment",.int 0),("next_numbers",.ref pn)]:=⟨_,rfl⟩;rw[<- hX];have fr4:=(fr1.grow s3).upd (XX.mpr rfl) X;have r4:updM M3 r X r=some X:=Xb;have hn4:updM M3 r X pn=_:=(X7 rpn).trans hn3;generalize updM M3 r _=M4 at*;subst hX;delta O3;simp!;refine GP W.isl Isl.mv (·.name) (λI=>.dic (zipK I.vars ((I.prs.map (·.2)).map MV.int))) (λM'=>M'=M4) ?_ ?_ hΦ λD5 ws M5 hD5 s5 wl wnd Dn5 wfree wat hd5=>?_
 ·simp![Wld.mv]
  first|exact .inl ⟨trivial,rfl⟩|exact⟨rfl,by lia,.inl ⟨trivial,rfl⟩,rfl⟩|exact⟨rfl,by lia,.inl ⟨trivial,rfl⟩⟩|exact⟨by lia,.inl ⟨trivial,rfl⟩⟩|exact⟨rfl,.inl ⟨trivial,rfl⟩⟩
 ·intro I hI Ma M' e s;have ok:=G.io I hI;simp only[sCm,Xx,Yc,Yu,Yv,Yo,Ya]
  simp![Isl.mv]
  refine⟨_,_pb I.prs,λp hp=>?_⟩;exact⟨p,hp,rfl,by rw[(RI (w:=W.w) ok.nd ok.wd).1]⟩
 simp!;refine⟨_,hd5,λpw hpw=>?_⟩;have e5:Yk (zipK (W.isl.map (·.name)) (ws.map MV.ref))=zipK W.ins (ws.map MV.ref):=dins (by rw[Xc];exact wl)
 rw[e5];have s6:=s5.trans (SameM.new hpw (.dic (zipK W.ins (ws.map MV.ref))));have hw6:updM M5 pw (.dic (zipK W.ins (ws.map MV.ref))) pw=some (.dic (zipK W.ins (ws.map MV.ref))):=Xb;have jx:∀(j:Nat) a x,ws[j]?=some a->W.isl[j]?=some x->updM M5 pw (.dic (zipK W.ins (ws.map MV.ref))) a=some (.dic (zipK x.vars ((x.prs.map (·.2)).map MV.int))):=λj a x h1 h2=>SameM.new hpw _ _ _ (wat j a x h1 h2);have wpw:pw∉ws:=λz=>by
  obtain⟨j,hj,e⟩:=Y1 z;have:=wat j _ _ (Xa hj) (Xa (by rw[<- wl];exact hj))
  rw[e,hpw]at this;cases this
 have rpw:pw≠r:=(neM (s5 _ _ r4) hpw).symm;have rws:∀a∈ws,a≠r:=λa ha=>(neM r4 (wfree a ha)).symm;have jy:M4 pw=none:=s5.free hpw;generalize updM M5 pw _=M6 at*;have r6:=s6 _ _ r4;have hn6:=s6 _ _ hn4;have wpn:pn∉ws:=λz=>absurd hn4 (by rw[wfree _ z];intro y;cases y)
 have pnw:pn≠pw:=neM hn4 jy
 simp![r6,putM]
 obtain⟨X,hX⟩:∃X,X=MO.ins "Run" [("world",W.mv),("moment",.int 0),("next_numbers",.ref pn),("words_now",.ref pw)]:=⟨_,rfl⟩;rw[<- hX];have fr7:=(fr4.grow s6).upd (XX.mpr rfl) X;have r7:updM M6 r X r=some X:=Xb;have hn7:updM M6 r X pn=_:=(X7 rpn).trans hn6;have hw7:updM M6 r X pw=_:=(X7 rpw).trans hw6;have jo:∀(j:Nat) a x,ws[j]?=some a->W.isl[j]?=some x->updM M6 r X a=some (.dic (zipK x.vars ((x.prs.map (·.2)).map MV.int))):=λj a x h1 h2=>(X7 (rws a (Xw h1))).trans (jx j a x h1 h2);generalize updM M6 r _=M7 at*;subst hX;delta O2;simp!;refine _L W.isl Isl.mv (λI=>.tup [.str I.name,.int 0]) ?_ ?_ hΦ λD8 hD8=>?_
 ·simp![Wld.mv]
  exact⟨rfl,by lia,trivial⟩
 ·intro I hI M' s;simp only[sCm,Xx,Yc,Yu,Yv,Yo,Ya]
  simp![Isl.mv]
  try exact⟨rfl,rfl⟩
 rw[Rx W.isl (·.name) (λ_=>.int 0)];have s8:=SameM.new hD8 (.lst ((zipK (W.isl.map (·.name)) (W.isl.map λ_=>MV.int 0)).map prM));have d8:updM M7 D8 (.lst ((zipK (W.isl.map (·.name)) (W.isl.map λ_=>MV.int 0)).map prM)) D8=some (.lst ((zipK (W.isl.map (·.name)) (W.isl.map λ_=>MV.int 0)).map prM)):=Xb;generalize updM M7 D8 _=M8 at*;simp!;refine⟨_,d8,λps hps=>?_⟩;rw[e2];have s9:=s8.trans (SameM.new hps (.dic (zipK W.ins ((W.isl.map λ_=>0).map natM))));have hs9:updM M8 ps (.dic (zipK W.ins ((W.isl.map λ_=>0).map natM))) ps=some (.dic (zipK W.ins ((W.isl.map λ_=>0).map natM))):=Xb;have rps:ps≠r:=(neM (s8 _ _ r7) hps).symm;have jf:M7 ps=none:=s8.free hps;generalize updM M8 ps _=M9 at*;have r9:=s9 _ _ r7;have hn9:=s9 _ _ hn7;have hw9:=s9 _ _ hw7;have pns:pn≠ps:=neM hn7 jf;have pws:pw≠ps:=neM hw7 jf;have wps:ps∉ws:=λz=>by
  obtain⟨j,hj,e⟩:=Y1 z;have:=jo j _ _ (Xa hj) (Xa (by rw[<- wl];exact hj))
  rw[e,jf]at this;cases this
 simp![r9,putM]
 obtain⟨X,hX⟩:∃X,X=MO.ins "Run" [("world",W.mv),("moment",.int 0),("next_numbers",.ref pn),("words_now",.ref pw),("steps_so_far",.ref ps)]:=⟨_,rfl⟩;rw[<- hX];have jz:=(fr7.grow s9).upd (XX.mpr rfl) X;have r10:updM M9 r X r=some X:=Xb;have j5:∀a o,M9 a=some o->a≠r->updM M9 r X a=some o:=λa o e z=>(X7 z).trans e;generalize updM M9 r _=M10 at*;subst hX;have jA:=j5 _ _ hn9 rpn;have jB:=j5 _ _ hw9 rpw;have jC:=j5 _ _ hs9 rps;have jn:∀(j:Nat) a x,ws[j]?=some a->W.isl[j]?=some x->M10 a=some (.dic (zipK x.vars ((x.prs.map (·.2)).map MV.int))):=λj a x h1 h2=>j5 _ _ (s9 _ _ (jo j a x h1 h2)) (rws a (Xw h1));clear j5 s9 s8 s6 s5 s3 s2 jo jx wat d8 d2 hd5 r9 r7 r6 r4 r3 hn9 hn7 hn6 hn4 hn3 hw9 hw7 hw6 hs9;delta O1;simp!;refine Ry W.fer Fer.mv (λf y N M2=>∃b p g u,N=[b,p,g,u]/\y=.tup [.str f.name,.ref b]/\FyAt M2 b p g u (ab0 f.k f.st)) (λM'=>M'=M10) ?_ ?_ ?_ hΦ λD11 ys Ns M11 hD11 s11 yl Nl Nnd DN Nfree Nat_ iK=>?_
 ·rintro f y N M2 M3 hk ⟨b,p,g,u,rfl,e1,fy⟩;obtain⟨pl,hp,hpl⟩:=fy.pls;exact⟨b,p,g,u,rfl,e1,⟨fy.ok,(hk b (by simp)).trans fy.fe,⟨pl,(hk p (by simp)).trans hp,hpl⟩,(hk g (by simp)).trans fy.gi,(hk u (by simp)).trans fy.ta,fy.ne⟩⟩
 ·simp![Wld.mv]
  first|exact .inl ⟨trivial,rfl⟩|exact⟨rfl,by lia,.inl ⟨trivial,rfl⟩,rfl⟩|exact⟨rfl,by lia,.inl ⟨trivial,rfl⟩⟩|exact⟨by lia,.inl ⟨trivial,rfl⟩⟩|exact⟨rfl,.inl ⟨trivial,rfl⟩⟩
 ·intro f hf Ma M' e s;have fo:=G.fo f hf;simp only[sCm,Xx,Yc,Yu,Yv,Yo,Ya]
  simp![Fer.mv]
  intro b hb;refine⟨b,f.k,f.st,rfl,Xb,by have:=fo.k3;lia,fo.s1,fo.s3,λp g u M3 hp hg hu fr fy=>?_⟩
  have fb:updM M' b (.ins "Ferry" []) b=some (.ins "Ferry" []):=Xb;have ne:∀z,updM M' b (.ins "Ferry" []) z=none->z≠b/\M' z=none:=fun z hz=>by
   have n:z≠b:=(neM fb hz).symm;exact⟨n,by rw[X7 n]at hz;exact hz⟩
  obtain⟨pl,hpl,_⟩:=fy.pls;have pg:p≠g:=λz=>by rw[z,fy.gi]at hpl;cases hpl
  have pu:p≠u:=λz=>by rw[z,fy.ta]at hpl;cases hpl
  have sm:SameM M' M3:=λa o ea=>by
   have n:a≠b:=neM ea hb;exact fr a o ((X7 n).trans ea) (by simpa using n)
  try simp!
  refine⟨sm,[b,p,g,u],?_,λa ha=>?_,b,p,g,u,rfl,rfl,fy⟩
  ·simp only[YG,Xl,XJ,or_false,not_or,not_false_eq_true,Wy,and_true];exact⟨⟨(ne p hp).1.symm,(ne g hg).1.symm,(ne u hu).1.symm⟩,⟨pg,pu⟩,fy.ne⟩
  ·simp only[Xl,XJ,or_false]at ha;rcases ha with rfl|rfl|rfl|rfl
   ·exact⟨hb,_,fy.fe⟩
   ·exact⟨(ne _ hp).2,_,hpl⟩
   ·exact⟨(ne _ hg).2,_,fy.gi⟩
   ·exact⟨(ne _ hu).2,_,fy.ta⟩
 have eys:ys=(zipK W.fns (Ns.map λN=>MV.ref (N.getD 0 default))).map prM:=by
  refine RJ (by rw[Xc,Uw];exact Nl) (by rw[Uw];exact yl) λj k v hk hv=>?_
  have hj:j<W.fer.length:=by rw[<- Uw];exact(XG.mp hk).1
  have hfj:=Xa hj;rw[Uv hfj]at hk;cases hk;have hN:=Xa (show j<Ns.length by rw[Nl];exact hj)
  have hY:=Xa (show j<ys.length by rw[yl];exact hj)
  rw[Xr,hN]at hv;cases hv;obtain⟨b,p,g,u,eN,ey,_⟩:=Nat_ j _ _ _ hfj hY hN;rw[hY,ey,eN];rfl
 rw[eys]at iK;simp!;refine⟨_,iK,λpb hpb=>?_⟩;rw[dfns (by rw[Xc];exact Nl)]
 have s12:=s11.trans (SameM.new hpb (.dic (zipK W.fns (Ns.map λN=>MV.ref (N.getD 0 default)))));have hb12:updM M11 pb (.dic (zipK W.fns (Ns.map λN=>MV.ref (N.getD 0 default)))) pb=some (.dic (zipK W.fns (Ns.map λN=>MV.ref (N.getD 0 default)))):=Xb;have rpb:pb≠r:=(neM (s11 _ _ r10) hpb).symm;have jg:M10 pb=none:=s11.free hpb;have rN:∀N∈Ns,∀a∈N,a≠r:=λN hN a ha=>(neM r10 (Nfree a (VB.mpr ⟨N,hN,ha⟩))).symm;obtain⟨Fx,hFx⟩:∃Fx:MH->Prop,∀X,Fx X↔(X pn=some (.dic (zipK W.ins ((W.isl.map λ_=>0).map natM)))/\X pw=some (.dic (zipK W.ins (ws.map MV.ref)))/\X ps=some (.dic (zipK W.ins ((W.isl.map λ_=>0).map natM)))/\X pb=some (.dic (zipK W.fns (Ns.map λN=>MV.ref (N.getD 0 default))))/\(∀(j:Nat) a x,ws[j]?=some a->W.isl[j]?=some x->X a=some (.dic (zipK x.vars ((x.prs.map (·.2)).map MV.int))))/\∀(j:Nat) f N,W.fer[j]?=some f->Ns[j]?=some N->∃b p g u,N=[b,p,g,u]/\FyAt X b p g u (ab0 f.k f.st)):=⟨_,λ_=>Yf⟩;have fx:∀X Y,(∀a o,X a=some o->a≠r->Y a=some o)->Fx X->Fx Y:=λX Y k h=>by
  obtain⟨h1,h2,h3,h4,h5,h6⟩:=(hFx X).mp h;refine(hFx Y).mpr ⟨k _ _ h1 rpn,k _ _ h2 rpw,k _ _ h3 rps,k _ _ h4 rpb,λj a x e1 e2=>k _ _ (h5 j a x e1 e2) (rws a (Xw e1)),λj f N e1 e2=>?_⟩;obtain⟨b,p,g,u,rfl,fy⟩:=h6 j f N e1 e2;have rn:=rN _ (Xw e2);obtain⟨pl,hp,hpl⟩:=fy.pls;exact⟨b,p,g,u,rfl,⟨fy.ok,k _ _ fy.fe (rn b (by simp)),⟨pl,k _ _ hp (rn p (by simp)),hpl⟩,k _ _ fy.gi (rn g (by simp)),k _ _ fy.ta (rn u (by simp)),fy.ne⟩⟩
 have F12:Fx (updM M11 pb (.dic (zipK W.fns (Ns.map λN=>MV.ref (N.getD 0 default))))):=(hFx _).mpr ⟨s12 _ _ jA,s12 _ _ jB,s12 _ _ jC,hb12,λj a x e1 e2=>s12 _ _ (jn j a x e1 e2),λj f N e1 e2=>by
  have hY:=Xa (show j<ys.length by rw[yl];exact(XG.mp e1).1)
  obtain⟨b,p,g,u,e,_,fy⟩:=Nat_ j f _ N e1 hY e2;exact⟨b,p,g,u,e,fy.keep (SameM.new hpb _)⟩⟩
 have Nsome:∀N∈Ns,∀a∈N,a≠pb:=λN hN a ha=>by
  obtain⟨j,hj,rfl⟩:=Y1 hN;have hj2:j<W.fer.length:=by rw[<- Nl];exact hj
  obtain⟨b,p,g,u,e,_,fy⟩:=Nat_ j _ _ _ (Xa hj2) (Xa (show j<ys.length by rw[yl];exact hj2)) (Xa hj)
  obtain⟨pl,hp,_⟩:=fy.pls;rw[e]at ha;simp only[Xl,XJ,or_false]at ha;rcases ha with rfl|rfl|rfl|rfl
  ·exact neM fy.fe hpb
  ·exact neM hp hpb
  ·exact neM fy.gi hpb
  ·exact neM fy.ta hpb
 have iY:pn≠pb/\pw≠pb/\ps≠pb/\pb∉ws:=⟨neM jA jg,neM jB jg,neM jC jg,λz=>by
  obtain⟨j,hj,e⟩:=Y1 z;have:=jn j _ _ (Xa hj) (Xa (by rw[<- wl];exact hj))
  rw[e,jg]at this;cases this⟩
 generalize updM M11 pb _=M12 at*;have r12:=s12 _ _ r10
 simp![r12,putM]
 obtain⟨X,hX⟩:∃X,X=MO.ins "Run" [("world",W.mv),("moment",.int 0),("next_numbers",.ref pn),("words_now",.ref pw),("steps_so_far",.ref ps),("boats",.ref pb)]:=⟨_,rfl⟩;rw[<- hX];have jD:=(jz.grow s12).upd (XX.mpr rfl) X;have r13:updM M12 r X r=some X:=Xb;have F13:=fx _ (updM M12 r X) (λa o e z=>(X7 z).trans e) F12;generalize updM M12 r _=M13 at*;subst hX;clear F12 r12 s12 s11 iK eys;delta O0;simp!;refine GP W.fer Fer.mv (·.name) (λ_=>.lst []) (λM'=>M'=M13) ?_ ?_ hΦ λD14 gs M14 hD14 s14 gsl gnd Dg gfree gat hd14=>?_
 ·simp![Wld.mv]
  first|exact .inl ⟨trivial,rfl⟩|exact⟨rfl,by lia,.inl ⟨trivial,rfl⟩,rfl⟩|exact⟨rfl,by lia,.inl ⟨trivial,rfl⟩⟩|exact⟨by lia,.inl ⟨trivial,rfl⟩⟩|exact⟨rfl,.inl ⟨trivial,rfl⟩⟩
 ·intro f hf Ma M' e s;simp only[sCm,Xx,Yc,Yu,Yv,Yo,Ya]
  simp![Fer.mv]
  exact λp hp=>⟨p,hp,rfl,rfl⟩
 simp!;refine⟨_,hd14,λpg hpg=>?_⟩;have e14:Yk (zipK (W.fer.map (·.name)) (gs.map MV.ref))=zipK W.fns (gs.map MV.ref):=dfns (by rw[Xc];exact gsl)
 rw[e14];have s15:=s14.trans (SameM.new hpg (.dic (zipK W.fns (gs.map MV.ref))));have jE:updM M14 pg (.dic (zipK W.fns (gs.map MV.ref))) pg=some (.dic (zipK W.fns (gs.map MV.ref))):=Xb;have rpg:pg≠r:=(neM (s14 _ _ r13) hpg).symm;have j6:M13 pg=none:=s14.free hpg;have rgs:∀a∈gs,a≠r:=λa ha=>(neM r13 (gfree a ha)).symm;have g15:∀a∈gs,updM M14 pg (.dic (zipK W.fns (gs.map MV.ref))) a=some (.lst []):=λa ha=>by
  obtain⟨j,hj,rfl⟩:=Y1 ha;exact SameM.new hpg _ _ _ (gat j _ _ (Xa hj) (Xa (by rw[<- gsl];exact hj)))
 generalize updM M14 pg _=M15 at*;have r15:=s15 _ _ r13;have F15:=fx _ M15 (λa o e _=>s15 a o e) F13
 simp![r15,putM]
 obtain⟨X,hX⟩:∃X,X=MO.ins "Run" [("world",W.mv),("moment",.int 0),("next_numbers",.ref pn),("words_now",.ref pw),("steps_so_far",.ref ps),("boats",.ref pb),("given_so_far",.ref pg)]:=⟨_,rfl⟩;rw[<- hX];have jF:=(jD.grow s15).upd (XX.mpr rfl) X;have r16:updM M15 r X r=some X:=Xb;have jh:∀a o,M15 a=some o->a≠r->updM M15 r X a=some o:=λa o e z=>(X7 z).trans e;generalize updM M15 r _=M16 at*;subst hX;have F16:=fx _ M16 jh F15;have jG:=jh _ _ jE rpg;have g16:∀a∈gs,M16 a=some (.lst []):=λa ha=>jh _ _ (g15 a ha) (rgs a ha);clear jh g15 jE r15 F15 s15 s14 hd14 gat;delta NZ;simp!;refine GP W.fer Fer.mv (·.name) (λ_=>.lst []) (λM'=>M'=M16) ?_ ?_ hΦ λD17 ts M17 hD17 s17 tsl tnd Dt tfree tat hd17=>?_
 ·simp![Wld.mv]
  first|exact .inl ⟨trivial,rfl⟩|exact⟨rfl,by lia,.inl ⟨trivial,rfl⟩,rfl⟩|exact⟨rfl,by lia,.inl ⟨trivial,rfl⟩⟩|exact⟨by lia,.inl ⟨trivial,rfl⟩⟩|exact⟨rfl,.inl ⟨trivial,rfl⟩⟩
 ·intro f hf Ma M' e s;simp only[sCm,Xx,Yc,Yu,Yv,Yo,Ya]
  simp![Fer.mv]
  exact λp hp=>⟨p,hp,rfl,rfl⟩
 simp!;refine⟨_,hd17,λpt hpt=>?_⟩;have e17:Yk (zipK (W.fer.map (·.name)) (ts.map MV.ref))=zipK W.fns (ts.map MV.ref):=dfns (by rw[Xc];exact tsl)
 rw[e17];have s18:=s17.trans (SameM.new hpt (.dic (zipK W.fns (ts.map MV.ref))));have ht18:updM M17 pt (.dic (zipK W.fns (ts.map MV.ref))) pt=some (.dic (zipK W.fns (ts.map MV.ref))):=Xb;have rpt:pt≠r:=(neM (s17 _ _ r16) hpt).symm;have j4:M16 pt=none:=s17.free hpt;have rts:∀a∈ts,a≠r:=λa ha=>(neM r16 (tfree a ha)).symm;have t18:∀a∈ts,updM M17 pt (.dic (zipK W.fns (ts.map MV.ref))) a=some (.lst []):=λa ha=>by
  obtain⟨j,hj,rfl⟩:=Y1 ha;exact SameM.new hpt _ _ _ (tat j _ _ (Xa hj) (Xa (by rw[<- tsl];exact hj)))
 generalize updM M17 pt _=M18 at*;have r18:=s18 _ _ r16;have F18:=fx _ M18 (λa o e _=>s18 a o e) F16
 simp![r18,putM]
 obtain⟨X,hX⟩:∃X,X=MO.ins "Run" [("world",W.mv),("moment",.int 0),("next_numbers",.ref pn),("words_now",.ref pw),("steps_so_far",.ref ps),("boats",.ref pb),("given_so_far",.ref pg),("taken_so_far",.ref pt)]:=⟨_,rfl⟩;rw[<- hX];have fr19:=(jF.grow s18).upd (XX.mpr rfl) X;have r19:updM M18 r X r=some X:=Xb;have j7:∀a o,M18 a=some o->a≠r->updM M18 r X a=some o:=λa o e z=>(X7 z).trans e;generalize updM M18 r _=M19 at*;subst hX;have F19:=fx _ M19 j7 F18;have hg19:=j7 _ _ (s18 _ _ jG) rpg;have g19:∀a∈gs,M19 a=some (.lst []):=λa ha=>j7 _ _ (s18 _ _ (g16 a ha)) (rgs a ha);have ht19:=j7 _ _ ht18 rpt;have t19:∀a∈ts,M19 a=some (.lst []):=λa ha=>j7 _ _ (t18 a ha) (rts a ha);obtain⟨hn,hw,hs,hb,wat,nat⟩:=(hFx _).mp F19;obtain⟨n13,w13,p13,b13,wat13,nat13⟩:=(hFx _).mp F13;obtain⟨n16,w16,p16,b16,wat16,nat16⟩:=(hFx _).mp F16;have Nin:∀(X:MH),(∀(j:Nat) f N,W.fer[j]?=some f->Ns[j]?=some N->∃b p g u,N=[b,p,g,u]/\FyAt X b p g u (ab0 f.k f.st))->∀N∈Ns,∀a∈N,∃o,X a=some o:=λX hX N hN a ha=>by
  obtain⟨j,hj,rfl⟩:=Y1 hN;obtain⟨b,p,g,u,e,fy⟩:=hX j _ _ (Xa (by rw[<- Nl];exact hj)) (Xa hj)
  obtain⟨pl,hp,_⟩:=fy.pls;rw[e]at ha;simp only[Xl,XJ,or_false]at ha;rcases ha with rfl|rfl|rfl|rfl
  ·exact⟨_,fy.fe⟩
  ·exact⟨_,hp⟩
  ·exact⟨_,fy.gi⟩
  ·exact⟨_,fy.ta⟩
 have Ng:∀N∈Ns,∀a∈N,a∉gs:=λN hN a ha z=>by
  obtain⟨o,e⟩:=Nin _ nat13 N hN a ha;rw[gfree a z]at e;cases e
 have Nt:∀N∈Ns,∀a∈N,a∉ts:=λN hN a ha z=>by
  obtain⟨o,e⟩:=Nin _ nat16 N hN a ha;rw[tfree a z]at e;cases e
 have gt:∀a∈gs,a∉ts:=λa ha z=>by
  have:=g16 a ha;rw[tfree a z]at this;cases this
 have at_:∀(j:Nat) f,W.fer[j]?=some f->∃b p g u,Ns[j]?=some [b,p,g,u]/\FyAt M19 b p g u (ab0 f.k f.st)/\Ze W Ns gs ts j=⟨b,p,g,u,gs.getD j default,ts.getD j default,ab0 f.k f.st⟩:=λj f hf=>by
  have hj:j<Ns.length:=by rw[Nl];exact(XG.mp hf).1
  have hN:=Xa hj;obtain⟨b,p,g,u,e,fy⟩:=nat j f _ hf hN;rw[e]at hN;refine⟨b,p,g,u,hN,fy,?_⟩;have eg:Ns.getD j []=[b,p,g,u]:=by rw[Ym,hN];rfl
  unfold Ze abOf;rw[hf,eg];rfl
 have bat:∀(j:Nat) x,((Xs W.fer.length).map (Ze W Ns gs ts))[j]?=some x->j<W.fer.length/\x=Ze W Ns gs ts j:=λj x h=>by
  have hj:=(XG.mp h).1;rw[Xc,UE]at hj;rw[Xr,Wu hj]at h;exact⟨hj,(Y7 h).symm⟩
 have adsI:∀j,j<W.fer.length->∀a∈(Ze W Ns gs ts j).ads,(∃N,Ns[j]?=some N/\a∈N)\/a=gs.getD j default\/a=ts.getD j default:=λj hj a ha=>by
  obtain⟨b,p,g,u,hN,_,e⟩:=at_ j _ (Xa hj);rw[e]at ha;simp only[Boat.ads,Xl,XJ,or_false]at ha;rcases ha with c|c|c|c|c|c
  ·exact .inl ⟨_,hN,by simp[c]⟩
  ·exact .inl ⟨_,hN,by simp[c]⟩
  ·exact .inl ⟨_,hN,by simp[c]⟩
  ·exact .inl ⟨_,hN,by simp[c]⟩
  ·exact .inr (.inl c)
  ·exact .inr (.inr c)
 have free:∀X,FrM M X [r]->∀a,a≠r->X a=none->M a=none:=λX fr a ne hx=>by
  cases e:M a with
  |none=>rfl
  |some o=>rw[fr a o e (by simpa using ne)]at hx;cases hx
 have eb:((Xs W.fer.length).map (Ze W Ns gs ts)).map (λx=>MV.ref x.b)=Ns.map λN=>MV.ref (N.getD 0 default):=by
  rw[Yp];exact Cw (d:=[]) (f:=λN=>MV.ref (N.getD 0 default)) Nl
 have eg:((Xs W.fer.length).map (Ze W Ns gs ts)).map (λx=>MV.ref x.gl)=gs.map MV.ref:=by
  rw[Yp];exact Cw (d:=default) (f:=MV.ref) gsl
 have et:((Xs W.fer.length).map (Ze W Ns gs ts)).map (λx=>MV.ref x.tl)=ts.map MV.ref:=by
  rw[Yp];exact Cw (d:=default) (f:=MV.ref) tsl
 have wno:∀(X:MH) (z:Addr),(∀(j:Nat) a x,ws[j]?=some a->W.isl[j]?=some x->X a=some (.dic (zipK x.vars ((x.prs.map (·.2)).map MV.int))))->X z=none->z∉ws:=λX z hX hz c=>by
  obtain⟨j,hj,e⟩:=Y1 c;have:=hX j _ _ (Xa hj) (Xa (by rw[<- wl];exact hj))
  rw[e,hz]at this;cases this
 refine q ⟨0,W.isl.map λ_=>0,ws,W.isl.map λ_=>0,(Xs W.fer.length).map (Ze W Ns gs ts),pn,pw,ps,pb,pg,pt⟩ M19 fr19 ⟨r19,hn,hw,hs,?_,?_,?_,by rw[Xc],wl,by rw[Xc],by rw[Xc,UE],λi I m hI hm=>?_,λi I a hI ha=>⟨_,wat i a I ha hI,(RI (G.io I (Xw hI)).nd (G.io I (Xw hI)).wd).2⟩,λj f x hf hx=>?_,λi j x y ne hx hy a ha hb=>?_,?_⟩ rfl (λj f y hf hy=>?_) (λa ha=>?_)
 ·show M19 pb=some (.dic (zipK W.fns (((Xs W.fer.length).map (Ze W Ns gs ts)).map (λx=>MV.ref x.b))));rw[eb];exact hb
 ·show M19 pg=some (.dic (zipK W.fns (((Xs W.fer.length).map (Ze W Ns gs ts)).map (λx=>MV.ref x.gl))));rw[eg];exact hg19
 ·show M19 pt=some (.dic (zipK W.fns (((Xs W.fer.length).map (Ze W Ns gs ts)).map (λx=>MV.ref x.tl))));rw[et];exact ht19
 ·have hm:(W.isl.map λ_=>0)[i]?=some m:=hm;rw[Xr,hI]at hm;cases hm;exact YH _
 ·obtain⟨hj,rfl⟩:=bat j x hx;obtain⟨b,p,g,u,hN,fy,e⟩:=at_ j f hf;rw[e];have g1:=(_R (L:=gs) (j:=j) (by rw[gsl];exact hj)).1
  have t1:=(_R (L:=ts) (j:=j) (by rw[tsl];exact hj)).1
  have pm:p∈ [b,p,g,u]:=by simp
  have q1:gs.getD j default≠ts.getD j default:=λz=>gt _ g1 (z▸t1);have q2:gs.getD j default≠p:=λz=>Ng _ (Xw hN) p pm (z▸g1);have q3:ts.getD j default≠p:=λz=>Nt _ (Xw hN) p pm (z▸t1);exact⟨fy,g19 _ g1,t19 _ t1,⟨q1,q2,q3⟩,rfl,(by decide:(-1:Int)<0),(by decide:(-1:Int)<0),λz hz=>by cases hz⟩
 ·obtain⟨hi,rfl⟩:=bat i x hx;obtain⟨hj,rfl⟩:=bat j y hy;have gi:=(_R (L:=gs) (j:=i) (by rw[gsl];exact hi)).1
  have gj:=(_R (L:=gs) (j:=j) (by rw[gsl];exact hj)).1
  have ti:=(_R (L:=ts) (j:=i) (by rw[tsl];exact hi)).1
  have tj:=(_R (L:=ts) (j:=j) (by rw[tsl];exact hj)).1
  rcases adsI i hi a ha with⟨N,hN,c⟩|c|c<;>rcases adsI j hj a hb with⟨N',hN',d⟩|d|d
  ·exact RK Nnd hN hN' ne a c d
  ·exact Ng N (Xw hN) a c (d▸gj)
  ·exact Nt N (Xw hN) a c (d▸tj)
  ·exact Ng N' (Xw hN') a d (c▸gi)
  ·exact RL gnd (by rw[gsl];exact hi) (by rw[gsl];exact hj) ne (c.symm.trans d)
  ·exact gt a (c▸gi) (d▸tj)
  ·exact Nt N' (Xw hN') a d (c▸ti)
  ·exact gt a (d▸gj) (c▸ti)
  ·exact RL tnd (by rw[tsl];exact hi) (by rw[tsl];exact hj) ne (c.symm.trans d)
 ·show(pn::pw::ps::pb::pg::pt::ws).Nodup;simp only[YG,Xl,not_or];exact⟨⟨pnw,pns,iY.1,neM n13 j6,neM n16 j4,wpn⟩,⟨pws,iY.2.1,neM w13 j6,neM w16 j4,wpw⟩,⟨iY.2.2.1,neM p13 j6,neM p16 j4,wps⟩,⟨neM b13 j6,neM b16 j4,iY.2.2.2⟩,⟨neM jG j4,wno _ _ wat13 j6⟩,wno _ _ wat16 j4,wnd⟩
 ·obtain⟨hj2,rfl⟩:=bat j y hy;obtain⟨b,p,g,u,hN,fy,e⟩:=at_ j f hf;rw[e]
 ·simp only[RunS.own,Xl,VC]at ha;rcases ha with c|c|c|c|⟨x,hx,c⟩
  ·exact .inl c
  ·exact .inr (c▸free _ fr1 _ rpn f_pn)
  ·exact .inr (c▸free _ fr4 _ rpw jy)
  ·exact .inr (c▸free _ fr7 _ rps jf)
  ·obtain⟨j,hj,e⟩:=Y1 hx;obtain⟨hj2,rfl⟩:=bat j x (by rw[Xa hj,e])
   have g1:=(_R (L:=gs) (j:=j) (by rw[gsl];exact hj2)).1
   have t1:=(_R (L:=ts) (j:=j) (by rw[tsl];exact hj2)).1
   rcases adsI j hj2 a c with⟨N,hN,d⟩|d|d
   ·exact .inr (free _ jz _ (rN N (Xw hN) a d) (Nfree a (VB.mpr ⟨N,Xw hN,d⟩)))
   ·subst d;exact .inr (free _ jD _ (rgs _ g1) (gfree _ g1))
   ·subst d;exact .inr (free _ jF _ (rts _ t1) (tfree _ t1))
theorem RunAt.own_some{M:MH}{W:Wld}{r:Addr}{R:RunS}{mm:Nat->Int}(h:RunAt M W r R mm):∀a∈R.own r,∃o,M a=some o:=λb hb=>by
 simp only[RunS.own,Xl,VC]at hb;rcases hb with rfl|rfl|rfl|rfl|⟨x,hx,hb⟩
 ·exact⟨_,h.ob⟩
 ·exact⟨_,h.hn⟩
 ·exact⟨_,h.hw⟩
 ·exact⟨_,h.hs⟩
 ·obtain⟨j,hj,rfl⟩:=Y1 hx;obtain⟨u,e,_⟩:=(h.ba j _ _ (Xa (by rw[<- h.bl];exact hj)) (Xa hj)).at_ b hb
  exact⟨u,e⟩
abbrev rgM(x:Str×Nat):MV:=.tup [.str x.1,.int x.2]
abbrev Bx:SpM:=λvs M Q=>∃(pc pi:Addr) (cs:List Int) (ys:List MV) (Is:List Isl),vs=[.ref pc,.ref pi]/\M pc=some (.lst (cs.map MV.int))/\cs.length≤80/\M pi=some (.lst ys)/\IslsIn M Is ys/\1≤Is.length/\Is.length≤5/\
 ∀p (rs:List (Str×Nat)) M',SameM M M'->M p=none->M' p=some (.lst (rs.map rgM))->rs.length=cs.length->(∀x∈rs,∃I∈Is,x.1=I.name)->Q (.ref p) M'
theorem RP:MonW Bx:=by walk_at "m"
theorem _df(T:Txt K mg t):FnOk P w K mg base CX0 1 t.dH t.fz ["cells","islands"] (liSp K Bx):=by
 refine T.bH.F.okM _d9 (fC (G:=PP) (Φ:=[]) T rfl nl0 nl0) FZ _dH (λvs M Q h=>?_) (λvs M Q h=>?_)
 ·obtain⟨_,_,_,_,_,rfl,_⟩:=h;rfl
 obtain⟨pc,pi,cs,ys,Is,rfl,hc,cl,hi,hI,i1,i5,q⟩:=h;show wSs _ _ _ [some (.ref pc),some (.ref pi),none,none] M;have yl:=hI.1;delta FZ PN;simp!;intro p hp;have s1:=SameM.new hp (.lst []);have hp1:updM M p (.lst []) p=some (.lst []):=Xb;generalize updM M p _=M1 at*;have hc1:=s1 _ _ hc;delta PM
 simp![hc1]
 obtain⟨J,hJ⟩:∃J:Nat->Sm->MH->Prop,∀j σ M',J j σ M'↔∃(rs:List (Str×Nat)) (v:Option MV),SameM M M'/\M' p=some (.lst (rs.map rgM))/\rs.length=j/\(∀x∈rs,∃I∈Is,x.1=I.name)/\σ=[some (.ref pc),some (.ref pi),some (.ref p),v]:=⟨_,λ_ _ _=>Yf⟩;refine⟨J,(hJ _ _ _).mpr ⟨[],_,s1,hp1,rfl,(λx h=>nomatch h),rfl⟩,λj σ M' h=>?_,?_,?_⟩
 ·obtain⟨_,_,s,_⟩:=(hJ _ _ _).mp h;exact s _ _ hc
 ·rintro j y σ M' hy h;obtain⟨rs,v,s,hps,rl,ro,rfl⟩:=(hJ _ _ _).mp h;obtain⟨hj,rfl⟩:=YY (show(cs.map MV.int)[j]?=some y from hy);generalize cs[j]=x at*;have hi':=s _ _ hi;have hI':=hI.keep s;delta PL
  simp![hps,hi']
  have m0:=ZF x (show(ys.length:Int)≠0 by lia)
  have m1:=ZZ x (show(0:Int)<(ys.length:Int) by lia)
  obtain⟨k,hk⟩:∃k:Nat,x%(ys.length:Int)=(k:Int):=⟨_,(UJ m0).symm⟩;rw[hk]at m1 ⊢;have hky:k<ys.length:=by lia
  have hkI:k<Is.length:=by lia
  obtain⟨a,b,ey,_⟩:=hI'.2 k _ _ (Xa hkI) (Xa hky);refine⟨⟨_,rfl⟩,by lia,_,YB (Xa hky),?_⟩
  rw[ey]
  simp![hi',hps]
  have c0:=ZF (x/(ys.length:Int)) (show(1000000000000000000000000000000:Int)≠0 by decide)
  obtain⟨c,hc2⟩:∃c:Nat,x/(ys.length:Int)%1000000000000000000000000000000=(c:Int):=⟨_,(UJ c0).symm⟩;rw[hc2];have hj:j<cs.length:=hj;refine⟨⟨by lia,by lia⟩,by rw[Xc];lia,(hJ _ _ _).mpr ⟨rs++[(Is[k].name,c)],_,s.upd hp _,by rw[Xb,XV];rfl,by rw[Yn,rl];rfl,(λz hz=>?_),rfl⟩⟩
  rcases Yw.mp hz with hz|hz
  ·exact ro z hz
  ·rw[XX]at hz;subst hz;exact⟨_,XU hkI,rfl⟩
 ·rintro σ M' h;obtain⟨rs,v,s,hps,rl,ro,rfl⟩:=(hJ _ _ _).mp h;delta PK;simp!;exact q p rs M' s hp hps (rl.trans (Xc _)) ro
theorem GS{w:Nat}{f:Fer}{z:Str}{o:Option Stp}{ρ:Str->Int}{A:Ab}(h:hitA w f z o ρ A=true):Y5 o f.name=true:=by
 unfold hitA at h;split at h
 ·have h:=((XW _ _).mp h).1;rcases o with _|s
  ·cases h
  ·cases s with
   |give g T=>
    by_cases e:g=f.name
    ·exact decide_eq_true e
    ·have e2:Bu w f (some (.give g T)) ρ=none:=if_neg e;rw[e2]at h;cases h
   |take _ _=>cases h
   |put _ _=>cases h
   |jump _ _=>cases h
 ·exact((XW _ _).mp h).1
theorem _jU{o:Option Stp}{a b:Str}(h:Y5 o a=true)(h':Y5 o b=true):a=b:=by
 rcases o with _|s
 ·cases h
 ·cases s with
  |give g T=>exact(of_decide_eq_true h).symm.trans (of_decide_eq_true h')
  |take g T=>exact(of_decide_eq_true h).symm.trans (of_decide_eq_true h')
  |put _ _=>cases h
  |jump _ _=>cases h
theorem RQ:∀{ks:List Str} {vs:List MV} {k:Str} {v:MV},vs.length=ks.length->zipK ks vs++[(Xm k,v)]=zipK (ks++[k]) (vs++[v])
 |[],[],_,_,_=>rfl
 |[],_::_,_,_,h=>by cases h
 |_::_,[],_,_,h=>by cases h
 |a::ks,b::vs,k,v,h=>by
  show _::(zipK ks vs++_)=_::zipK (ks++[k]) (vs++[v]);rw[RQ (by simpa using h)]
noncomputable abbrev twoK(f:Fer)(val:Bool->MV):List (Key×MV):=[(Xm f.giver,val true),(Xm f.taker,val false)]
theorem twoK_put{f:Fer}{val:Bool->MV}(ne:f.giver≠f.taker):Yk (twoK f val)=twoK f val:=Rw (by simpa using ne)
theorem twoK_val{f:Fer}{val:Bool->MV}{z:Str}(ne:f.giver≠f.taker)(c:z=f.giver\/z=f.taker):valM (twoK f val) (Xm z)=some (val (decide (f.giver=z))):=by
 by_cases e:f.giver=z
 ·subst e;simp[valM]
 ·have e2:z=f.taker:=c.resolve_left λh=>e h.symm;subst e2;simp[valM,ne]
structure TwoD (M:MH) (W:Wld) (n:Nat) (pD:Addr) (es:List Addr) (val:Nat->Bool->MV):Prop where
 hD:M pD=some (.dic (zipK (W.fns.take n) (es.map MV.ref)))
 el:es.length=n
 nl:n≤W.fer.length
 np:pD∉es
 ed:∀(j:Nat) f e,W.fer[j]?=some f->es[j]?=some e->M e=some (.dic (twoK f (val j)))
theorem TwoD.keep{M M':MH}{W:Wld}{n:Nat}{pD:Addr}{es:List Addr}{val:Nat->Bool->MV}(h:TwoD M W n pD es val)(s:∀a o,a=pD\/a∈es->M a=some o->M' a=some o):TwoD M' W n pD es val:=
 ⟨s _ _ (.inl rfl) h.hD,h.el,h.nl,h.np,λj f e hf he=>s _ _ (.inr (Xw he)) (h.ed j f e hf he)⟩
theorem TwoD.some_{M:MH}{W:Wld}{n:Nat}{pD:Addr}{es:List Addr}{val:Nat->Bool->MV}(h:TwoD M W n pD es val):∀a,a=pD\/a∈es->∃kv,M a=some (.dic kv):=λa ha=>by
 rcases ha with rfl|ha
 ·exact⟨_,h.hD⟩
 ·obtain⟨j,hj,rfl⟩:=Y1 ha;exact⟨_,h.ed j _ _ (Xa (Yy (by rw[<- h.el];exact hj) h.nl)) (Xa hj)⟩
theorem TwoD.first{M:MH}{W:Wld}{pD:Addr}{val:Nat->Bool->MV}(h:M pD=some (.dic [])):TwoD M W 0 pD [] val:=
 ⟨h,rfl,YH _,XJ,λj f e _ he=>by simp at he⟩
theorem TwoD.add{M M':MH}{W:Wld}{n:Nat}{pD e:Addr}{es:List Addr}{val val':Nat->Bool->MV}{f:Fer}(h:TwoD M W n pD es val)(G:W.Good)(hf:W.fer[n]?=some f) (he:M e=none) (hv:∀j b,j<n->val' j b=val j b) (s:∀a o,M a=some o->a≠pD->M' a=some o)
  (h1:M' pD=some (.dic (putM (zipK (W.fns.take n) (es.map MV.ref)) (Xm f.name) (.ref e)))) (h2:M' e=some (.dic (twoK f (val' n)))):TwoD M' W (n+1) pD (es++[e]) val':=by
 have hn:=(XG.mp hf).1;have tl:(W.fns.take n).length=n:=by rw[YN,Uw];lia
 have zl:(es.map MV.ref).length=(W.fns.take n).length:=by rw[Xc,tl,h.el]
 have et:W.fns.take (n+1)=W.fns.take n++[f.name]:=by rw[ZC,Uv hf];rfl
 have ep:putM (zipK (W.fns.take n) (es.map MV.ref)) (Xm f.name) (.ref e)=zipK (W.fns.take (n+1)) ((es++[e]).map MV.ref):=by
  rw[Rv,RQ zl,et,XV];rfl
  intro p hp ec;have hp:=List.mem_map_of_mem (f:=(·.1)) hp;rw[GN zl,ec]at hp;obtain⟨x,hx,ex⟩:=XN.mp hp;obtain rfl:x=f.name:=Vb ex;obtain⟨i,hi,ei⟩:=Y1 hx;rw[List.getElem_take]at ei;have hi':i<n:=by rw[<- tl];exact hi
  have hl:n<W.fns.length:=by rw[Uw];exact hn
  have:=(Ww (i:=i) (j:=n) (by lia) G.fn_nd).mp (by rw[Uv hf,Xa (by lia),ei])
  lia
 refine⟨by rw[h1,ep],by rw[Yn,h.el];rfl,hn,λz=>?_,λj g x hg hx=>?_⟩
 ·rcases Yw.mp z with z|z
  ·exact h.np z
  ·obtain rfl:=XX.mp z;have:=h.hD;rw[he]at this;cases this
 ·rcases Nat.lt_trichotomy j n with l|l|l
  ·rw[Zz (by rw[h.el];exact l)]at hx
   have a:=s _ _ (h.ed j g x hg hx) λz=>h.np (z▸Xw hx);have ev:val' j=val j:=funext λb=>hv j b l;rw[ev];exact a
  ·subst l;rw[Zh (by rw[h.el];exact Xe _),h.el,BZ]at hx
   obtain rfl:e=x:=by simpa using hx
   rw[hf]at hg;cases hg;exact h2
  ·rw[Zi (by rw[Yn,h.el];exact l)]at hx;cases hx
abbrev GT:SpM:=λvs M Q=>∃(n k:Nat),vs=[.int n,.int k]/\k<4/\Q (.int (Xh k n:Nat)) M
theorem _aj:MonW GT:=by walk_at "m"
theorem _ek(T:Txt K mg t):FnOk P w K mg base CX0 1 t.dF t.cV ["count","k"] (liSp K GT):=by
 refine T.bJ.F.okM _e2 (fC (G:=PU) (Φ:=[]) T rfl nl0 nl0) G0 _eS (λvs M Q h=>?_) (λvs M Q h=>?_)
 ·obtain⟨_,_,rfl,_⟩:=h;rfl
 obtain⟨n,k,rfl,k4,q⟩:=h;show wSs _ _ _ [some (.int n),some (.int k),none] M;delta G0 PR;simp!;have e:(2:Int)*2^(k:Int).toNat=((2^(k+1):Nat):Int):=by rw[YI,V9,Int.pow_succ,Int.mul_comm];rfl
 have e2:∀m:Nat,(m:Int)/2=((m/2:Nat):Int):=λm=>by lia
 rw[e,Dk];refine⟨⟨by lia,by lia⟩,Int.natCast_pos.mpr (Nat.pow_pos (by decide)),?_⟩
 delta PQ;simp!;rw[e2,Vk];exact q
abbrev By:SpM:=λvs M Q=>∃(s:MV) (u:MV) (n p k c:Nat) (m m':Int),vs=[.tup [s,u,.int m],.tup [.int n,.int p,.int m'],.int k,.int c]/\k<4/\p≤n/\n≤p+1/\Q (.int (Xh k (YZ k n p (decide (m<m')) c):Nat)) M
theorem RT:MonW By:=by walk_at "m"
theorem _c1(T:Txt K mg t):FnOk P w K mg base CX0 2 t.dB t.dX ["own","other","k","choice"] (liSp K By):=by
 refine T.c9.F.okM _bU (fC (G:=Q1) (Φ:=[("_law_code",GT)]) T rfl (fMc ⟨_aj,nl0⟩) (fMc ⟨fE T.bJ (_ek T),nl0⟩)) G1 _ch (fun vs M Q h=>?_) (fun vs M Q h=>?_)
 ·obtain⟨_,_,_,_,_,_,_,_,rfl,_⟩:=h;rfl
 obtain⟨s,u,n,p,k,c,m,m',rfl,k4,h1,h2,q⟩:=h;show wSs _ _ _ [some (.tup [s,u,.int m]),some (.tup [.int n,.int p,.int m']),some (.int k),some (.int c),none,none] M;have q:Q (.int (gray (YZ k n p (decide (m<m')) c%2^(k+1)):Nat)) M:=q;rw[<- Gz k4 ⟨h1,h2⟩ m m' c]at q;delta G1 Q0;simp!;refine⟨n,k,rfl,k4,?_⟩;delta PZ;simp!;refine Y4 (λe=>?_) (λe=>?_)
 ·rw[if_neg (by lia)]at q
  delta PY;simp!;exact q
 ·rw[if_pos (by lia)]at q
  delta PX;simp!;refine⟨p,k,rfl,k4,?_⟩;delta PV;simp!;rw[Vk,QU,Vk];exact q
noncomputable def sgV(A:Ab)(b:Bool):MV:=if b=true then .tup [.int A.ws.length,.int A.gp,.int A.gm]else .tup [.int A.tn,.int A.tp,.int A.tm]
def sgB(bs:List Boat)(k:Nat)(b:Bool):MV:=match bs[k]? with
 |some a=>sgV a.A b
 |none=>.tup []
def cntA(f:Fer)(z:Str)(A:Ab):Nat:=if f.giver=z then A.ws.length else A.tn
theorem _mh{w:Nat}{f:Fer}{z:Str}{m:Int}{c:Nat}{o:Option Stp}{ρ:Str->Int}{A:Ab}:sgV (Ux w f z m c o ρ A)=λb=>if b=decide (f.giver=z)then .tup [.int ((cntA f z A:Nat)+(if hitA w f z o ρ A=true then 1 else 0)),.int (cntA f z A:Nat),.int m]else sgV A b:=by
 funext b
 unfold Ux cntA hitA;by_cases e:f.giver=z
 ·rw[if_pos e,if_pos e,if_pos e,decide_eq_true e];cases b with
  |false=>rfl
  |true=>
   show MV.tup [.int ((if A.gives _=true then A.ws++[_]else A.ws).length:Nat),_,_]=_;rw[if_pos rfl];split<;>simp<;>exact⟨rfl,rfl⟩
 ·rw[if_neg e,if_neg e,if_neg e,decide_eq_false e];cases b with
  |true=>rfl
  |false=>
   show MV.tup [.int ((if A.takes _=true then A.tn+1 else A.tn:Nat)),_,_]=_;rw[if_pos rfl];split<;>simp<;>exact⟨rfl,rfl⟩
theorem _ov{f:Fer}{z:Str}{A:Ab}(ok:A.Ok)(c:Nat):∃(u:MV) (n p:Nat) (m m':Int),sgV A (decide (f.giver=z))=.tup [.int (cntA f z A:Nat),u,.int m]/\sgV A (!decide (f.giver=z))=.tup [.int n,.int p,.int m']/\p≤n/\n≤p+1/\Xh A.k (YZ A.k n p (decide (m<m')) c)=smpA f z c A:=by
 unfold cntA smpA;by_cases e:f.giver=z
 ·rw[if_pos e,if_pos e,decide_eq_true e];exact⟨_,_,_,_,_,rfl,rfl,ok.t1.1,ok.t1.2,rfl⟩
 ·rw[if_neg e,if_neg e,decide_eq_false e];exact⟨_,_,_,_,_,rfl,rfl,ok.g1.1,ok.g1.2,rfl⟩
theorem twoK_set{f:Fer}{val:Bool->MV}{z:Str}{u:MV}(ne:f.giver≠f.taker)(c:z=f.giver\/z=f.taker):putM (twoK f val) (Xm z) u=twoK f (λb=>if b=decide (f.giver=z)then u else val b):=by
 by_cases e:f.giver=z
 ·subst e;simp[putM]
 ·have e2:z=f.taker:=c.resolve_left λh=>e h.symm;subst e2;simp[putM,ne]
theorem TwoD.upd{M:MH}{W:Wld}{n:Nat}{pD e:Addr}{es:List Addr}{val val':Nat->Bool->MV}{k:Nat}{f:Fer}(h:TwoD M W n pD es val)(nd:es.Nodup)(hf:W.fer[k]?=some f) (he:es[k]?=some e) (hv:∀j,j≠k->val' j=val j):TwoD (updM M e (.dic (twoK f (val' k)))) W n pD es val':=by
 have ne:pD≠e:=λz=>h.np (z▸Xw he);refine⟨(X7 ne).trans h.hD,h.el,h.nl,h.np,λj g x hg hx=>?_⟩;by_cases c:j=k
 ·subst c;rw[hf]at hg;cases hg;rw[he]at hx;cases hx;exact Xb
 ·have nx:x≠e:=λz=>c ((Ww (XG.mp hx).1 nd).mp (by rw[hx,he,z]))
  rw[hv j c];exact(X7 nx).trans (h.ed j g x hg hx)
theorem _hB:∀{ks:List Str} {vs:List MV} {k:Key} {v:MV} {r:List (Key×MV)},zipK ks vs=(k,v)::r->v∈vs
 |[],_,_,_,_,h=>by cases h
 |_::_,[],_,_,_,h=>by cases h
 |a::ks,b::vs,_,_,_,h=>by cases h;exact Y8 ..
theorem RunAt.offd{M:MH}{W:Wld}{r:Addr}{R:RunS}{mm:Nat->Int}(h:RunAt M W r R mm){e:Addr}{k:Key}{xs:List MV}{kv:List (Key×MV)}(he:M e=some (.dic ((k,.tup xs)::kv)))(o:MO):RunAt (updM M e o) W r R mm:=by
 have no:∀{a:Addr} {ks:List Str} {α:Type} {l:List α} {g:α->MV},(∀x,g x≠.tup xs)->M a=some (.dic (zipK ks (l.map g)))->updM M e o a=some (.dic (zipK ks (l.map g))):=λhg ha=>(X7 λz=>by
  rw[z,he]at ha;obtain⟨x,_,ex⟩:=XN.mp (_hB (MO.dic.inj (Y7 ha)).symm);exact hg x ex).trans ha
 refine⟨(X7 λz=>?_).trans h.ob,no (λ_ z=>nomatch z) h.hn,no (λ_ z=>nomatch z) h.hw,no (λ_ z=>nomatch z) h.hs,no (λ_ z=>nomatch z) h.hb,no (λ_ z=>nomatch z) h.hg,no (λ_ z=>nomatch z) h.ht,h.nl,h.wl,h.sl,h.bl,h.nb,λi I a hI ha=>?_,λj f x hf hx=>(h.ba j f x hf hx).fr (U0 _) λa ha u ea=>(X7 λz=>by subst z;exact(h.ba j f x hf hx).dic he ha).trans ea,h.sep,h.nd⟩
 ·have ob:=h.ob;rw[z,he]at ob;cases ob
 ·obtain⟨kvs,e1,vs,hl,rfl,hv⟩:=h.wa i I a hI ha;exact⟨_,no (g:=MV.int) (λ_ z=>nomatch z) e1,vs,hl,rfl,hv⟩
set_option tactic.hygienic true in
theorem _mb{W:Wld}{bs:List Boat}{z:Str}{o:Option Stp}{ρ:Str->Int}{v:MV}(G:W.Good)(h:WhatTo W bs z o ρ W.fer.length v):∃xs,v=.tup xs/\((xs.length≠3/\∀(k:Nat) (f:Fer) (a:Boat),W.fer[k]?=some f->¬Hit W bs z o ρ k f a)\/∃(x y:Str) (u:Int),xs=[.str x,.str y,.int u]/\∀(k:Nat) (f:Fer) (a:Boat),W.fer[k]?=some f->bs[k]?=some a->z=f.giver\/z=f.taker->(hitA W.w f z o ρ a.A=true↔y=f.name)):=by
 rcases h with⟨e,h⟩|⟨k,f,a,hk,⟨h1,h2,h3,h4⟩,e⟩
 ·have hn:∀k f a,W.fer[k]?=some f->¬Hit W bs z o ρ k f a:=λk f a hf=>h k f a (XG.mp hf).1;rcases o with _|s
  ·exact⟨_,e,.inl ⟨by decide,hn⟩⟩
  ·cases s<;>exact⟨_,e,.inl ⟨by simp,hn⟩⟩
 ·obtain⟨x,u,e3⟩:∃(x:Str) (u:Int),YK W.w f z o ρ a.A=.tup [.str x,.str f.name,.int u]:=by
   have hw:=GS h4;rw[YK,if_pos h4];split
   ·rename_i c
    rw[hitA,if_pos c]at h4;have h4:=((XW _ _).mp h4).1;rcases o with _|s
    ·cases h4
    ·cases s with
     |give g T=>rw[<- of_decide_eq_true hw];exact⟨_,_,rfl⟩
     |take _ _=>cases h4
     |put _ _=>cases h4
     |jump _ _=>cases h4
   ·exact⟨_,_,rfl⟩
  refine⟨_,e.trans e3,.inr ⟨_,_,_,rfl,λk' f' a' hf' ha' _=>⟨λh'=>_jU (GS h4) (GS h'),λen=>?_⟩⟩⟩;have ek:k=k':=(Ww (by rw[Uw];exact hk) G.fn_nd).mp ((Uv h1).trans ((congrArg some en).trans (Uv hf').symm))
  subst ek;rw[h1]at hf';cases hf';rw[h2]at ha';cases ha';exact h4
theorem TwoD.vals{M:MH}{W:Wld}{n:Nat}{pD:Addr}{es:List Addr}{val val':Nat->Bool->MV}(h:TwoD M W n pD es val)(hv:∀(j:Nat) f,W.fer[j]?=some f->val' j=val j):TwoD M W n pD es val':=
 ⟨h.hD,h.el,h.nl,h.np,λj f e hf he=>by rw[hv j f hf];exact h.ed j f e hf he⟩
theorem TwoD.ix{M:MH}{W:Wld}{pD:Addr}{es:List Addr}{val:Nat->Bool->MV}(h:TwoD M W W.fer.length pD es val)(G:W.Good){k:Nat}{f:Fer}(hf:W.fer[k]?=some f):∃e,es[k]?=some e/\valM (zipK (W.fns.take W.fer.length) (es.map MV.ref)) (Xm f.name)=some (.ref e)/\M e=some (.dic (twoK f (val k))):=by
 have hk:=(XG.mp hf).1;have he:es[k]?=some (es[k]'(by rw[h.el];exact hk)):=Xa _
 rw[Vy (by rw[Uw];exact Xe _)]
 exact⟨_,he,Uu G.fn_nd (Uv hf) (by rw[Xr,he];rfl),h.ed k f _ hf he⟩
theorem _px(T:Txt K mg t):FnOk P w K mg base CX0 60 t.fI t.eW ["script"] (liSp K K8):=by
 refine T.hG.F.okM _ow (Ua (k:=59) (G:=Qm) (Φ:=[("_law_rings",Bx),("_law_sample",By),("_law_things",Bs),("made",Bl)]) (Ψ:=[("Run___init__",Bw),("Run_ring",Bv)]) (Χ:=[("_law_rings",Bx),("_law_sample",By),("_law_things",Bs),("made",Bl),("Run___init__",Bw),("Run_ring",Bv)]) rfl (Uo T) (Up T) rfl (fMc ⟨RP,(fMc ⟨RT,(fMc ⟨Ru,(fMc ⟨QT,(fMc ⟨RN,(fMc ⟨RG,nl0⟩)⟩)⟩)⟩)⟩)⟩) (fMc ⟨fE T.bH (_df T),(fMc ⟨fE T.c9 (_c1 T),(fMc ⟨fE T.bL (_c0 T),(fMc ⟨fE T.b8 (_n4 T),nl0⟩)⟩)⟩)⟩) (fMc ⟨⟨_,_,rfl,_,_,_,_,(FnOk.mono (_fl T) (by decide)),T.ae,T.ak,T.dq,T.fW⟩,nl0⟩) (fMc ⟨⟨_,_,rfl,_,_,_,_,_,(by decide:6+1≤59),_aZ T,T.ae,T.fw,T.dY,T.fA⟩,nl0⟩) (Uq T)) G2 _q5 (fun vs M Q h=>?_) (fun vs M Q h=>?_)
 ·obtain⟨ns,rfl,_⟩:=h;rfl
 obtain⟨ns,rfl,h63,q⟩:=h;have hΦ:=(UQ (Φ:=[("_law_rings",Bx),("_law_sample",By),("_law_things",Bs),("made",Bl),("Run___init__",Bw),("Run_ring",Bv)]) (fMc ⟨RP,(fMc ⟨RT,(fMc ⟨Ru,(fMc ⟨QT,(fMc ⟨RN,(fMc ⟨RG,nl0⟩)⟩)⟩)⟩)⟩)⟩));show wSs _ _ _ [some (.frl (ns.map .int)),none,none,none,none,none,none,none,none,none,none,none,none,none,none,none] M;delta G2 Ql;simp!;refine⟨ns,3,rfl,λW pi pf ys M1 s1 G i1 f1 f2 f3 hpi hIs hpf=>?_⟩;have i5:=G.i5;have f6:=G.f6;simp!;delta Qk
 simp![hpi]
 intro p1 hp1;have s2:=SameM.new hp1 (.lst ys);have hp2:updM M1 p1 (.lst ys) p1=some (.lst ys):=Xb;generalize updM M1 p1 _=M2 at*;have hpf2:=s2 _ _ hpf
 simp![hpf2]
 intro p2 hp3;have s3:=SameM.new hp3 (.lst (W.fer.map Fer.mv));have hp4:updM M2 p2 (.lst (W.fer.map Fer.mv)) p2=some (.lst (W.fer.map Fer.mv)):=Xb;generalize updM M2 p2 _=M3 at*;refine⟨p1,p2,ys,W,rfl,s3 _ _ hp2,hIs.keep (s2.trans s3),hp4,G,λM4 s4=>?_⟩;have s14:=(s2.trans s3).trans s4;have hpi4:=s14 _ _ hpi;have jH:=s14 _ _ hpf;have hIs4:=hIs.keep s14
 try simp!
 intro r hr;have rr:updM M4 r (.ins "Run" []) r=some (.ins "Run" []):=Xb;have s5:=SameM.new hr (.ins "Run" []);refine⟨r,W,rfl,rr,G,λR M5 fr5 hR5 hm5 hA5 ho5=>?_⟩;have s45:SameM M4 M5:=λa o e=>fr5 a o (s5 a o e) (by simpa using neM e hr)
 have hpi5:=s45 _ _ hpi4;have jp:=s45 _ _ jH;have hIs5:=hIs4.keep s45;have no5:∀a o,M4 a=some o->a∉R.own r:=λa o e z=>by
  rcases ho5 a z with rfl|c
  ·rw[hr]at e;cases e
  ·rw[s5 _ _ e]at c;cases c
 try simp!
 delta Qj;simp!;intro pD hpD;have s6:=SameM.new hpD (.dic []);have hD6:updM M5 pD (.dic []) pD=some (.dic []):=Xb;generalize updM M5 pD _=M6 at*;have hpf6:=s6 _ _ jp;delta Qi
 simp![hpf6]
 obtain⟨J0,hJ0⟩:∃J:Nat->Sm->MH->Prop,∀j σ M',J j σ M'↔∃(es:List Addr) (v6:Option MV),SameM M5 M'/\TwoD M' W j pD es (λ_ _=>.tup [.int 0,.int 0,.int (-1)])/\es.Nodup/\(∀e∈es,M5 e=none)/\σ=[some (.frl (ns.map MV.int)),some (.int W.w),some (.ref pi),some (.ref pf),some (.ref r),some (.ref pD),v6,none,none,none,none,none,none,none,none,none]:=⟨_,λ_ _ _=>Yf⟩;refine⟨J0,(hJ0 _ _ _).mpr ⟨[],_,s6,TwoD.first hD6,Wy,(λe h=>nomatch h),rfl⟩,λj σ M' h=>?_,?_,?_⟩
 ·obtain⟨_,_,h,_⟩:=(hJ0 _ _ _).mp h;exact h _ _ jp
 ·rintro j y σ M7 hy h;obtain⟨es,v6,s7,hT,nd,hes,rfl⟩:=(hJ0 _ _ _).mp h;obtain⟨hj,rfl⟩:=YY (show(W.fer.map Fer.mv)[j]?=some y from hy);have hf:=Xa hj;generalize W.fer[j]=f at*;delta Qh
  simp![Fer.mv]
  intro p hp;refine⟨_,rfl,_,rfl,?_⟩;have fo:=(G.fo f (Xw hf)).ne;rw[show Yk [(Xm f.giver,MV.tup [.int 0,.int 0,.int (-1)]),(Xm f.taker,.tup [.int 0,.int 0,.int (-1)])]=twoK f (λ_=>.tup [.int 0,.int 0,.int (-1)])from twoK_put (val:=λ_=>.tup [.int 0,.int 0,.int (-1)]) fo,YC];have np:pD≠p:=neM hT.hD hp;have s8:=SameM.new hp (.dic (twoK f λ_=>.tup [.int 0,.int 0,.int (-1)]));have h8:updM M7 p (.dic (twoK f λ_=>.tup [.int 0,.int 0,.int (-1)])) p=_:=Xb;generalize updM M7 p _=M8 at*;have hD8:=s8 _ _ hT.hD
  simp![hD8]
  refine⟨by rw[Dr (by rw[Xc,hT.el,YN,Uw];lia),YN];exact Nat.lt_of_le_of_lt (Nat.min_le_left _ _) (by lia),(hJ0 _ _ _).mpr ⟨es++[p],_,λa o ha=>(X7 (neM ha hpD)).trans (s8 a o (s7 a o ha)),hT.add G hf hp (λ_ _ _=>rfl) (λa o ha na=>(X7 na).trans (s8 a o ha)) Xb ((X7 (XQ np)).trans h8),?_,?_,rfl⟩⟩
  ·refine Z9.mpr ⟨nd,by simp,λa ha b hb e=>?_⟩
   obtain rfl:=XX.mp hb;obtain⟨kv,e2⟩:=hT.some_ a (.inr ha);rw[e,hp]at e2;cases e2
  ·intro e he;rcases Yw.mp he with he|he
   ·exact hes e he
   ·obtain rfl:=XX.mp he;cases e5:M5 e with
    |none=>rfl
    |some o=>rw[s7 _ _ e5]at hp;cases hp
 ·rintro σ M7 h;obtain⟨es,v6,s7,hT,nd,hes,rfl⟩:=(hJ0 _ _ _).mp h;rw[show Src.len (.lst pf (W.fer.map Fer.mv))=W.fer.length from Xc _]at hT;have hT:TwoD M7 W W.fer.length pD es (sgB R.bs):=hT.vals λj f hf=>by
   have hj:=(XG.mp hf).1;have hb:R.bs[j]?=some (R.bs[j]'(by rw[hR5.bl];exact hj)):=Xa _
   funext b
   unfold sgB;rw[hb];show sgV (R.bs[j]'_).A b=_;rw[hA5 j f _ hf hb];cases b<;>rfl
  have hpi7:=s7 _ _ hpi5;have hpf7:=s7 _ _ jp;have hIs7:=hIs5.keep s7;have hR7:=hR5.keep s7;delta Qg;simp!;delta Qf;simp!;intro pc hpc;obtain⟨cs,hcs,cl⟩:∃cs:List Int,cutM (ns.map MV.int) (some 10) (some 90)=cs.map MV.int/\cs.length≤63:=by
   refine⟨(ns.drop (HT.sIx (ns.map MV.int).length 0 (some 10))).take (HT.sIx (ns.map MV.int).length (ns.map MV.int).length (some 90) - HT.sIx (ns.map MV.int).length 0 (some 10)),?_,?_⟩
   ·unfold cutM;rw[List.map_take,List.map_drop]
   ·rw[YN,BO];lia
  rw[hcs];have s8:=SameM.new hpc (.lst (cs.map MV.int));have hc8:updM M7 pc (.lst (cs.map MV.int)) pc=some (.lst (cs.map MV.int)):=Xb;generalize updM M7 pc _=M8 at*;refine⟨pc,pi,cs,ys,W.isl,rfl,hc8,by lia,s8 _ _ hpi7,hIs7.keep s8,i1,i5,λp rs M9 s9 hp hp9 rl ro=>?_⟩
  have s79:=s8.trans s9;have no7:∀a,M5 a=none->a∉R.own r:=λa ha z=>by
   obtain⟨o,e⟩:=hR5.own_some a z;rw[ha]at e;cases e
  have noA:∀a,a=p\/a=pf\/a=pD\/a∈es->a∉R.own r:=λa ha=>by
   rcases ha with rfl|rfl|rfl|ha
   ·exact no7 _ (by
     cases e5:M5 a with
     |none=>rfl
     |some o=>rw[s8 _ _ (s7 _ _ e5)]at hp;cases hp)
   ·exact no5 _ _ jH
   ·exact no7 _ hpD
   ·exact no7 _ (hes a ha)
  simp![hp9]
  obtain⟨J,hJ⟩:∃J:Nat->Sm->MH->Prop,∀j σ M',J j σ M'↔∃(R':RunS) (v6 v8 v9 v10 v11 v12 v13 v14 v15:Option MV),RunAt M' W r R' (λ_=>R'.m)/\TwoD M' W W.fer.length pD es (sgB R'.bs)/\M' p=some (.lst (rs.map rgM))/\M' pf=some (.lst (W.fer.map Fer.mv))/\(∀a,a=p\/a=pf\/a=pD\/a∈es->a∉R'.own r)/\(∀y∈R'.bs,y.A.ws.length≤j)/\σ=[some (.frl (ns.map MV.int)),some (.int W.w),some (.ref pi),some (.ref pf),some (.ref r),some (.ref pD),v6,some (.int R'.m),v8,v9,v10,v11,v12,v13,v14,v15]:=⟨_,λ_ _ _=>Yf⟩;refine⟨J,(hJ _ _ _).mpr ⟨R,_,_,_,_,_,_,_,_,_,hR7.keep s79,hT.keep λa o _ e=>s79 a o e,hp9,s79 _ _ hpf7,noA,λy hy=>?_,by rw[hm5]⟩,λj σ M' h=>?_,?_,?_⟩
  ·obtain⟨j,hj,rfl⟩:=Y1 hy;rw[hA5 j _ _ (Xa (by rw[<- hR5.bl];exact hj)) (Xa hj)]
   exact Xe _
  ·obtain⟨_,_,_,_,_,_,_,_,_,_,_,_,h,_⟩:=(hJ _ _ _).mp h;exact h
  ·rintro j y σ M' hy h;obtain⟨R',v6,v8,v9,v10,v11,v12,v13,v14,v15,hR,hT',hps,hfs,nO,hl,rfl⟩:=(hJ _ _ _).mp h;obtain⟨hj,rfl⟩:=YY (show(rs.map rgM)[j]?=some y from hy);obtain⟨I,hIm,en⟩:=ro _ (XU hj);generalize rs[j]=x at*;obtain⟨i,hi,rfl⟩:=Y1 hIm;have hI:=Xa hi;generalize W.isl[i]=I at*;obtain⟨n,hn⟩:∃n,R'.nums[i]?=some n:=⟨_,Xa (by rw[hR.nl];exact hi)⟩
   have ob:=hR.ob;simp!;delta Qe;rw[en]
   simp![ob,runO,valM]
   refine⟨r,W,R',i,I,x.2,n,_,rfl,G,hR,hI,λy hy=>Y2 (hl y hy) (by lia),hn,rfl,λρ R2 M8 v pS hR2 k2 m2 hpS nS hS bT wT=>?_⟩
   generalize I.stps[n]?=o at*;generalize x.2=c at*;have kO:∀a u,(a=p\/a=pf\/a=pD\/a∈es)->M' a=some u->M8 a=some u/\a∉R2.own r:=λa u ha e=>⟨k2.fr _ _ e (nO a ha),λz=>(k2.nw a z).elim (nO a ha) λc=>by rw[e]at c;cases c⟩
   have hp8:=(kO _ _ (.inl rfl) hps).1;have hf8:=(kO _ _ (.inr (.inl rfl)) hfs).1;have hT8:TwoD M8 W W.fer.length pD es (sgB R'.bs):=hT'.keep λa u ha e=>(kO a u (.inr (.inr ha)) e).1;have nO2:∀a,a=p\/a=pf\/a=pD\/a∈es->a∉R2.own r:=λa ha=>by
    rcases ha with rfl|rfl|ha
    ·exact(kO _ _ (.inl rfl) hps).2
    ·exact(kO _ _ (.inr (.inl rfl)) hfs).2
    ·obtain⟨kv,e⟩:=hT'.some_ a ha;exact(kO _ _ (.inr (.inr ha)) e).2
   obtain⟨xs,rfl,hx⟩:=_mb G wT
   try simp!
   delta Qd;simp!;intro pd hpd;have s9':=SameM.new hpd (.lst []);have hd9:updM M8 pd (.lst []) pd=some (.lst []):=Xb;have dno:pd∉R2.own r:=λz=>by
    obtain⟨o,e⟩:=hR2.own_some pd z;rw[hpd]at e;cases e
   have nd1:p≠pd:=neM hp8 hpd;have nd2:pf≠pd:=neM hf8 hpd;have nd3:pS≠pd:=neM hS hpd;have hR9:=hR2.keep s9';have hT9:=hT8.keep λa o _ e=>s9' a o e;have hp9':=s9' _ _ hp8;have hf9:=s9' _ _ hf8;have hS9:=s9' _ _ hS;generalize updM M8 pd _=M10 at*;delta Qc
   simp![hf9,Xc]
   obtain⟨J2,hJ2⟩:∃J:Nat->Sm->MH->Prop,∀k σ M',J k σ M'↔∃(v6 v12 v13 v14 v15:Option MV),RunAt M' W r R2 (λ_=>R2.m)/\TwoD M' W W.fer.length pD es (λi=>if i<k then sgB R2.bs i else sgB R'.bs i)/\M' p=some (.lst (rs.map rgM))/\M' pf=some (.lst (W.fer.map Fer.mv))/\M' pS=some (.lst ((ixs W I.name W.fer.length).map (smpM W R'.bs I.name c)))/\M' pd=some (.lst ((ixs W I.name k).map (smpM W R'.bs I.name c)))/\σ=[some (.frl (ns.map MV.int)),some (.int W.w),some (.ref pi),some (.ref pf),some (.ref r),some (.ref pD),v6,some (.int R'.m),some (.str I.name),some (.int c),some (.tup [.str I.name,.int n,.tup xs,.ref pS]),some (.ref pd),v12,v13,v14,v15]:=⟨_,λ_ _ _=>Yf⟩;refine⟨by lia,by lia,J2,(hJ2 _ _ _).mpr ⟨_,_,_,_,_,hR9,hT9.vals λi f _=>if_neg (WF _),hp9',hf9,hS9,hd9,rfl⟩,λk σ M' h=>trivial,?_,?_⟩
   ·rintro k y σ M11 hy h;obtain⟨v6,v12,v13,v14,v15,ji,hT11,hp11,hf11,hS11,iK,rfl⟩:=(hJ2 _ _ _).mp h;obtain⟨hk,rfl⟩:=Wg hy;have hk:k<W.fer.length:=by simpa using hk
    have ek:((0:Int)+(k:Nat))=(k:Nat):=by lia
    have hf:W.fer[k]?=some W.fer[k]:=Xa hk;generalize W.fer[k]=f at*;obtain⟨b,hb⟩:∃b,R'.bs[k]?=some b:=⟨_,Xa (by rw[hR.bl];exact hk)⟩
    obtain⟨b',hb',eb⟩:=bT k f b hk hf hb;have af:atI (W.fer.map Fer.mv) (k:Int)=some f.mv:=YB (by rw[Xr,hf];rfl)
    have fo:=G.fo f (Xw hf);have gt:sgB R'.bs k=sgV b.A:=funext λq=>by unfold sgB;rw[hb]
    have gt':sgB R2.bs k=sgV b'.A:=funext λq=>by unfold sgB;rw[hb']
    rw[ek];delta Qb
    simp![hf11,af]
    delta Qa
    simp![Fer.mv]
    refine⟨rfl,rfl,?_⟩;rw[Uy];simp!;refine Y4 (λcz=>?_) (λcz=>?_)
    ·rw[newA,if_pos cz]at eb;obtain⟨e,he,hv,hM⟩:=hT11.ix G hf;have hM:M11 e=some (.dic (twoK f (sgV b.A))):=by
      rw[if_neg (ZY _),gt]at hM;exact hM
     have hD:=hT11.hD;delta Q9
     simp![Fer.mv,hD,hv]
     delta Q8
     simp![Fer.mv]
     intro pl hpl;obtain⟨ot,ao,vo⟩:∃ot:Str,atI [MV.str f.giver,MV.str f.taker] (if I.name=f.giver then 1 else 0)=some (.str ot)/\valM (twoK f (sgV b.A)) (Xm ot)=some (sgV b.A (!decide (f.giver=I.name))):=by
      by_cases g:I.name=f.giver
      ·exact⟨f.taker,by rw[if_pos g];rfl,by rw[twoK_val fo.ne (.inr rfl),decide_eq_false fo.ne,decide_eq_true g.symm];rfl⟩
      ·exact⟨f.giver,by rw[if_neg g];rfl,by rw[twoK_val fo.ne (.inl rfl),decide_eq_true rfl,decide_eq_false (XQ g)];rfl⟩
     refine⟨_,ao,?_⟩;have sl:=SameM.new hpl (.lst [MV.str f.giver,.str f.taker]);have hR12:=ji.keep sl;have hT12:=hT11.keep λa o _ e=>sl a o e;generalize updM M11 pl _=M12 at*;have hM12:=sl _ _ hM;have j8:=sl _ _ iK;have vn:=twoK_val (val:=sgV b.A) fo.ne cz;have Bk:=hR.ba k f b hf hb;obtain⟨u,n',p',m1,m2',e1,e2,q1,q2,eS⟩:=_ov (f:=f) (z:=I.name) Bk.fy.ok (c/2^(8*k));rw[e1]at vn;rw[e2]at vo;rw[Bk.k]at eS;delta Q7
     simp![hM12,vn,vo,j8]
     have e8:(1:Int)*2^((8:Int)*(k:Int)).toNat=2^(8*k):=by rw[Int.one_mul,show(8:Int)*(k:Int)=((8*k:Nat):Int) by lia,YI]
     have hc2:(c:Int)/2^(8*k)=((c/2^(8*k):Nat):Int):=by rw[Int.natCast_ediv,V9];rfl
     have xl:=RF (W:=W) (z:=I.name) (j:=k);rw[e8,hc2];refine⟨⟨_,rfl⟩,⟨by lia,by lia⟩,⟨Wh _,Int.lt_of_le_of_lt (G3 (by lia)) (by decide)⟩,⟨_,_,n',p',f.k,_,m1,m2',rfl,by rw[<- Bk.k];exact Bk.fy.ok.k4,q1,q2,?_⟩⟩
     rw[eS]
     simp![j8]
     refine⟨by rw[Xc];lia,?_⟩
     rw[show(ixs W I.name k).map (smpM W R'.bs I.name c)++[.tup [.str f.name,.int (smpA f I.name (c/2^(8*k)) b.A:Nat)]]=(ixs W I.name (k+1)).map (smpM W R'.bs I.name c) by rw[RD hf cz,XV,<- RC hf hb];rfl]
     have hR13:=hR12.off j8 dno (.lst ((ixs W I.name (k+1)).map (smpM W R'.bs I.name c)));have k13:∀a u,M12 a=some u->a≠pd->updM M12 pd (.lst ((ixs W I.name (k+1)).map (smpM W R'.bs I.name c))) a=some u:=λa u e n=>(X7 n).trans e;have jI:updM M12 pd (.lst ((ixs W I.name (k+1)).map (smpM W R'.bs I.name c))) pd=_:=Xb;have hT13:=hT12.keep λa o ha e=>k13 a o e λz=>by
      obtain⟨kv,e2⟩:=hT12.some_ _ ha;rw[z,j8]at e2;cases e2
     have hM13:=k13 _ _ hM12 λz=>by rw[z,j8]at hM12;cases hM12
     have hp13:=k13 _ _ (sl _ _ hp11) nd1;have hf13:=k13 _ _ (sl _ _ hf11) nd2;have hS13:=k13 _ _ (sl _ _ hS11) nd3;generalize updM M12 pd _=M13 at*;delta Q6;refine _q3 hΦ (λσ' M'=>M'=M13/\σ'=[some (.frl (ns.map MV.int)),some (.int W.w),some (.ref pi),some (.ref pf),some (.ref r),some (.ref pD),some f.mv,some (.int R'.m),some (.str I.name),some (.int c),some (.tup [.str I.name,.int n,.tup xs,.ref pS]),some (.ref pd),some (.int k),some (.ref e),some (.str ot),some (.int ((cntA f I.name b.A:Nat)+(if hitA W.w f I.name o ρ b.A=true then 1 else 0)))]) ?_ ?_
     ·rcases hx with⟨h3,hn'⟩|⟨x1,y1,u1,rfl,hy⟩
      ·have nh:hitA W.w f I.name o ρ b.A=false:=by
        rw[<- Bool.not_eq_true];exact λz=>hn' k f b hf ⟨hf,hb,cz,z⟩
       have h3:¬(xs.length:Int)=3:=by lia
       rw[nh]
       simp![hM13,vn,h3,Fer.mv]
      ·rw[show(if hitA W.w f I.name o ρ b.A=true then(1:Int)else 0)=if y1=f.name then 1 else 0 from by simp only[hy k f b hf hb cz]]
       simp![hM13,vn,Fer.mv]
     ·rintro σ' M14 ⟨rfl,rfl⟩;delta Q5
      simp![hM13,vn]
      have eT:putM (twoK f (sgV b.A)) (Xm I.name) (.tup [.int ((cntA f I.name b.A:Nat)+(if hitA W.w f I.name o ρ b.A=true then 1 else 0)),.int (cntA f I.name b.A:Nat),.int R'.m])=twoK f (if k<k+1 then sgB R2.bs k else sgB R'.bs k):=by rw[twoK_set fo.ne cz,if_pos (V4 _),gt',eb,_mh]
      rw[eT];have nl:∀a xs,M14 a=some (.lst xs)->a≠e:=λa xs ea z=>by rw[z,hM13]at ea;cases ea
      refine(hJ2 _ _ _).mpr ⟨_,_,_,_,_,hR13.offd (xs:=[.int b.A.ws.length,.int b.A.gp,.int b.A.gm]) hM13 _,hT13.upd (val':=λi=>if i<k+1 then sgB R2.bs i else sgB R'.bs i) nd hf he λi ni=>?_,(X7 (nl _ _ hp13)).trans hp13,(X7 (nl _ _ hf13)).trans hf13,(X7 (nl _ _ hS13)).trans hS13,(X7 (nl _ _ jI)).trans jI,rfl⟩;by_cases l:i<k
      ·rw[if_pos l,if_pos (ZE l)]
      ·rw[if_neg l,if_neg (by lia)]
    ·rw[newA,if_neg cz]at eb;refine(hJ2 _ _ _).mpr ⟨_,_,_,_,_,ji,hT11.vals λi g hg=>?_,hp11,hf11,hS11,by rw[RE hf cz];exact iK,rfl⟩
     by_cases ei:i=k
     ·subst ei;rw[if_pos (V4 _),if_neg (ZY _),gt,gt',eb]
     ·by_cases l:i<k
      ·rw[if_pos l,if_pos (ZE l)]
      ·rw[if_neg l,if_neg (by lia)]
   ·rintro σ M11 h;obtain⟨v6,v12,v13,v14,v15,ji,hT11,hp11,hf11,hS11,iK,rfl⟩:=(hJ2 _ _ _).mp h;delta Q4
    simp![hS11]
    have hL:Src.len (.rng 0 (W.fer.length:Int).toNat)=W.fer.length:=YI _;rw[hL]at hT11 iK;refine _kZ (m:=2) rfl (Alike.lst (.inr ⟨_,rfl,hS11⟩) (.inr ⟨_,rfl,iK⟩) rfl λi u v e e'=>?_) (by decide) ?_
    ·rw[e]at e';cases e';obtain⟨k,hk,rfl⟩:=XN.mp (Xw e);unfold smpM;split
     ·exact .tupFlat 0 rfl
     ·exact .inl ⟨rfl,rfl⟩
    simp![hS11]
    delta Q3;simp!;refine(hJ _ _ _).mpr ⟨R2,_,_,_,_,_,_,_,_,_,ji,hT11.vals λi g hg=>(if_pos (XG.mp hg).1).symm,hp11,hf11,nO2,bT.len hR2.bl hR.bl (λk hk=>?_) hl,by rw[m2]⟩
    rw[Zi (by rw[hR2.bl];exact hk),Zi (by rw[hR.bl];exact hk)]
  ·rintro σ M' h;obtain⟨R',v6,v8,v9,v10,v11,v12,v13,v14,v15,hR,hT',hps,hfs,nO,hl,rfl⟩:=(hJ _ _ _).mp h;delta Q2;simp!;exact q _
end
theorem all_mk{l:DJ}{w:Xn}{K:X4}{h:Heap}{mg:Str->Option X0}{fa:Addr}(X:K.In h)(G:h.Ns Xp mg)(hfa:mg "law"=some (.ref fa))
  {iz:Addr}
  {ij:Addr}
  {iu:Addr}
  {f15 f16 f17 f18 f19 f20 f21 f22 f51 f52 f53 f54:Addr} {od15 an15 od16 an16 od17 an17 od18 an18 od19 an19 od20 an20 od21 an21 od22 an22 od51 an51 od52 an52 od53 an53 od54 an54:Option Addr} {sl15 sl16 sl17 sl18 sl19 sl20 sl21 sl22 sl51 sl52 sl53 sl54:Array (Option X0)} {oc15 kV15 dc15 pm15 cd15 ct15 oc16 kV16 dc16 pm16 cd16 ct16 oc17 kV17 dc17 pm17 cd17 ct17 oc18 kV18 dc18 pm18 cd18 ct18 oc19 kV19 dc19 pm19 cd19 ct19 oc20 kV20 dc20 pm20 cd20 ct20 oc21 kV21 dc21 pm21 cd21 ct21 oc22 kV22 dc22 pm22 cd22 ct22 oc51 kV51 dc51 pm51 cd51 ct51 oc52 kV52 dc52 pm52 cd52 ct52 oc53 kV53 dc53 pm53 cd53 ct53 oc54 kV54 dc54 pm54 cd54 ct54:X0}
  {f1 f2 f3 f4 f5 f6 f7 f8 f9 f10 f11 f12 f13 f14 f23 f24 f25 f26 f27 f28 f29 f30 f31 f32 f33 f34 f35 f36 f37 f38 f39 f40 f41 f42 f43 f44 f45 f46 f47 f48 f49 f50 f55 f56 f57 f58 f59 f60 f61 f62 f63 f64:Addr} {d1 d2 d3 d4 d5 d6 d7 d8 d9 d10 d11 d12 d13 d14 d23 d24 d25 d26 d27 d28 d29 d30 d31 d32 d33 d34 d35 d36 d37 d38 d39 d40 d41 d42 d43 d44 d45 d46 d47 d48 d49 d50 d55 d56 d57 d58 d59 d60 d61 d62 d63 d64:Xi}
  {tk1:Tok}
  {tk2:Tok}
  {tk3:Tok}
  {tk4:Tok}
  {tk5:Tok}
  {tk6:Tok}
  {tk7:Tok}
  {tk8:Tok}
  {tk9:Tok}
  {tk10:Tok}
  {tk11:Tok}
  (iZ:Xy K Xp "Run"=some (some (.ref iz)))
  (iJ:Xy K Xp "Ferry"=some (some (.ref ij)))
  (iL:Xy K Xp "Side"=some (some (.ref iu)))
  (h1:Fn1 K "is_whole" Ah f1 d1)
  (h2:Fn1 K "is_width" Ai f2 d2)
  (h3:Fn1 K "two_to" Aj f3 d3)
  (h4:Fn1 K "fits" Ak f4 d4)
  (h5:Fn1 K "cut" Al f5 d5)
  (h6:Fn1 K "amid" Am f6 d6)
  (h7:Fn1 K "code_of" An f7 d7)
  (h8:Fn1 K "number_of" Ao f8 d8)
  (h9:Fn1 K "first_sign" Ap f9 d9)
  (h10:Fn1 K "shown" Aq f10 d10)
  (h11:Fn1 K "first_sight" Ar f11 d11)
  (h12:Fn1 K "sampled" As f12 d12)
  (h13:Fn1 K "moved" At f13 d13)
  (h14:Fn1 K "used" Au f14 d14)
  (a15:XF K (.ref iu) "__init__"=some (some (.ref f15))) (i15:YQ K (.ref f15)=true) (l15:K.lookup f15=some ⟨oc15,od15,.func (Yd "__init__" "Side.__init__" (Ys Ub) (Xf Ub) (X5 Ub) .none kV15 dc15 pm15 an15 cd15 ct15),sl15⟩) (c15:YO K cd15 "Side.__init__"=true) (k15:XZ K (.ref f15)=true)
  (a16:XF K (.ref iu) "ring_ahead"=some (some (.ref f16))) (i16:YQ K (.ref f16)=true) (l16:K.lookup f16=some ⟨oc16,od16,.func (Yd "ring_ahead" "Side.ring_ahead" (Ys Uc) (Xf Uc) (X5 Uc) .none kV16 dc16 pm16 an16 cd16 ct16),sl16⟩) (c16:YO K cd16 "Side.ring_ahead"=true) (k16:XZ K (.ref f16)=true)
  (a17:XF K (.ref iu) "less_the_seen"=some (some (.ref f17))) (i17:YQ K (.ref f17)=true) (l17:K.lookup f17=some ⟨oc17,od17,.func (Yd "less_the_seen" "Side.less_the_seen" (Ys Ud) (Xf Ud) (X5 Ud) .none kV17 dc17 pm17 an17 cd17 ct17),sl17⟩) (c17:YO K cd17 "Side.less_the_seen"=true) (k17:XZ K (.ref f17)=true)
  (a18:XF K (.ref iu) "grow"=some (some (.ref f18))) (i18:YQ K (.ref f18)=true) (l18:K.lookup f18=some ⟨oc18,od18,.func (Yd "grow" "Side.grow" (Ys Ue) (Xf Ue) (X5 Ue) .none kV18 dc18 pm18 an18 cd18 ct18),sl18⟩) (c18:YO K cd18 "Side.grow"=true) (k18:XZ K (.ref f18)=true)
  (a19:XF K (.ref iu) "show_and_see"=some (some (.ref f19))) (i19:YQ K (.ref f19)=true) (l19:K.lookup f19=some ⟨oc19,od19,.func (Yd "show_and_see" "Side.show_and_see" (Ys Uf) (Xf Uf) (X5 Uf) .none kV19 dc19 pm19 an19 cd19 ct19),sl19⟩) (c19:YO K cd19 "Side.show_and_see"=true) (k19:XZ K (.ref f19)=true)
  (a20:XF K (.ref ij) "__init__"=some (some (.ref f20))) (i20:YQ K (.ref f20)=true) (l20:K.lookup f20=some ⟨oc20,od20,.func (Yd "__init__" "Ferry.__init__" (Ys Ug) (Xf Ug) (X5 Ug) .none kV20 dc20 pm20 an20 cd20 ct20),sl20⟩) (c20:YO K cd20 "Ferry.__init__"=true) (k20:XZ K (.ref f20)=true)
  (a21:XF K (.ref ij) "ring_giver"=some (some (.ref f21))) (i21:YQ K (.ref f21)=true) (l21:K.lookup f21=some ⟨oc21,od21,.func (Yd "ring_giver" "Ferry.ring_giver" (Ys Uh) (Xf Uh) (X5 Uh) .none kV21 dc21 pm21 an21 cd21 ct21),sl21⟩) (c21:YO K cd21 "Ferry.ring_giver"=true) (k21:XZ K (.ref f21)=true)
  (a22:XF K (.ref ij) "ring_taker"=some (some (.ref f22))) (i22:YQ K (.ref f22)=true) (l22:K.lookup f22=some ⟨oc22,od22,.func (Yd "ring_taker" "Ferry.ring_taker" (Ys Ui) (Xf Ui) (X5 Ui) .none kV22 dc22 pm22 an22 cd22 ct22),sl22⟩) (c22:YO K cd22 "Ferry.ring_taker"=true) (k22:XZ K (.ref f22)=true)
  (h23:Fn1 K "parts_within" Av f23 d23)
  (h24:Fn1 K "size_of" Aw f24 d24)
  (h25:Fn1 K "names_read" Ax f25 d25)
  (h26:Fn1 K "vars_in" Ay f26 d26)
  (h27:Fn1 K "worth_of_two" Az f27 d27)
  (h28:Fn1 K "worth" AA f28 d28)
  (h29:Fn1 K "wish" AB f29 d29)
  (h30:Fn1 K "number_after" AC f30 d30)
  (h31:Fn1 K "words_after" AD f31 d31)
  (h32:Fn1 K "after" AE f32 d32)
  (h33:Fn1 K "is_name" AF f33 d33)
  (h34:Fn1 K "refuse_name" AG f34 d34)
  (h35:Fn1 K "refuse_unknown" AH f35 d35)
  (h36:Fn1 K "refuse_ferry_names" AI f36 d36)
  (h37:Fn1 K "refuse_variables" AJ f37 d37)
  (h38:Fn1 K "refuse_term" AK f38 d38)
  (h39:Fn1 K "refuse_step" AL f39 d39)
  (h40:Fn1 K "refuse_island" AM f40 d40)
  (h41:Fn1 K "refuse_islands" AN f41 d41)
  (h42:Fn1 K "refuse_ferry" AO f42 d42)
  (h43:Fn1 K "refuse_wrong_end" AQ f43 d43)
  (h44:Fn1 K "refuse_wrong_ends" AR f44 d44)
  (h45:Fn1 K "frozen" AS f45 d45)
  (h46:Fn1 K "made" AT f46 d46)
  (h47:Fn1 K "one_called" AU f47 d47)
  (h48:Fn1 K "island_of" AV f48 d48)
  (h49:Fn1 K "what_alone" AW f49 d49)
  (h50:Fn1 K "is_wish_of" AX f50 d50)
  (a51:XF K (.ref iz) "__init__"=some (some (.ref f51))) (i51:YQ K (.ref f51)=true) (l51:K.lookup f51=some ⟨oc51,od51,.func (Yd "__init__" "Run.__init__" (Ys Uj) (Xf Uj) (X5 Uj) .none kV51 dc51 pm51 an51 cd51 ct51),sl51⟩) (c51:YO K cd51 "Run.__init__"=true) (k51:XZ K (.ref f51)=true)
  (a52:XF K (.ref iz) "ring"=some (some (.ref f52))) (i52:YQ K (.ref f52)=true) (l52:K.lookup f52=some ⟨oc52,od52,.func (Yd "ring" "Run.ring" (Ys Uk) (Xf Uk) (X5 Uk) .none kV52 dc52 pm52 an52 cd52 ct52),sl52⟩) (c52:YO K cd52 "Run.ring"=true) (k52:XZ K (.ref f52)=true)
  (a53:XF K (.ref iz) "ring_ferry"=some (some (.ref f53))) (i53:YQ K (.ref f53)=true) (l53:K.lookup f53=some ⟨oc53,od53,.func (Yd "ring_ferry" "Run.ring_ferry" (Ys Ul) (Xf Ul) (X5 Ul) .none kV53 dc53 pm53 an53 cd53 ct53),sl53⟩) (c53:YO K cd53 "Run.ring_ferry"=true) (k53:XZ K (.ref f53)=true)
  (a54:XF K (.ref iz) "go_on"=some (some (.ref f54))) (i54:YQ K (.ref f54)=true) (l54:K.lookup f54=some ⟨oc54,od54,.func (Yd "go_on" "Run.go_on" (Ys Um) (Xf Um) (X5 Um) .none kV54 dc54 pm54 an54 cd54 ct54),sl54⟩) (c54:YO K cd54 "Run.go_on"=true) (k54:XZ K (.ref f54)=true)
  (h55:Fn1 K "_law_cell_at" AY f55 d55)
  (h56:Fn1 K "_law_name" AZ f56 d56)
  (h57:Fn1 K "_law_term" B0 f57 d57)
  (h58:Fn1 K "_law_step" B1 f58 d58)
  (h59:Fn1 K "_law_island" B3 f59 d59)
  (h60:Fn1 K "_law_things" B4 f60 d60)
  (h61:Fn1 K "_law_rings" B5 f61 d61)
  (h62:Fn1 K "_law_code" B6 f62 d62)
  (h63:Fn1 K "_law_sample" B7 f63 d63)
  (h64:Fn1 K "law" B8 f64 d64)
  (iS:V1 K iu U1=true) (iT:VH K iu=true) (iU:WD K iu=true) (iV:XF K (.ref iu) "__setattr__"=some (some (.builtin "object.__setattr__"))) (iW:WE K iu=true) (iX:XZ K (.ref iu)=true)
  (iF:XF K (.ref iu) "turn"=some none)
  (iC:XF K (.ref iu) "total"=some none)
  (iG:XF K (.ref iu) "sign"=some none)
  (iD:XF K (.ref iu) "sight"=some none)
  (iM:V1 K ij U1=true) (iN:VH K ij=true) (iO:WD K ij=true) (iP:XF K (.ref ij) "__setattr__"=some (some (.builtin "object.__setattr__"))) (iQ:WE K ij=true) (iR:XZ K (.ref ij)=true)
  (iy:XF K (.ref ij) "places"=some none)
  (iA:XF K (.ref ij) "giver"=some none)
  (iB:XF K (.ref ij) "taker"=some none)
  (j9:V1 K iz U1=true) (ja:VH K iz=true) (jb:WD K iz=true) (jc:XF K (.ref iz) "__setattr__"=some (some (.builtin "object.__setattr__"))) (jd:WE K iz=true) (je:XZ K (.ref iz)=true)
  (iH:XF K (.ref iz) "world"=some none)
  (iE:XF K (.ref iz) "moment"=some none)
  (ik:XF K (.ref iz) "next_numbers"=some none)
  (iw:XF K (.ref iz) "words_now"=some none)
  (il:XF K (.ref iz) "steps_so_far"=some none)
  (iI:XF K (.ref iz) "boats"=some none)
  (ip:XF K (.ref iz) "given_so_far"=some none)
  (iq:XF K (.ref iz) "taken_so_far"=some none)
  (z1:Xy K Xp "all"=some none)
  (z2:Xy K Xp "bool"=some none)
  (z3:Xy K Xp "dict"=some none)
  (z4:Xy K Xp "int"=some none)
  (z5:Xy K Xp "isinstance"=some none)
  (z6:Xy K Xp "len"=some none)
  (z7:Xy K Xp "list"=some none)
  (z8:Xy K Xp "max"=some none)
  (z9:Xy K Xp "min"=some none)
  (z10:Xy K Xp "range"=some none)
  (z11:Xy K Xp "set"=some none)
  (z12:Xy K Xp "sorted"=some none)
  (z13:Xy K Xp "tuple"=some none)
  (g1:Xy K Xp "MOST_WIDTH"=some (some (.int 64 tk1)))
  (g2:Xy K Xp "MOST_LETTERS"=some (some (.int 8 tk2)))
  (g3:Xy K Xp "MOST_ISLANDS"=some (some (.int 5 tk3)))
  (g4:Xy K Xp "MOST_FERRIES"=some (some (.int 6 tk4)))
  (g5:Xy K Xp "MOST_VARS"=some (some (.int 6 tk5)))
  (g6:Xy K Xp "MOST_STEPS"=some (some (.int 12 tk6)))
  (g7:Xy K Xp "MOST_PARTS"=some (some (.int 30 tk7)))
  (g8:Xy K Xp "MOST_DEPTH"=some (some (.int 8 tk8)))
  (g9:Xy K Xp "MOST_K"=some (some (.int 3 tk9)))
  (g10:Xy K Xp "MOST_STAGES"=some (some (.int 3 tk10)))
  (g11:Xy K Xp "BITS_A_FERRY"=some (some (.int 8 tk11))):
  ∃fd:Xi,(∀(s:X2) (v:X0),BindsTo s fd ⟨[v],[]⟩ [("script",v)])/\∀base:Heap,K.In base->base.Ns Xp mg->FnOk l.prog w K mg base CX0 60 fa fd ["script"] (CM K):=by
 have e:=hfa.symm.trans (Yx X G h64.a);cases e;have T:Txt K mg ⟨f1,d1,f2,d2,f3,d3,f4,d4,f5,d5,f6,d6,f7,d7,f8,d8,f9,d9,f10,d10,f11,d11,f12,d12,f13,d13,f14,d14,f15,_,f16,_,f17,_,f18,_,f19,_,f20,_,f21,_,f22,_,f23,d23,f24,d24,f25,d25,f26,d26,f27,d27,f28,d28,f29,d29,f30,d30,f31,d31,f32,d32,f33,d33,f34,d34,f35,d35,f36,d36,f37,d37,f38,d38,f39,d39,f40,d40,f41,d41,f42,d42,f43,d43,f44,d44,f45,d45,f46,d46,f47,d47,f48,d48,f49,d49,f50,d50,f51,_,f52,_,f53,_,f54,_,f55,d55,f56,d56,f57,d57,f58,d58,f59,d59,f60,d60,f61,d61,f62,d62,f63,d63,fa,d64,iu,ij,iz⟩:={
  aV:=h1.t X G λ_ _ _ _ _ _=>us1 (λ_=>rfl)
  aL:=h2.t X G λ_ _ _ _ _ _=>us1 (λ_=>rfl)
  aC:=h3.t X G λ_ _ _ _ _ _=>us1 (λ_=>rfl)
  bO:=h4.t X G λ_ _ _ _ _ _=>us2 (λ_ _=>rfl)
  aE:=h5.t X G λ_ _ _ _ _ _=>us2 (λ_ _=>rfl)
  bo:=h6.t X G λ_ _ _ _ _ _=>us3 (λ_ _ _=>rfl)
  aW:=h7.t X G λ_ _ _ _ _ _=>us1 (λ_=>rfl)
  c8:=h8.t X G λ_ _ _ _ _ _=>us1 (λ_=>rfl)
  aT:=h9.t X G λ_ _ _ _ _ _=>us1 (λ_=>rfl)
  aU:=h10.t X G λ_ _ _ _ _ _=>us3 (λ_ _ _=>rfl)
  b7:=h11.t X G λ_ _ _ _ _ _=>us2 (λ_ _=>rfl)
  aS:=h12.t X G λ_ _ _ _ _ _=>us3 (λ_ _ _=>rfl)
  bZ:=h13.t X G λ_ _ _ _ _ _=>us2 (λ_ _=>rfl)
  bD:=h14.t X G λ_ _ _ _ _ _=>us1 (λ_=>rfl)
  cT:=fun_mk (st:=Ub) l15 c15 k15
  fH:=(fun_mk (st:=Ub) l15 c15 k15).binds (ps:=["self","turn","stages"]) fun _ _ _ _ _ _=>us3 (fun _ _ _=>rfl)
  ii:=⟨a15,i15,k15⟩
  cR:=fun_mk (st:=Uc) l16 c16 k16
  ce:=(fun_mk (st:=Uc) l16 c16 k16).binds (ps:=["self"]) fun _ _ _ _ _ _=>us1 (fun _=>rfl)
  bb:=⟨a16,i16,k16⟩
  dO:=fun_mk (st:=Ud) l17 c17 k17
  bn:=(fun_mk (st:=Ud) l17 c17 k17).binds (ps:=["self"]) fun _ _ _ _ _ _=>us1 (fun _=>rfl)
  bY:=⟨a17,i17,k17⟩
  fV:=fun_mk (st:=Ue) l18 c18 k18
  bE:=(fun_mk (st:=Ue) l18 c18 k18).binds (ps:=["self"]) fun _ _ _ _ _ _=>us1 (fun _=>rfl)
  bN:=⟨a18,i18,k18⟩
  gK:=fun_mk (st:=Uf) l19 c19 k19
  bq:=(fun_mk (st:=Uf) l19 c19 k19).binds (ps:=["self","moment","choice","other_sign"]) fun _ _ _ _ _ _=>us4 (fun _ _ _ _=>rfl)
  bz:=⟨a19,i19,k19⟩
  gO:=fun_mk (st:=Ug) l20 c20 k20
  fi:=(fun_mk (st:=Ug) l20 c20 k20).binds (ps:=["self","k","stages"]) fun _ _ _ _ _ _=>us3 (fun _ _ _=>rfl)
  ic:=⟨a20,i20,k20⟩
  gZ:=fun_mk (st:=Uh) l21 c21 k21
  ef:=(fun_mk (st:=Uh) l21 c21 k21).binds (ps:=["self","moment","choice","word"]) fun _ _ _ _ _ _=>us4 (fun _ _ _ _=>rfl)
  gL:=⟨a21,i21,k21⟩
  ff:=fun_mk (st:=Ui) l22 c22 k22
  ge:=(fun_mk (st:=Ui) l22 c22 k22).binds (ps:=["self","moment","choice","wished"]) fun _ _ _ _ _ _=>us4 (fun _ _ _ _=>rfl)
  gR:=⟨a22,i22,k22⟩
  aw:=h23.t X G λ_ _ _ _ _ _=>us1 (λ_=>rfl)
  aq:=h24.t X G λ_ _ _ _ _ _=>us1 (λ_=>rfl)
  ax:=h25.t X G λ_ _ _ _ _ _=>us1 (λ_=>rfl)
  aI:=h26.t X G λ_ _ _ _ _ _=>us1 (λ_=>rfl)
  aH:=h27.t X G λ_ _ _ _ _ _=>us4 (λ_ _ _ _=>rfl)
  ab:=h28.t X G λ_ _ _ _ _ _=>us3 (λ_ _ _=>rfl)
  bc:=h29.t X G λ_ _ _ _ _ _=>us4 (λ_ _ _ _=>rfl)
  aM:=h30.t X G λ_ _ _ _ _ _=>us4 (λ_ _ _ _=>rfl)
  aK:=h31.t X G λ_ _ _ _ _ _=>us4 (λ_ _ _ _=>rfl)
  b0:=h32.t X G λ_ _ _ _ _ _=>us5 (λ_ _ _ _ _=>rfl)
  bP:=h33.t X G λ_ _ _ _ _ _=>us1 (λ_=>rfl)
  aG:=h34.t X G λ_ _ _ _ _ _=>us2 (λ_ _=>rfl)
  ay:=h35.t X G λ_ _ _ _ _ _=>us2 (λ_ _=>rfl)
  aN:=h36.t X G λ_ _ _ _ _ _=>us1 (λ_=>rfl)
  bp:=h37.t X G λ_ _ _ _ _ _=>us2 (λ_ _=>rfl)
  br:=h38.t X G λ_ _ _ _ _ _=>us2 (λ_ _=>rfl)
  bm:=h39.t X G λ_ _ _ _ _ _=>us4 (λ_ _ _ _=>rfl)
  bK:=h40.t X G λ_ _ _ _ _ _=>us3 (λ_ _ _=>rfl)
  aO:=h41.t X G λ_ _ _ _ _ _=>us3 (λ_ _ _=>rfl)
  aF:=h42.t X G λ_ _ _ _ _ _=>us2 (λ_ _=>rfl)
  bw:=h43.t X G λ_ _ _ _ _ _=>us4 (λ_ _ _ _=>rfl)
  aJ:=h44.t X G λ_ _ _ _ _ _=>us2 (λ_ _=>rfl)
  aj:=h45.t X G λ_ _ _ _ _ _=>us1 (λ_=>rfl)
  b8:=h46.t X G λ_ _ _ _ _ _=>us3 (λ_ _ _=>rfl)
  cc:=h47.t X G λ_ _ _ _ _ _=>us2 (λ_ _=>rfl)
  bF:=h48.t X G λ_ _ _ _ _ _=>us2 (λ_ _=>rfl)
  bU:=h49.t X G λ_ _ _ _ _ _=>us1 (λ_=>rfl)
  bW:=h50.t X G λ_ _ _ _ _ _=>us2 (λ_ _=>rfl)
  fS:=fun_mk (st:=Uj) l51 c51 k51
  fA:=(fun_mk (st:=Uj) l51 c51 k51).binds (ps:=["self","world"]) fun _ _ _ _ _ _=>us2 (fun _ _=>rfl)
  ib:=⟨a51,i51,k51⟩
  eP:=fun_mk (st:=Uk) l52 c52 k52
  fW:=(fun_mk (st:=Uk) l52 c52 k52).binds (ps:=["self","name","choice"]) fun _ _ _ _ _ _=>us3 (fun _ _ _=>rfl)
  dq:=⟨a52,i52,k52⟩
  eX:=fun_mk (st:=Ul) l53 c53 k53
  fT:=(fun_mk (st:=Ul) l53 c53 k53).binds (ps:=["self","ferry","name","choice","asked"]) fun _ _ _ _ _ _=>us5 (fun _ _ _ _ _=>rfl)
  dG:=⟨a53,i53,k53⟩
  dk:=fun_mk (st:=Um) l54 c54 k54
  fq:=(fun_mk (st:=Um) l54 c54 k54).binds (ps:=["self","name","steps","word"]) fun _ _ _ _ _ _=>us4 (fun _ _ _ _=>rfl)
  cq:=⟨a54,i54,k54⟩
  bd:=h55.t X G λ_ _ _ _ _ _=>us2 (λ_ _=>rfl)
  aX:=h56.t X G λ_ _ _ _ _ _=>us2 (λ_ _=>rfl)
  bG:=h57.t X G λ_ _ _ _ _ _=>us2 (λ_ _=>rfl)
  c7:=h58.t X G λ_ _ _ _ _ _=>us5 (λ_ _ _ _ _=>rfl)
  be:=h59.t X G λ_ _ _ _ _ _=>us5 (λ_ _ _ _ _=>rfl)
  bL:=h60.t X G λ_ _ _ _ _ _=>us2 (λ_ _=>rfl)
  bH:=h61.t X G λ_ _ _ _ _ _=>us2 (λ_ _=>rfl)
  bJ:=h62.t X G λ_ _ _ _ _ _=>us2 (λ_ _=>rfl)
  c9:=h63.t X G λ_ _ _ _ _ _=>us4 (λ_ _ _ _=>rfl)
  hG:=h64.t X G λ_ _ _ _ _ _=>us1 (λ_=>rfl)
  ac:=iL
  cN:=Yx X G iL
  ag:=⟨iS,iT,iU,iV⟩
  eG:=⟨iW,a15,i15,iX⟩
  fh:=iF
  gA:=iC
  cS:=iG
  eY:=iD
  aA:=iJ
  fM:=Yx X G iJ
  aB:=⟨iM,iN,iO,iP⟩
  dt:=⟨iQ,a20,i20,iR⟩
  dI:=iy
  dJ:=iA
  cu:=iB
  ae:=iZ
  fw:=Yx X G iZ
  ak:=⟨j9,ja,jb,jc⟩
  dY:=⟨jd,a51,i51,je⟩
  gW:=iH
  cX:=iE
  cW:=ik
  cY:=iw
  dU:=il
  ia:=iI
  fB:=ip
  gg:=iq
  cK:=Z2 X G z1
  gE:=Z2 X G z2
  cU:=Z2 X G z3
  dZ:=Z2 X G z4
  dE:=Z2 X G z5
  cx:=Z2 X G z6
  cE:=Z2 X G z7
  e9:=Z2 X G z8
  gP:=Z2 X G z9
  cZ:=Z2 X G z10
  ft:=Z2 X G z11
  cj:=Z2 X G z12
  eZ:=Z2 X G z13
  gM:=⟨_,Yx X G g1⟩
  fD:=⟨_,Yx X G g2⟩
  gz:=⟨_,Yx X G g3⟩
  fP:=⟨_,Yx X G g4⟩
  cr:=⟨_,Yx X G g5⟩
  gN:=⟨_,Yx X G g6⟩
  eU:=⟨_,Yx X G g7⟩
  gI:=⟨_,Yx X G g8⟩
  fc:=⟨_,Yx X G g9⟩
  fQ:=⟨_,Yx X G g10⟩
  fu:=⟨_,Yx X G g11⟩
 }
 exact⟨d64,h64.bt λ_ _ _ _ _ _ _=>rfl,λbase _ _=>_nn (FnOk.mono (_px T) (by decide))⟩
theorem walk{l:DJ}{q:Xv}{loose:List Str}{XP:(Str->Option X0)->Heap->Prop}{YP:Xn->Heap->Prop}{d:DefRec}{K:Params->X4}(hn:l.most=some 63)(hdf:d.params.defaults=[])
  (hY:∀(w:Xn) (h:Heap),YP w h->(K w.params).In h)
  (F:∀(w:Xn) (mg:Str->Option X0) (fa:Addr) (h:Heap),(K w.params).In h->h.Ns Xp mg->mg d.name=some (.ref fa)->
   ∃fd:Xi,(∀(s:X2) (u:X0),BindsTo s fd ⟨[u],[]⟩ [("script",u)])/\∀base:Heap,(K w.params).In base->base.Ns Xp mg->FnOk l.prog w (K w.params) mg base CX0 60 fa fd ["script"] (CM (K w.params))):
  PySem.W.WalkO q loose XP YP l.row.toRowW d [] (λf vs=>PySem.call f vs):=
 L2.walk_of (n:=63) (k:=60) (x:="script") (CX:=fun _=>CX0) (sp:=fun w=>CM (K w.params)) hn (by decide) hdf ⟨rfl,by decide,by decide⟩ hY F (fun _ H a ns hl hO hS=>⟨a,ns,rfl,_pX hO hS,hl,fun _=>rfl⟩) fun _ _ _ _ _ z=>z
end My
structure PySem.W.Fast:Prop where
 (tw9614240634712589437 tw14182289237739269524 tw9908052953012323464 tw7964588104656799520 tw7284639652397916896 tw12223935986718802457 tw6703642258229089636 tw13120543626663894872 tw10526129789424933162 tw4898244040463895296 tw4821744942255325648 tw11447132257940565250 tw16301396505015222024 tw12488776159903317868 tw6227306253531605141 tw4034453823483383054 tw14314492248191245280 tw5084991904815249383 tw10772669502833201118 tw2795674931338233963 tw14260142575272772151 tw10840385393896620569 tw8190921905078501618 tw6271516542796861565 tw12712577749120303653 tw2635960173384952528 tw9578506512312447797 tw13012847390447939561 tw12782544309110014269 tw18071231496346712695 tw1497740675740754163 tw6341317810246026393 tw4102737289579146404 tw5757833999655162155 tw14619813822773830275 tw15164501051993982926 tw12912209480215592234 tw8055086091642047112 tw894903392554163815 tw6165598984413511693 tw14246902978886397111 tw2832452548090860245 tw2294878849255277205 tw13269794122668257686 tw18294549232917123069 tw11618159014968332176 tw5799616566740912707 tw5737165888914647527 tw10388878128658104845 tw5423421476185618685 tw2271673191898750310 tw3416777306713862584 tw5479002896285230447 tw17025229876076052256 tw1755140437116492801 tw10451306866434356791 tw9364893086011561889 tw10923648596724210617 tw13295000189851660473 tw9729345567262594406 tw7789718330567657445 tw15104048536950482906 tw5945929228677914559 tw17804072961042895432 tw3106480516821712590 tw8130054821162492265 tw12023635740003577450 tw4663862349040423765 tw8612880477056214230 tw2693115032585477014 tw17296655219292461435 tw13618078862013080571 tw16713367026958194225 tw11994744651893921148 tw3647461414291217958 tw9919472654739805864 tw2670718656651013578 tw10880683191065739642 tw16473845023052955519 tw4336889402720922182 tw2716813964649108212 tw12319513288189623416 tw15515463863939606259 tw11472685309556791848 tw11070177975547339734 tw14502810975794134982 tw3781118817660324647 tw7757897000245541084 tw5668633692679487400 tw3025047748130862463 tw2269541348673804123 tw3178316568328072816 tw14022237049416569493 tw12590397638257720026 tw929556850316901967 tw620846746766323212 tw1639051068812947665 tw15234470483707027243 tw2162908214910280171 tw15046980185033288349 tw13440351753245127968 tw1164996037280225910 tw14932135428537665490 tw11381490786540784009 tw10060790873445701220 tw3191771167240278165 tw12501334906264568085 tw11515282766414142311 tw18419265346762305586 tw14471416136459885318 tw17039152443044661673 tw8398856556689616512 tw901656308966007349 tw1936692490347299513 tw9969176675910523001 tw1455633916967115719 tw16389118163420214574 tw16713820367150710825 tw16508730027599657664 tw3980017495681533308 tw16999071329372624801 tw14515894333960684560 tw6165197204071419284 tw3890325480568199044 tw43804971900314464 tw15354273426456579291 tw2972318350949477723 tw17580861239752022697 tw15539839945633536417 tw10037640085277376100 tw15735185130174361756 tw6248374562117264942 tw10194042336155711119 tw3176263564909113811 tw176335870343656135 tw5324561520581150730 tw15873295787116325715 tw2698319704907704361 tw11485301012871147693 tw9942981400646654297 tw12673295371376618208 tw9425867064583691403 tw10310640202024051764 tw2516817539649818759 tw8383564482506588940 tw320808139240507216 tw7728596943329179546 tw5263258835024031901 tw6700028179165357246 tw16702170112483765829 tw17214325099192717121 tw4843712517476688127 tw14010755393825510598 tw14449339464220999832 tw8611158302656945915 tw3660289384266999065 tw13091487635531425790 tw12773539379736424194 tw10524545081493214402 tw13431423871251692182 tw9221849247888156582 tw14812023491618872520 tw9770038641154730382 tw7330184370032022386 tw12364068361780441360 tw4494329033197518077 tw6204664963664049603 tw834086879260824407 tw7527799325410257374 tw10921420423169646916 tw11631541641048640533 tw17263142235070339151 tw4902775226650274935 tw7374853073996081613 tw7668275622760545057 tw5321743253182071477 tw13382558889578541290 tw10238912405626260566 tw2837454523060293439 tw656351338060952021 tw12147530700897462136 tw12674376481197132040 tw9058101020495004279 tw8202591762264901477 tw13650340058401319541 tw11683339230959622954 tw5802886323694997008 tw11974496529518174329 tw17067105060419815528 tw5858929001232393844 tw9796412196771683775 tw771945650653991950 tw4886822249161611876 tw12437907297868799513 tw8151803451747049170 tw2491561342855387017 tw8372829331912142937 tw14474400783882166217 tw11189782578454013736 tw8632186997446793509 tw6062871085474185161 tw1016331415747968399 tw1305229998458712231 tw17735701819792410714 tw5214438887695271268 tw9208707758495058021 tw6871750290522398323 tw2937564775095379930 tw2923808025890202200 tw9870259166265429905 tw2521458846269787797 tw8697507755868732897 tw5267857335946126652 tw15976543701204277479 tw6368814230170503583 tw15046239048232019299 tw16645027671315056658 tw15439180108339796605 tw17684736998877088023 tw2439271622833159595 tw17196761272500155840 tw15592057959816092666 tw10505303024198837048 tw9302144872017784338 tw17575602710677032956 tw6639271966244646903 tw11395804471725903081 tw3542597542008921632 tw6845999130520644193 tw15746862530737686848 tw7827068070275282214 tw3056739682384877047 tw12839601255774687448 tw16056103680195220355 tw3128440852243327112 tw18340219657351400119 tw9531565629455685442 tw4579345920562833722 tw899126675092848458 tw10754250494020691610 tw14866553904281879584 tw10686884963586024390 tw2613267598156776352 tw14376972016437590911 tw6215939832890956667 tw10431816261947340302 tw8248749610439155436 tw9719915649163015408 tw4716260099073509974 tw8402237471106977957 tw12602003996604381610 tw3807792048792037553 tw7998456955079021593 tw1896176200885839391 tw4991145444349469922 tw2507915217048880634 tw8946700692332156632 tw9862855576470631987 tw6433234691778043171 tw7952615412684478033 tw97057548188770318 tw13940152333987370796 tw5521357460697550480 tw9852876105674630597 tw8640976525121236301 tw16247326799081008286 tw1582134704462955528 tw7528947453581122013 tw15884570604004181482 tw15448641626842276199 tw18117061738890433128 tw12924564027436923534 tw10676117376730287507 tw16731594973038626454 tw6554072475078885205 tw5372803053775974335 tw15418689008543126236 tw3488980525405078515 tw11761807893280049442 tw3317771501694505950 tw8489842545442241145 tw5588007105563330483 tw15660150759830152848 tw10739171498054142210 tw15260552091089127583 tw11503758765360580803 tw16467742585305224290 tw1833575932028869395 tw3195701477751501055 tw7764204393360787655 tw15982412224229045010 tw14008612707860219234 tw4256648350377453747 tw2893122003479295574 tw13692712534631412803 tw4964171390461497316 tw15332646155147649306 tw8741110447732692644 tw10261714427013420528 tw4148900995583536405 tw5767382082709716273 tw6942690905262143174 tw12776480897771371045 tw2409387534157247252 tw16351946072212686410 tw15245893722352815177 tw4188037751850107174 tw8136588303876088180 tw9956142894302343647 tw3366406021639357063 tw15670120242142106897 tw694067446694402568 tw4016077839530329666 tw664932969334951591 tw15439515035325598528 tw10517787237404523912 tw5810267383156409743 tw4431261672851764866 tw3379018830496493532 tw7768847955630935403 tw15984578918338694281 tw7085078943603752224 tw12897364738059098595 tw7000818736092690926 tw11984774752509516110 tw16596815017805412715 tw18351378432358330187 tw1063663268041155618 tw9966835069137155878 tw7107626365523330081 tw6702086353266664651 tw12707376291053869397 tw3067367010824313542 tw3307674375085911985 tw15776846859531593231 tw9094316228328599377 tw9489574399300595070 tw6479459757704637904 tw4648496326280397660 tw1764054250873545212 tw6223335594669539689 tw13911914215643890382 tw4665508278359126165 tw605644714290640406 tw10242637438979689796 tw2939934962147144305 tw8138770708957455604 tw8243688513060626872 tw3975698785563545197 tw1684577303016574212 tw10820782314924380353 tw16354760713468333540 tw14127914645836413528 tw16497698695265109291 tw3897237212086758538 tw17984623533307430256 tw16473335557987353897 tw6129987230499942476 tw3064726772278733274 tw12501497610528815044 tw15091920355429177037 tw16654694015268874647 tw6398385628398698761 tw12366792950276123652 tw16555578735367755902 tw7987576231165148256 tw14873585168766469254 tw6089421328532830403 tw1010200850174867681 tw8943134948491760794 tw15168723074584916188 tw14865609983292520540 tw8821804535988069648 tw12967247444821414832 tw16183485601445192744 tw4785764840877126324 tw4724161627238569720 tw7541459832982921103 tw9897502605931801009 tw857025295399937452 tw7145300909034802511 tw17520960335915907926 tw10550814442844037610 tw7522264328052207064 tw13675423476842277727 tw409836317239186990 tw10026730343320488788 tw6315559490038154244 tw5338032386173036781 tw2015162013277391273 tw12283277013712830895 tw6394800512793605505 tw3839663156826500478 tw1891890730153395167 tw14377489870813606163 tw17716499145215879845 tw9021694189439077396 tw13797268711714196882 tw17474831797152999116 tw5294556741357117510 tw9066051056162488884 tw17133243569547813980 tw9991076042603381428 tw16998709071041110036 tw809822154477426923 tw14502762292583292100:True)
open PySem PySem.W PyProof.Rows
local macro_rules | `(tactic| walk_at "q_fn") => `(tactic| (refine' ⟨?a, L2.fun_mk ?l ?c ?k⟩; (case a => k_is); (case l => k_is); (case c => k_is); (case k => k_is)))
set_option maxRecDepth 100000 in
set_option maxHeartbeats 0 in
theorem PySem.Challenge.cw_bellferry_k52_samples_holds : PySem.Challenge.rw_bellferry_k52_samples.Holds := by
 w_on;o_law;k_head;(case hw=>w_witness2)
 k_fill
 refine My.walk (l:=PySem.Challenge.rw_bellferry_k52_samples) rfl rfl (λw h Y=>PySem.W.kIn_of Y) ?F
 case F=>
  intro w mg fa h KX G hmg;refine' My.all_mk KX G hmg ?iZ ?iJ ?iL ?h1 ?h2 ?h3 ?h4 ?h5 ?h6 ?h7 ?h8 ?h9 ?h10 ?h11 ?h12 ?h13 ?h14 ?a15 ?i15 ?l15 ?c15 ?k15 ?a16 ?i16 ?l16 ?c16 ?k16 ?a17 ?i17 ?l17 ?c17 ?k17 ?a18 ?i18 ?l18 ?c18 ?k18 ?a19 ?i19 ?l19 ?c19 ?k19 ?a20 ?i20 ?l20 ?c20 ?k20 ?a21 ?i21 ?l21 ?c21 ?k21 ?a22 ?i22 ?l22 ?c22 ?k22 ?h23 ?h24 ?h25 ?h26 ?h27 ?h28 ?h29 ?h30 ?h31 ?h32 ?h33 ?h34 ?h35 ?h36 ?h37 ?h38 ?h39 ?h40 ?h41 ?h42 ?h43 ?h44 ?h45 ?h46 ?h47 ?h48 ?h49 ?h50 ?a51 ?i51 ?l51 ?c51 ?k51 ?a52 ?i52 ?l52 ?c52 ?k52 ?a53 ?i53 ?l53 ?c53 ?k53 ?a54 ?i54 ?l54 ?c54 ?k54 ?h55 ?h56 ?h57 ?h58 ?h59 ?h60 ?h61 ?h62 ?h63 ?h64 ?iS ?iT ?iU ?iV ?iW ?iX ?iF ?iC ?iG ?iD ?iM ?iN ?iO ?iP ?iQ ?iR ?iy ?iA ?iB ?j9 ?ja ?jb ?jc ?jd ?je ?iH ?iE ?ik ?iw ?il ?iI ?ip ?iq ?z1 ?z2 ?z3 ?z4 ?z5 ?z6 ?z7 ?z8 ?z9 ?z10 ?z11 ?z12 ?z13 ?g1 ?g2 ?g3 ?g4 ?g5 ?g6 ?g7 ?g8 ?g9 ?g10 ?g11
  (case iZ=>k_is)
  (case iJ=>k_is)
  (case iL=>k_is)
  (case h1=>walk_at "q_fn")
  (case h2=>walk_at "q_fn")
  (case h3=>walk_at "q_fn")
  (case h4=>walk_at "q_fn")
  (case h5=>walk_at "q_fn")
  (case h6=>walk_at "q_fn")
  (case h7=>walk_at "q_fn")
  (case h8=>walk_at "q_fn")
  (case h9=>walk_at "q_fn")
  (case h10=>walk_at "q_fn")
  (case h11=>walk_at "q_fn")
  (case h12=>walk_at "q_fn")
  (case h13=>walk_at "q_fn")
  (case h14=>walk_at "q_fn")
  (case a15=>k_is)
  (case i15=>k_is)
  (case l15=>k_is)
  (case c15=>k_is)
  (case k15=>k_is)
  (case a16=>k_is)
  (case i16=>k_is)
  (case l16=>k_is)
  (case c16=>k_is)
  (case k16=>k_is)
  (case a17=>k_is)
  (case i17=>k_is)
  (case l17=>k_is)
  (case c17=>k_is)
  (case k17=>k_is)
  (case a18=>k_is)
  (case i18=>k_is)
  (case l18=>k_is)
  (case c18=>k_is)
  (case k18=>k_is)
  (case a19=>k_is)
  (case i19=>k_is)
  (case l19=>k_is)
  (case c19=>k_is)
  (case k19=>k_is)
  (case a20=>k_is)
  (case i20=>k_is)
  (case l20=>k_is)
  (case c20=>k_is)
  (case k20=>k_is)
  (case a21=>k_is)
  (case i21=>k_is)
  (case l21=>k_is)
  (case c21=>k_is)
  (case k21=>k_is)
  (case a22=>k_is)
  (case i22=>k_is)
  (case l22=>k_is)
  (case c22=>k_is)
  (case k22=>k_is)
  (case h23=>walk_at "q_fn")
  (case h24=>walk_at "q_fn")
  (case h25=>walk_at "q_fn")
  (case h26=>walk_at "q_fn")
  (case h27=>walk_at "q_fn")
  (case h28=>walk_at "q_fn")
  (case h29=>walk_at "q_fn")
  (case h30=>walk_at "q_fn")
  (case h31=>walk_at "q_fn")
  (case h32=>walk_at "q_fn")
  (case h33=>walk_at "q_fn")
  (case h34=>walk_at "q_fn")
  (case h35=>walk_at "q_fn")
  (case h36=>walk_at "q_fn")
  (case h37=>walk_at "q_fn")
  (case h38=>walk_at "q_fn")
  (case h39=>walk_at "q_fn")
  (case h40=>walk_at "q_fn")
  (case h41=>walk_at "q_fn")
  (case h42=>walk_at "q_fn")
  (case h43=>walk_at "q_fn")
  (case h44=>walk_at "q_fn")
  (case h45=>walk_at "q_fn")
  (case h46=>walk_at "q_fn")
  (case h47=>walk_at "q_fn")
  (case h48=>walk_at "q_fn")
  (case h49=>walk_at "q_fn")
  (case h50=>walk_at "q_fn")
  (case a51=>k_is)
  (case i51=>k_is)
  (case l51=>k_is)
  (case c51=>k_is)
  (case k51=>k_is)
  (case a52=>k_is)
  (case i52=>k_is)
  (case l52=>k_is)
  (case c52=>k_is)
  (case k52=>k_is)
  (case a53=>k_is)
  (case i53=>k_is)
  (case l53=>k_is)
  (case c53=>k_is)
  (case k53=>k_is)
  (case a54=>k_is)
  (case i54=>k_is)
  (case l54=>k_is)
  (case c54=>k_is)
  (case k54=>k_is)
  (case h55=>walk_at "q_fn")
  (case h56=>walk_at "q_fn")
  (case h57=>walk_at "q_fn")
  (case h58=>walk_at "q_fn")
  (case h59=>walk_at "q_fn")
  (case h60=>walk_at "q_fn")
  (case h61=>walk_at "q_fn")
  (case h62=>walk_at "q_fn")
  (case h63=>walk_at "q_fn")
  (case h64=>walk_at "q_fn")
  (case iS=>k_is)
  (case iT=>k_is)
  (case iU=>k_is)
  (case iV=>k_is)
  (case iW=>k_is)
  (case iX=>k_is)
  (case iF=>k_is)
  (case iC=>k_is)
  (case iG=>k_is)
  (case iD=>k_is)
  (case iM=>k_is)
  (case iN=>k_is)
  (case iO=>k_is)
  (case iP=>k_is)
  (case iQ=>k_is)
  (case iR=>k_is)
  (case iy=>k_is)
  (case iA=>k_is)
  (case iB=>k_is)
  (case j9=>k_is)
  (case ja=>k_is)
  (case jb=>k_is)
  (case jc=>k_is)
  (case jd=>k_is)
  (case je=>k_is)
  (case iH=>k_is)
  (case iE=>k_is)
  (case ik=>k_is)
  (case iw=>k_is)
  (case il=>k_is)
  (case iI=>k_is)
  (case ip=>k_is)
  (case iq=>k_is)
  (case z1=>k_is)
  (case z2=>k_is)
  (case z3=>k_is)
  (case z4=>k_is)
  (case z5=>k_is)
  (case z6=>k_is)
  (case z7=>k_is)
  (case z8=>k_is)
  (case z9=>k_is)
  (case z10=>k_is)
  (case z11=>k_is)
  (case z12=>k_is)
  (case z13=>k_is)
  (case g1=>k_is)
  (case g2=>k_is)
  (case g3=>k_is)
  (case g4=>k_is)
  (case g5=>k_is)
  (case g6=>k_is)
  (case g7=>k_is)
  (case g8=>k_is)
  (case g9=>k_is)
  (case g10=>k_is)
  (case g11=>k_is)
#print axioms PySem.Challenge.cw_bellferry_k52_samples_holds
