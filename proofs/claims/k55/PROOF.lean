import PyProof.Rows.All
import Wide.All
import OpenK.AllK
import Wide.FinOn
import Lean
import PyProof.EqAt
import PyProof.EqKinds
import PyProof.TupleCall
import PySem.Challenge.RW_bellferry_k55_names_that_nothing_has
import PyProof.Rows.SetFrom
import PyProof.FactsAll.set_1
import PyProof.CollectWalk
import PyProof.Rows.SortStr
import PyProof.IsiH_list
import PyProof.AttrMissHeap
import PyProof.ConsumeWalk
import PyProof.StrWalks
import PyProof.IsiH_tuple
import PyProof.SliceStr2
import PyProof.ListRange
import PyProof.Rows.Range3
import PyProof.Rows.CallKwBuiltin
import PyProof.WalkInts
import PyProof.NeKinds
import PyProof.FString5
import PyProof.ExcClass2
import PyProof.ExcBaseAll.ValueError
import PyProof.StrLawsRepr
import OpenK.KNot
import PyProof.ExcArgsOwn
import PyProof.ExcAttrAll.ValueError
import PyProof.NsDelKeeps
import PyProof.Rows.CatchOwn
set_option Elab.async false
set_option tactic.hygienic false
set_option linter.all false
set_option maxRecDepth 100000
set_option maxHeartbeats 8000000
set_option genSizeOf false
set_option genSizeOfSpec false
set_option bootstrap.genMatcherCode false
set_option compiler.extract_closed false
noncomputable section
open Option renaming some->wc,none->we
open Bool renaming true->wf,false->wg
open Lean in
def wj(k:Name):Array Syntax->Syntax:=.node .none k
open Lean in
def wm(f:Syntax->Syntax)(s:Syntax):=s.rewriteBottomUp f
open Lean in
def wo(x:Syntax):=let L k a:=wj `Lean.Parser.Tactic.rcasesPatLo #[wj `Lean.Parser.Tactic.rcasesPatMed #[mkNullNode #[wj k a]],mkNullNode];if x.isIdent then L `Lean.Parser.Tactic.rcasesPat.one #[x]else if x.isOfKind `Lean.Parser.Term.anonymousCtor then L `Lean.Parser.Tactic.rcasesPat.tuple x.getArgs else if x.isOfKind `Lean.Parser.Term.hole then L `Lean.Parser.Tactic.rcasesPat.ignore #[x]else x
open Lean in
def wp(a b:Syntax):=wj `Lean.Parser.Term.app #[wj `Lean.Parser.Term.dotIdent #[a,mkIdent `cons],mkNullNode #[a,b]]
open Lean in
local macro_rules(kind:=Lean.Parser.Tactic.tacticErw___)|s=>return wj `Lean.Parser.Tactic.refine #[s,s[2][1][0][1]]
open Lean in
local macro_rules(kind:=Lean.Parser.Tactic.tacticHave__)|s=>let d:=s[2][0];if d[0].isOfKind `Lean.Parser.Term.anonymousCtor then return wj `Lean.Parser.Tactic.obtain #[s,mkNullNode #[(wm wo d[0])[0]],mkNullNode,mkNullNode #[s,mkNullNode #[d[4]]]]else Macro.throwUnsupported
open Lean in
local macro_rules(kind:=Vector.«term#v[_,]»)|s=>return s[1].getSepArgs.foldr wp (wj `Lean.Parser.Term.dotIdent #[s,mkIdent `nil])
open Lean in
local macro_rules(kind:=«term_^_»)|s=>if s[0].isOfKind `Lean.Parser.Term.paren then return wp s[0][1] s[2]else Macro.throwUnsupported
open Lean in
local macro_rules(kind:=char)|s=>let n:=(s.isCharLit?.getD 'a').toNat;return wj `Lean.Parser.Term.app #[wj `Lean.Parser.Term.dotIdent #[s,mkIdent (if n<97 then `int else `var)],mkNullNode #[Syntax.mkNatLit (if n<97 then n-65 else n-97)]]
open Lean in
def wh(s:Syntax):List Char->Nat->List Syntax|[],_=>[]|c::l,n=>let m:=n*85+(match c.toNat with|126=>29|120=>10|121=>12|k=>k-35);if m<85^10 then wh s l m else s.setArg 1 ((s[1].setArg 1 (s[1][1].setArg 0 (mkIdent (.str `PySem.W.Fast ("tw"++(m-85^10).repr))))).setArg 3 (s[1][3].setArg 1 (mkIdent `trivial)))::wh s l 1
open Lean in
local macro_rules(kind:=Lean.Parser.Command.declaration)|s=>match(if s[1][0].getAtomVal=="theorem"then s[1][3][1].isStrLit? else none)with|some t=>return mkNullNode (wh s t.toList 1).toArray|_=>match s.getHeadInfo with|.none=>Macro.throwUnsupported|_=>if s[1][1][0].getId.getRoot==`PySem then Macro.throwUnsupported else return wm (·.setInfo .none) s
open PySem renaming World->Xe,Program->Xk,sysModules->YN,mainGlobals->Xi,bootBuiltins->Ym,Around->Xp,Shared->X0,wpAny->X3,model->X4,backTo->XV,starEach->Xm,wpAny_mono->Yd,holding->Z8,wpAny_truthy_bool->Zx,wpAny_execs_nil->Ap,wpAny_execs_cons->Aq,swapsWith->Zy,assignEach->Zz,wpAny_bind->X2,wpAny_holding->YI,wpAny_passesOwn->UJ,letOwnedTupleGo->Ar,wpAny_pure->X8,rawInt->Y3,foldedSetIterable->As,Operator->Uh,binaryOp->Yh,compareOp->Y1,codeAny->YJ,attributeBase->Ui,FuncData->YV,wpAny_call->Vh,codeAny_mono->UK,wpAny_Call_Name_kw->ZR,backToKw->Zl,keywordEach->Zm,Keyword->YW,NameKind->Z9,wpAny_callSpecial?_slot->At,wpAny_call_entry->Zn,wpAny_typeOf->UL,wpAny_newObj_type->ZS,sliceBounds->YX,call_meets->Uj,valueAt->YY,tupleKind_room_in1->Au,wpAny_richCompare_same_room->Vi,wpAny_loadPart'->Ye,plainId_quiet->ZA,codeAny_builtin->YZ,codeAny_call_builtin->We,wpAny_dictEntries->Av,wpAny_isInstance->Vj,SetTable->Yq,wpAny_setState_of->Wf,wpAny_rule->Vk,wpAny_askSetting->Wg,wpAny_pyIter_list->Aw,wpAny_setField->Vl,methodCallForm->Wh,excClassObj->UM,wpAny_loadPart_at->ZT,wpAny_isSubtype_exc->Wi
open List renaming getElem?_eq_getElem->Xb,length_map->X7,getElem?_map->Xl,getElem?_eq_some_iff->XF,replicate->Xg,mem_of_getElem?->Xv,mem_cons->Xh,mem_cons_of_mem->XD,size_toArray->XJ,not_mem_nil->XM,mem_cons_self->XZ,map_cons->Xy,getElem_mem->XW,range->Xr,map_append->XX,getD_eq_getElem?_getD->YK,mem_singleton->Y9,length_append->Yf,mem_append_right->YA,mem_map->XR,getElem_of_mem->YB,mem_append->Ya,nodup_cons->Yi,nil_append->Yj,length_cons->Yr,length_take->Ys,length_replicate->Za,getElem?_eq_none->Zb,getD_cons_succ->Z0,getD_cons_zero->Z1,cons_append->YC,getElem?_append_right->ZU,getElem?_append_left->ZV,map_map->Y5,nodup_append->YO,replicate_succ->Zc,getElem?_set->Zd,flatten_cons->Zo,eq_of_mem_replicate->UN,append_nil->Ze,map_nil->YD,lookup_cons->Zp,getElem?_set_ne->Uk,take_of_length_le->UO,mem_range->Zf,length_range->ZW,take_add_one->ZX,all_eq_true->Ul,eq_nil_of_length_eq_zero->Ax,mem_flatMap->Um,any_cons->ZB,append_assoc->UP,length_set->Uo,contains_cons->Vm,length_dropLast->Wj,filterMap_cons->Wk,length_eq_zero_iff->Ay,getElem?_range->Wl,filter_cons->Vn,mem_flatten->Vo,map_replicate->Wm,lookup->ZY,foldl_cons->Vp,find?_cons->Vq,all_cons->UQ,forall_mem_cons->Az,mem_append_left->AA,dropLast_subset->AB,mem_or_eq_of_mem_set->CF,length_drop->Wn,length_pos_iff->AC,filter_append->AD,getElem?_set_self->CG,ext_getElem?->AE,length_singleton->CH,getElem?_toArray->CI,length_filter_le->CJ,getElem_inj->AF,ext_getElem->AG,take_append_of_le_length->Fi,getElem?_of_mem->CK,length_zip->AH,range_succ->AI,length_eraseIdx_of_lt->Fj,mem_filterMap->CL,pairwise_cons->CM,map_set->Wo,getElem?_eq_none_iff->Fk,nodup_nil->AJ,foldl->Vr,length->Wp,getElem?_replicate->Fl,take_length->CN,getElem_map->CO,getElem_set->CP,drop_eq_nil_of_le->Fm,mem_filter->CQ,of_mem_zip->CS,map_id'->AK,drop_zero->CT,getD->Wq
open PySem.W renaming Frag->X1,nsIn->Xn,findIn->Y0,keepIn->Yt,kia_one->Zq,kia_tup->Zr,emptyDict->ZZ,instObj->Up,fnOf->ZC,kitOne->UR,hideAll->Wr,callWith_K->AL,kitx_list->AM,kitx_dict->AN,plainGet->AO,plainGet_of->CU,isIn->Ws,lookIn->AQ,codeIn->AR,kitAny->AS,methodObj->CV,hasDictIn->CW,cellsFrom_some->Fo,isFn->AT,takerIn->CY,makesIn->CZ,methodCall_KW->Fp,OpenLaw->D0,hideAll_get->Fq,mg_of->D3
open PySem.Heap renaming get?_push_of_some->Xw,get?_push_size->XS,lt_size->Xu,size_push->U0,SameBut->ZD,get?_update_self->Wt,get?_update_other->AU,FlyingW->Vs,MadeExcOf->D4,ExtBut->AV
open Nat renaming le_refl->Xc,le_trans->XA,ne_of_lt->XE,lt_of_lt_of_le->Yu,two_pow_pos->Zs,zero_le->YQ,lt_succ_of_lt->US,le_add_right->UT,lt_irrefl->U1,le_of_eq->Uq,pow_le_pow_right->AW,lt_succ_self->Wu,le_succ->Ur,le_of_lt->UU,add_comm->UV,mod_lt->U2,lt_succ_iff_lt_or_eq->D5,le_of_not_lt->AX,succ_le_succ->AY,not_lt_zero->AZ,le_of_lt_succ->D6,ne_of_gt->B0,lt_trans->B5
open Bool renaming and_eq_true->Xs,false_ne_true->Xx,false_eq_true->Yv,not_eq_true'->Vt,not_true->Vu,false_and->Wv,or_true->Vv,true_and->Ww,eq_iff_iff->B7,or_eq_true->B8,and_false->Ba,false_or->Bb,or_self->Bc,not_false->D7
open Array renaming length_toList->Yb,getElem?_eq_getElem->UW,getElem?_eq_none->D8,getElem?_toList->Ft
open PySem.Value renaming ref->Xt,str->YR,type->Zg,builtin->Vw,none->Us,bool->Ut,int->Vx,float->Bd
open Option.some renaming inj->Y6,injEq->Be
open False renaming elim->XN
open Sum renaming inr->Xo,inl->UX
open PySem.NameKind renaming free->Yk,cell->Vy
open PySem.Around renaming under_plainId->Zt,under->D9
open Int renaming toNat_natCast->Z2,emod_lt_of_pos->ZE,natCast_nonneg->U3,emod_nonneg->Zu,toNat_of_nonneg->UY,lt_of_lt_of_le->Vz,le_refl->ZF,natCast_emod->Wx,natCast_pow->Wy,zero_add->Wz,ofNat_le->WB,natCast_ediv->Da,sub_emod->Bf
open PyProof.Rows renaming slot_tuple_getitem->VA,callWith_type1->WC,callWith_builtin1->Fu,bitAnd_pp->Fv
open PySem.Heap.SameBut renaming update->U4
open Option renaming map_eq_some_iff->UZ,map_some->Bg,isSome_map->Db
open Ne renaming symm->XT
open True renaming intro->YE
open PySem.Builtin.Tuple renaming tupleCompareSizes->Bh,tupleExact->Bi,tupleItemsOf->Fw,tupleTooMany->Fx,tupleIsExact->Fy
open PySem.AutoSeq1 renaming wpAny_loadPart'->Bj,sub_tuple_tuple->Fz,sub_list_list->FA,idx_int->FB
open PySem renaming mem_of_lookup->VB,Within->Dc
open PySem.Builtin.Str renaming strSliceIndices->Bk
open PySem.Builtin.Slice renaming slicePlaces->Bl,sliceAdjust->Dd,sliceApplied->FC
open PySem.Builtin.Dict renaming dictSlotArgs->Bm,updateFrom->FD,samePairs->FE
open PySem.Builtin.List renaming listTooLong->Bn,listExtendWith->FF,listSameRef->FG
open PySem.SetTable renaming grown->V0,below->Bo
open PySem.F renaming slot_tuple_mul->Bp,called_set->Uu,typeOf_object_class->De,args_tuple_add_2->FH,args_tuple_mul_2->FJ,entry_tuple_add->FK,slot_tuple_rmul->FN,entry_tuple_mul->FP,slot_tuple_add->FQ,sub_dict_dict->FR,slot_int_rmul->FS,slot_dict_eq->FT,slot_dict_ne->FU,slot_list_eq->Df,slot_list_ne->Dg
open Iff renaming rfl->Yl
open PySem.Calls renaming spliced_cons->WD,spliced_nil->WE,Name_function_global->FV,callWith_builtin->FW
open PySem.Obj renaming mapSeq->U5
open Sum.inr renaming inj->V1
open PySem.Str renaming ofString->VC,empty->V2,length->Bq
open ForInStep renaming yield->Br
open PySem.ScopeKind renaming function->Dh
open Nat.succ renaming inj->WF
open PySem.Builtin renaming bitAnd->Bs,bitXor->Bt
open PySem.Builtin.Frozenset renaming sizeOf->FX
open PySem.Shared renaming TypeIs->Bu
open List.Pairwise renaming sublist->FY
open PySem.SeqAt.EqAt renaming int_str->FZ,str_int->G0
open PySem.SetTable.below renaming go->G1
open Char renaming toNat->Bv
namespace L2
open PySem PySem.Spec PyProof.Rows
def nl0 {j:Type _}{p:j->Prop}:∀x∈([]:List j),p x:=λ_ h=>nomatch h
def fMc{j:Type _}{p:j->Prop}{a:j}{l:List j}(h:p a)(k:∀x∈l,p x):∀x∈a::l,p x:=Az.2 ⟨h,k⟩
noncomputable abbrev Key:=Sum Int Str
def VD:Key->Value->Bool
 |.inl k,v=>Value.isInt k v
 |.inr x,v=>Value.isStrOf x v
def keyH(w:Xe):Key->Int
 |.inl k=>hashInt k
 |.inr x=>hashStr w x
def U6:∀{k:Key} {v:Value},VD k v=wf->(∃i t,k=UX i/\v=Vx i t)\/(∃x t,k=Xo x/\v=YR x t)
 |.inl i,v,h=>by
  have⟨t,e⟩:=Value.isInt_shape (k:=i) (v:=v) h;erw[.inl ⟨i,t,rfl,e⟩]
 |.inr x,v,h=>by
  have⟨t,e⟩:=Value.isStrOf_shape (x:=x) (v:=v) h;erw[.inr ⟨x,t,rfl,e⟩]
def Pp(i:Int)(t:Tok):VD (.inl i) (.int i t)=wf:=by simp[VD,Value.isInt]
def Pq(x:Str)(t:Tok):VD (.inr x) (.str x t)=wf:=by simp[VD,Value.isStrOf]
def Pr(a b:Int):decide ((UX a:Key)=UX b)=(a==b):=by
 by_cases e:a=b
 .subst e;simp
 .have h:¬(UX a:Key)=UX b:=λq=>e (Sum.inl.inj q);rw[decide_eq_false h];erw[(beq_eq_false_iff_ne.mpr e).symm]
def Ps(a b:Str):decide ((Xo a:Key)=Xo b)=decide (a=b):=by
 by_cases e:a=b
 .subst e;simp
 .have h:¬(Xo a:Key)=Xo b:=λq=>e (V1 q);rw[decide_eq_false h,decide_eq_false e]
def Pt(a:Int)(b:Str):decide ((UX a:Key)=Xo b)=wg:=decide_eq_false (λq=>nomatch q)
def Pu(a:Str)(b:Int):decide ((Xo a:Key)=UX b)=wg:=decide_eq_false (λq=>nomatch q)
def YS(l:Xk)(w:Xe):PySem.KeyKind l w Key where
 is:=VD
 hash:=keyH w
 inj:=λv a b g m=>by
  rcases U6 g with⟨i,t,rfl,rfl⟩|⟨x,t,rfl,rfl⟩
  .rcases U6 m with⟨j,u,rfl,e⟩|⟨y,u,rfl,e⟩
   .injection e with e1 _;rw[e1]
   .erw[nomatch e]
  .rcases U6 m with⟨j,u,rfl,e⟩|⟨y,u,rfl,e⟩
   .erw[nomatch e]
   .injection e with e1 _;rw[e1]
 byValue:=λk v h=>by
  rcases U6 h with⟨i,t,rfl,rfl⟩|⟨x,t,rfl,rfl⟩<;>rfl
 pyHash:=λz h=>by
  rcases U6 z with⟨i,t,rfl,rfl⟩|⟨x,t,rfl,rfl⟩
  .erw[wpAny_pyHash_int h]
  .erw[wpAny_pyHash_str h]
 eqBool:=λd z h=>by
  rcases U6 d with⟨i,t,rfl,rfl⟩|⟨x,t,rfl,rfl⟩
  .rcases U6 z with⟨j,u,rfl,rfl⟩|⟨y,u,rfl,rfl⟩
   .rw[Pr]at h;erw[wpAny_eqBool_int h]
   .rw[Pt]at h;erw[FZ i t y u _ _ _ _ h]
  .rcases U6 z with⟨j,u,rfl,rfl⟩|⟨y,u,rfl,rfl⟩
   .rw[Pu]at h;erw[G0 x t j u _ _ _ _ h]
   .rw[Ps]at h;erw[wpAny_eqBool_str h]
 «strs»:=λk x t v h=>by
  rcases U6 h with⟨i,u,rfl,e⟩|⟨y,u,rfl,e⟩
  .erw[nomatch e]
  .injection e with e1 _;subst e1;cases v<;>rfl
def Pv(j:Xk)(w:Xe)(i:Int)(t:Tok):(YS j w).is (.inl i) (.int i t)=wf:=Pp i t
def Pw(j:Xk)(w:Xe)(x:Str)(t:Tok):(YS j w).is (.inr x) (.str x t)=wf:=Pq x t
inductive V where
 |non|bl (b:Bool)|int (i:Int)|str (x:Str)|byt (b:Array UInt8)|flt (b:UInt64)|ref (a:Addr)|ty (n:String)
  deriving DecidableEq
def RelV:V->Value->Prop
 |.non,u=>u=Us
 |.bl b,u=>u=Ut b
 |.int i,u=>∃t,u=Vx i t
 |.str x,u=>∃t,u=YR x t
 |.byt b,u=>∃t,u=Value.bytes b t
 |.flt b,u=>∃t,u=Bd b t
 |.ref a,u=>u=Xt a
 |.ty n,u=>u=Zg n
abbrev Vals:List V->List Value->Prop:=Paired RelV
theorem Vals.length(r:Vals xs us):xs.length=us.length:=Paired.length r
theorem Vals.get:∀{xs:List V} {us:List Value} {i:Nat} {x:V},Vals xs us->xs[i]?=wc x->∃u,us[i]?=wc u/\RelV x u
 |_,_,_,_,.nil,e=>by simp at e
 |_,_,0,_,.cons r _,e=>by simp at e;subst e;erw[⟨_,rfl,r⟩]
 |_,_,i+1,x,.cons _ t,e=>by
  have⟨u,j,l⟩:=Vals.get (i:=i) (x:=x) t (by simpa using e)
  erw[⟨u,by simpa using j,l⟩]
theorem Vals.set(r:RelV x u):∀{xs:List V} {us:List Value} (i:Nat),Vals xs us->Vals (xs.set i x) (us.set i u)
 |_,_,_,.nil=>.nil
 |_,_,0,.cons _ t=>.cons r t
 |_,_,i+1,.cons q t=>.cons q (Vals.set r i t)
theorem Vals.append:∀{xs j:List V} {us l:List Value},Vals xs us->Vals j l->Vals (xs++j) (us++l)
 |_,_,_,_,.nil,s=>s
 |_,_,_,_,.cons r t,s=>.cons r (Vals.append t s)
theorem Vals.take:∀{xs:List V} {us:List Value} (n:Nat),Vals xs us->Vals (xs.take n) (us.take n)
 |_,_,0,_=>.nil
 |_,_,_+1,.nil=>.nil
 |_,_,n+1,.cons r t=>.cons r (Vals.take n t)
theorem Vals.drop:∀{xs:List V} {us:List Value} (n:Nat),Vals xs us->Vals (xs.drop n) (us.drop n)
 |_,_,0,r=>r
 |_,_,_+1,.nil=>.nil
 |_,_,n+1,.cons _ t=>Vals.drop n t
def RelO:Option V->Option Value->Prop
 |wc v,wc u=>RelV v u
 |we,we=>True
 |_,_=>False
def KV{j:Type}:List (j×V)->List (j×Value)->Prop:=Paired fun(p:j×V) (q:j×Value)=>p.1=q.1/\RelV p.2 q.2
def kV:Key->V
 |.inl i=>.int i
 |.inr x=>.str x
inductive HO where
 |lst (xs:List V)
 |tup (xs:List V)
 |dK (kvs:List (Key×V))|dT (kvs:List (List Key×V))
 |set (S:Int->Bool)(n:Nat)
 |ins (C dx:Addr)(fs:List (Str×V))
 |own (x:Addr)
 |xd (fs:List (Str×V))
 |met (f x:Addr)
 |rng (lo hi:Int)
 |frz (o:Obj)(u:HO)
 |tbl (ps:Array Value)
 |ext (φ:Heap->Prop)
noncomputable abbrev Hp:=Addr->Option HO
noncomputable def upd(H:Hp)(a:Addr)(o:HO):Hp:=λb=>if b=a then wc o else H b
def _G{H:Hp}{a:Addr}{o:HO}:upd H a o a=wc o:=by unfold upd;rw[if_pos rfl]
def XQ{H:Hp}{a b:Addr}{o:HO}(h:b≠a):upd H a o b=H b:=by unfold upd;rw[if_neg h]
def G2{H:Hp}{a b:Addr}{o u:HO}(h:H a=wc o)(j:H b=wc u)(d:o≠u):a≠b:=by
 intro e;subst e;rw[h]at j;erw[d (Y6 j)]
def V3{H:Hp}{a b:Addr}{o:HO}(h:H a=wc o)(j:H b=we):a≠b:=by
 intro e;subst e;rw[h]at j;cases j
section
variable(P:Xk)(w:Xe)
def ObjOk(H:Hp)(h:Heap)(a:Addr):HO->Prop
 |.lst l=>l.length<=sizeLine/\∃(j:List Value) (n:Nat),Vals l j/\h.get? a=wc {cls:=.type "list",data:=.seq j.toArray n}
 |.tup l=>l.length<=sizeLine/\∃j:List Value,Vals l j/\IsTup h a j.toArray/\∃o,h.get? a=wc o/\o.dict=we
 |.dK kvs=>kvs.length<=sizeLine/\(a==YN)=wg/\∃z,KV kvs z/\h.DictOf (YS P w) a z
 |.dT kvs=>kvs.length<=sizeLine/\(a==YN)=wg/\∃l:List (List Key×Addr×Value),
   Paired (fun(p:List Key×V) (q:List Key×Addr×Value)=>p.1=q.1/\H q.2.1=wc (.tup (p.1.map kV))/\RelV p.2 q.2.2) kvs l/\
   ∃o m c,h.get? a=wc o/\o.ExactDict/\o.data=.dict m c/\m.toList=l.map (entryOfKey (tupleKind (YS P w)))/\(l.map (·.1)).Nodup
 |.set S n=>h.SetOf (intKind P w) a S n
 |.ins C dx fs=>H dx=wc (.own a)/\fs.length<=1000/\dx≠a/\h.get? a=wc (Up C dx)/\
   ∃y,h.Ns1 dx y/\(∀f,RelO (fs.lookup f) (y f))/\Dc y (fs.map (·.1))
 |.own _=>∃o,h.get? a=wc o
 |.xd fs=>∃y,h.Ns1 a y/\∀f,RelO (fs.lookup f) (y f)
 |.rng lo hi=>∃t u v,h.get? a=wc {cls:=.type "range",data:=.fields #[.int lo t,.int hi u,.int 1 v]}
 |.frz o u=>h.get? a=wc o/\ObjOk H h a u
 |.tbl ps=>h.get? a=wc {cls:=.none,data:=.fields ps}
 |.met f x=>h.get? a=wc (CV (.ref f) (.ref x))
 |.ext φ=>φ h/\(∃o,h.get? a=wc o)/\∀g d:Heap,φ g->(∀o,g.get? a=wc o->d.get? a=wc o)->φ d
def HOk(H:Hp)(h:Heap):Prop:=∀a o,H a=wc o->ObjOk P w H h a o
end
section
variable{P:Xk}{w:Xe}{H H':Hp}{h h':Heap}{a:Addr}{o:HO}
theorem ObjOk.lt(x:ObjOk P w H h a o):a<h.objs.size:=by
 cases o with
 |lst l=>have⟨_,_,_,_,e⟩:=x;erw[Xu e]
 |tup l=>have⟨_,_,_,p⟩:=x;erw[p.1.lt]
 |dK j=>have⟨_,_,_,_,o,_,_,e,_⟩:=x;erw[Xu e]
 |dT j=>have⟨_,_,_,_,o,_,_,e,_⟩:=x;erw[Xu e]
 |set S n=>have⟨o,_,_,_,e,_⟩:=x;erw[Xu e]
 |ins C t fs=>have⟨_,_,_,e,_⟩:=x;erw[Xu e]
 |own y=>have⟨_,e⟩:=x;erw[Xu e]
 |xd fs=>have⟨_,⟨_,_,_,e,_⟩,_⟩:=x;erw[Xu e]
 |rng lo z=>have⟨_,_,_,e⟩:=x;erw[Xu e]
 |frz m u=>have⟨e,_⟩:=x;erw[Xu e]
 |tbl g=>erw[Xu (show h.get? a=wc _ from x)]
 |met f y=>erw[Xu (show h.get? a=wc _ from x)]
 |ext d=>have⟨_,⟨_,e⟩,_⟩:=x;erw[Xu e]
theorem Paired.mapP{u y:Type}{F G:u->y->Prop}:∀{j:List u} {l:List y},Paired F j l->(∀a b,F a b->G a b)->Paired G j l
 |_,_,.nil,_=>.nil
 |_,_,.cons r t,f=>.cons (f _ _ r) (Paired.mapP t f)
def ObjOk.stay(x:ObjOk P w H h a o)(k:∀b u,(b=a\/H b=wc (.own a))->h.get? b=wc u->h'.get? b=wc u)
  (U:∀b,H b=wc (.own a)->H' b=wc (.own a))(W:∀b xs,H b=wc (.tup xs)->H' b=wc (.tup xs)):ObjOk P w H' h' a o:=by
 induction o with
 |lst xs=>have⟨z,g,n,r,e⟩:=x;erw[⟨z,g,n,r,k _ _ (.inl rfl) e⟩]
 |tup xs=>have⟨z,g,r,⟨j,e,c⟩,Y,L,Z⟩:=x;erw[⟨z,g,r,⟨j,k _ _ (.inl rfl) e,c⟩,Y,k _ _ (.inl rfl) L,Z⟩]
 |dK N=>have⟨z,y,A,r,j,l,m,e,c⟩:=x;erw[⟨z,y,A,r,j,l,m,k _ _ (.inl rfl) e,c⟩]
 |dT N=>
  have⟨z,y,xs,r,j,l,m,e,c⟩:=x;erw[⟨z,y,xs,Paired.mapP r λp q z=>⟨z.1,W _ _ z.2.1,z.2.2⟩,j,l,m,k _ _ (.inl rfl) e,c⟩]
 |set S n=>have⟨j,l,m,t,e,c⟩:=x;erw[⟨j,l,m,t,k _ _ (.inl rfl) e,c⟩]
 |ins C E fs=>
  have⟨d,z,B,e,O,⟨R,l,m,L,c⟩,r⟩:=x;erw[⟨U _ d,z,B,k _ _ (.inl rfl) e,O,⟨R,l,m,k _ _ (.inr d) L,c⟩,r⟩]
 |own y=>have⟨j,e⟩:=x;erw[⟨j,k _ _ (.inl rfl) e⟩]
 |xd fs=>have⟨O,⟨R,l,m,e,c⟩,r⟩:=x;erw[⟨O,⟨R,l,m,k _ _ (.inl rfl) e,c⟩,r⟩]
 |rng lo F=>have⟨t,u,v,e⟩:=x;erw[⟨t,u,v,k _ _ (.inl rfl) e⟩]
 |frz j u D=>have⟨e,q⟩:=x;erw[⟨k _ _ (.inl rfl) e,D q⟩]
 |tbl T=>
  have e:h.get? a=wc {cls:=.none,data:=.fields T}:=x;show h'.get? a=wc {cls:=.none,data:=.fields T};erw[k a _ (.inl rfl) e]
 |met f y=>
  have e:h.get? a=wc (CV (.ref f) (.ref y)):=x;show h'.get? a=wc (CV (.ref f) (.ref y));erw[k a _ (.inl rfl) e]
 |ext G=>have⟨p,⟨o,e⟩,st⟩:=x;erw[⟨st _ _ p λo q=>k _ _ (.inl rfl) q,⟨o,k _ _ (.inl rfl) e⟩,st⟩]
theorem HOk.lt(x:HOk P w H h)(e:H a=wc o):a<h.objs.size:=(x a o e).lt
def HOk.fresh(x:HOk P w H h)(e:h.objs.size<=a):H a=we:=by
 cases q:H a with
 |none=>rfl
 |some u=>erw[absurd (Yu (x.lt q) e) (U1 _)]
def HOk.kept(x:HOk P w H h)(k:∀b u,h.get? b=wc u->h'.get? b=wc u):HOk P w H h':=λa o e=>
 (x a o e).stay (λb u _ q=>k b u q) (λ_ q=>q) λ_ _ q=>q
def HOk.laid(x:HOk P w H h)(k:∀b u,h.get? b=wc u->h'.get? b=wc u)(l:h.objs.size<=a)(new:ObjOk P w (upd H a o) h' a o):HOk P w (upd H a o) h':=λb u e=>by
 have j:=x.fresh l;by_cases hb:b=a
 .subst hb;rw[_G]at e;cases e;erw[new]
 .rw[XQ hb]at e;erw[(x b u e).stay (λc v _ q=>k c v q) (λc q=>by rw[XQ (V3 q j)];erw[q]) λc t q=>by rw[XQ (V3 q j)];erw[q]]
end
def Rd(H:Hp)(a:Addr)(u:HO):Prop:=H a=wc u\/∃o,H a=wc (.frz o u)
def Rd.ok(r:Rd H a u)(x:HOk P w H h):ObjOk P w H h a u:=by
 rcases r with r|⟨o,r⟩
 .erw[x a u r]
 .have⟨_,q⟩:=x a _ r;erw[q]
def Mut:Option HO->Prop
 |wc (.lst _)=>True
 |wc (.dK _)=>True
 |wc (.dT _)=>True
 |wc (.set _ _)=>True
 |wc (.ins _ _ _)=>True
 |wc (.ext _)=>True
 |_=>False
section
variable{P:Xk}{w:Xe}{H:Hp}{h h':Heap}{x e:Addr}{o':HO}
def HOk.write(ok:HOk P w H h)(t:Mut (H x))(f:e=x\/H e=wc (.own x))(k:∀b u,b≠e->h.get? b=wc u->h'.get? b=wc u)(d:∃u,h'.get? e=wc u)
  (new:ObjOk P w (upd H x o') h' x o'):HOk P w (upd H x o') h':=λb u q=>by
 have j:∀c y,H c=wc (.own y)->c≠x:=λc y r z=>by subst z;rw[r]at t;erw[t]
 have l:∀c m,H c=wc (.tup m)->c≠x:=λc m r z=>by subst z;rw[r]at t;erw[t]
 by_cases hb:b=x
 .subst hb;rw[_G]at q;cases q;erw[new]
 .rw[XQ hb]at q;by_cases hbe:b=e
  .have p:H b=wc (.own x):=by
    rcases f with z|z
    .erw[absurd (hbe.trans z) hb]
    .rw[hbe];erw[z]
   rw[q]at p;cases p;have⟨v,L⟩:=d;erw[⟨v,by rw[hbe];erw[L]⟩]
  .erw[(ok b u q).stay (λc v g r=>k c v ?_ r) (λc r=>by rw[XQ (j c b r)];erw[r]) λc m r=>by rw[XQ (l c m r)];erw[r]]
   rcases g with rfl|g
   .erw[hbe]
   .rintro rfl;rcases f with z|z
    .erw[j c b g z]
    .rw[g]at z;cases z;erw[hb rfl]
end
structure Un (fs ex:List Addr)(H H':Hp)(h h':Heap):Prop where
 keep:∀b o,h.get? b=wc o->H b=we->b∉fs->b∉ex->h'.get? b=wc o
 slot:∀b o,h.get? b=wc o->H b=we->b∈fs->b∉ex->∃sl,h'.get? b=wc {o with slots:=sl}
 free:∀b o,h.get? b=wc o->H b=we->b∉ex->H' b=we
 there:∀b o,h.get? b=wc o->b∉ex->∃o',h'.get? b=wc o'
 tups:∀b xs,H b=wc (.tup xs)->H' b=wc (.tup xs)
 frzs:∀b o u,H b=wc (.frz o u)->H' b=wc (.frz o u)
 tbls:∀b ps,H b=wc (.tbl ps)->∃more,H' b=wc (.tbl (ps++more))
section
variable{fs fs' ex ex':List Addr}{H H1 H2:Hp}{h h1 h2 h':Heap}{a x e:Addr}{o:HO}
def Un.any(u:Un fs ex H H1 h h1)(q:h.get? b=wc ob)(n:H b=we)(j:b∉ex):∃l,h1.get? b=wc {ob with slots:=l}:=by
 by_cases hb:b∈fs
 .erw[u.slot b ob q n hb j]
 .erw[⟨ob.slots,u.keep b ob q n hb j⟩]
def Un.kept(k:∀b u,h.get? b=wc u->h'.get? b=wc u):Un fs ex H H h h':=
 ⟨λb j q _ _ _=>k b j q,λb j q _ _ _=>⟨j.slots,k b j q⟩,λ_ _ _ n _=>n,λb j q _=>⟨j,k b j q⟩,λ_ _ q=>q,λ_ _ _ q=>q,λ_ l q=>⟨#[],by rw[q];simp⟩⟩
def Un.refl:Un fs ex H H h h:=Un.kept λ_ _ q=>q
def Un.laid(k:∀b u,h.get? b=wc u->h'.get? b=wc u)(l:h.objs.size<=a)(j:H a=we):Un fs ex H (upd H a o) h h' where
 keep:=λb u q _ _ _=>k b u q
 slot:=λb u q _ _ _=>⟨u.slots,k b u q⟩
 free:=λb u q n _=>by rw[XQ (XE (Yu (Xu q) l))];erw[n]
 there:=λb u q _=>⟨u,k b u q⟩
 tups:=λb t q=>by rw[XQ (V3 q j)];erw[q]
 frzs:=λb u t q=>by rw[XQ (V3 q j)];erw[q]
 tbls:=λb w q=>⟨#[],by rw[XQ (V3 q j),q];simp⟩
def Un.write(j:Mut (H x))(m:e=x\/H e=wc (.own x))(k:∀b u,b≠e->h.get? b=wc u->h'.get? b=wc u)(l:∃u,h'.get? e=wc u):Un fs ex H (upd H x o) h h':=by
 have w:∀b,H b=we->b≠x:=λb n z=>by subst z;rw[n]at j;erw[j]
 have y:∀b,H b=we->b≠e:=λb n z=>by
  subst z;rcases m with r|r
  .erw[w b n r]
  .rw[n]at r;cases r
 have t:∀b u,H b=wc u->¬Mut (wc u)->b≠x:=λb u q g z=>by subst z;rw[q]at j;erw[g j]
 erw[⟨λb u q n _ _=>k b u (y b n) q,λb u q n _ _=>⟨u.slots,k b u (y b n) q⟩,λb u q n _=>by rw[XQ (w b n)];erw[n],λb u q _=>?_,
  λb d q=>by rw[XQ (t b _ q λz=>z)];erw[q],λb u d q=>by rw[XQ (t b _ q λz=>z)];erw[q],λb c q=>⟨#[],by rw[XQ (t b _ q λz=>z),q];simp⟩⟩]
 by_cases hbe:b=e
 .subst hbe;erw[l]
 .erw[⟨u,k b u hbe q⟩]
end
noncomputable def trk(h:Heap)(H:Hp):List Addr:=(Xr h.objs.size).filter λa=>(H a).isSome
def hidT(h:Heap)(H:Hp):Heap:=Wr h (trk h H)
def Px(h:Heap)(H:Hp):(hidT h H).objs.size=h.objs.size:=PySem.W.hideAll_size _ _
def Py(e:h.get? b=wc o)(n:H b=we):(hidT h H).get? b=wc o:=
 Fq _ e λj=>by
  have q:(H b).isSome=wf:=(CQ.mp j).2;rw[n]at q;simp at q
def Pz(e:(hidT h H).get? b=wc o):h.get? b=wc o/\H b=we:=by
 have j:h.get? b=wc o:=PySem.W.of_hideAll (trk h H) e;erw[⟨j,?_⟩];cases q:H b with
 |none=>rfl
 |some x=>
  have l:b∈trk h H:=CQ.mpr ⟨Zf.mpr (Xu j),by simp[q]⟩
  have z:(hidT h H).get? b=we:=PySem.W.hideAll_none (trk h H) l;rw[z]at e;cases e
noncomputable def PB(g h:Heap)(L:Addr):List (Addr×Obj):=(Xr h.objs.size).filterMap λa=>if a=L\/(g.get? a).isSome=wf then we else(h.get? a).map λo=>(a,o)
def rest(g h:Heap)(L d:Addr):List (Addr×Obj):=(PB g h L).filter λp=>decide (p.1≠d)
structure Mod (K:X1)(mg:Str->Option Value)(base:Heap):Prop where
 kin:K.In base
 glob:base.Ns Xi mg
 blt:∃mb,base.Ns builtinsNs mb/\∀x:Str,x≠"__name__"->mb x=Ym x
 nolimit:base.NoLimit
structure Cx where
 prog:Xk
 w:Xe
 K:X1
 mg:Str->Option Value
 base:Heap
 A:Xp
 N:List Str
 s₀:X0
 H₀:Hp
 env:Env
 outer:List Env
 stack:List Env
 ex:List Addr
 fn:Str->Bool
 calm:Bool
 pn:List (Addr×Obj)
 xe:Value->X0->Prop
noncomputable def frs(l:List Env):List Addr:=l.filterMap (·.frame)
abbrev Cx.fs(X:Cx):List Addr:=frs X.outer
def Vis(j:Scope)(x:Str):Prop:=j.names.lookup x=wc .local\/j.names.lookup x=wc .cell\/j.names.lookup x=wc .free
def Loc(j:Scope)(x:Str):Prop:=j.names.lookup x=wc .local\/j.names.lookup x=wc .cell
def Look(j:Env)(h:Heap)(m:Str->Option Value)(x:Str)(u:Value):Prop:=
 (j.kindOf x=wc .local/\m x=wc u)\/((j.kindOf x=wc .cell\/j.kindOf x=wc .free)/\∃c,j.cells.lookup x=wc c/\h.IsCell c (wc u))
structure Cx.Ok (X:Cx):Prop where
 mod:Mod X.K X.mg X.base
 kind:X.env.scope.kind=.function
 glob:X.env.globals=Xi
 blt:X.env.builtins=builtinsNs
 above:X.s₀.heap.objs.size<=X.env.locals
 inj:∀x y c,X.env.cells.lookup x=wc c->X.env.cells.lookup y=wc c->x=y
 has:∀x,(X.env.kindOf x=wc .cell\/X.env.kindOf x=wc .free)->∃c,X.env.cells.lookup x=wc c
 cab:∀x c,X.fn x=wf->X.env.cells.lookup x=wc c->X.s₀.heap.objs.size<=c
 hd:X.calm=wf->X.A.handled=we
 frames:X.A.frames=wc X.stack
 stk:X.stack=X.outer\/(X.stack=X.env::X.outer/\X.env.frame=wc X.env.locals)
 exf:∀b∈X.ex,b≠X.env.locals/\∀x c,X.env.cells.lookup x=wc c->c≠b
 bs:∀b o,X.base.get? b=wc o->X.s₀.heap.get? b=wc o/\X.H₀ b=we
 bsz:X.base.objs.size<=X.s₀.heap.objs.size
 noex:∀b o,X.base.get? b=wc o->b∉X.ex
 exfs:∀b∈X.ex,b∉X.fs
 funs:X.s₀.heap.FunFrames X.base X.outer
 frf:∀b∈X.fs,X.H₀ b=we
structure Inv (X:Cx)(pj:List (Addr×Obj))(σ:List (Option V))(H:Hp)(s:X0):Prop where
 ok:X.Ok
 os:s.os=X.s₀.os
 bare:AllBare s.gens
 base:Un X.fs X.ex X.H₀ H X.s₀.heap s.heap
 loc:∃m,s.heap.Ns X.env.locals m/\∀(i:Nat)(x:Str)(v:V),X.N[i]?=wc x->σ[i]?=wc (wc v)->Vis X.env.scope x->∃u,RelV v u/\Look X.env s.heap m x u
 cell:∀x c,X.env.cells.lookup x=wc c->∃v,s.heap.IsCell c v
 free:H X.env.locals=we
 freeC:∀x c,X.env.cells.lookup x=wc c->H c=we
 pin:∀p∈X.pn++pj,s.heap.get? p.1=wc p.2/\H p.1=we/\p.1≠X.env.locals/\p.1∉X.fs/\∀v,p.2.data≠.cell v
 hok:HOk X.prog X.w H s.heap
 len:σ.length=X.N.length
section
variable{X:Cx}{pj:List (Addr×Obj)}{σ:List (Option V)}{H H':Hp}{s:X0}{h':Heap}
def Cx.Ok.nofr(ok:X.Ok)(e:X.base.get? b=wc o):b∉X.fs:=λj=>by
 have:=(ok.funs.mem j).1;rw[e]at this;cases this
theorem Inv.bs(I:Inv X pj σ H s):∀b o,X.base.get? b=wc o->s.heap.get? b=wc o/\H b=we:=λb o e=>
 ⟨I.base.keep b o (I.ok.bs b o e).1 (I.ok.bs b o e).2 (I.ok.nofr e) (I.ok.noex b o e),I.base.free b o (I.ok.bs b o e).1 (I.ok.bs b o e).2 (I.ok.noex b o e)⟩
def Inv.bk(I:Inv X pj σ H s):∀b o,X.base.get? b=wc o->s.heap.get? b=wc o:=λb o e=>(I.bs b o e).1
theorem Inv.mod(I:Inv X pj σ H s):Mod X.K X.mg X.base:=I.ok.mod
def Inv.kIn(I:Inv X pj σ H s):X.K.In s.heap:=I.ok.mod.kin.keeps I.bk
theorem Inv.lt(I:Inv X pj σ H s):X.env.locals<s.heap.objs.size:=let⟨_,hn,_⟩:=I.loc;hn.lt
def Inv.sz(I:Inv X pj σ H s):X.s₀.heap.objs.size<=s.heap.objs.size:=XA I.ok.above (UU I.lt)
def Inv.nofs(I:Inv X pj σ H s)(h:s.heap.objs.size<=a):a∉X.fs:=λj=>by
 have⟨_,o,l,_⟩:=I.ok.funs.mem j;erw[absurd (Yu (Xu l) (XA I.sz h)) (U1 _)]
def Inv.cne(I:Inv X pj σ H s):∀x c,X.env.cells.lookup x=wc c->c≠X.env.locals:=λx c e z=>by
 have⟨v,o,t,hd⟩:=I.cell x c e;have⟨m,⟨u,w,y,j,l,_⟩,_⟩:=I.loc;rw[z,j]at t;cases t;rw[l]at hd;cases hd
theorem Inv.funs(I:Inv X pj σ H s):s.heap.FunFrames X.base X.outer:=by
 have all:∀(l:List Env),(∀b∈frs l,b∈X.fs)->X.s₀.heap.FunFrames X.base l->s.heap.FunFrames X.base l:=by
  intro l
  induction l with
  |nil=>intro _ _;trivial
  |cons y r m=>
   intro w g;have⟨d,⟨L,o,j,c,f,hd⟩,p⟩:=g;have t:L∈X.fs:=w L (by unfold frs;rw[Wk,j];erw[XZ])
   have⟨N,e⟩:=I.base.slot L o f (I.ok.frf L t) t λz=>I.ok.exfs L z t;erw[⟨d,⟨L,_,j,c,e,hd⟩,m (λb u=>w b (by unfold frs;rw[Wk,j];erw[XD _ u])) p⟩]
 erw[all X.outer (λ_ u=>u) I.ok.funs]
theorem Inv.stack(I:Inv X pj σ H s):s.heap.FunFrames X.base X.stack:=by
 rcases I.ok.stk with e|⟨e,j⟩
 .rw[e];erw[I.funs]
 .rw[e];have⟨m,l,_⟩:=I.loc;erw[.cons (by rw[I.ok.kind];decide) j l ?_ I.funs]
  erw[Heap.get?_none_of_le (XA I.ok.bsz I.ok.above)]
def Inv.stkSub(I:Inv X pj σ H s):∀b∈frs X.stack,b∈X.env.locals::X.fs:=λb j=>by
 rcases I.ok.stk with e|⟨e,l⟩
 .rw[e]at j;erw[XD _ j]
 .rw[e]at j;unfold frs at j;rw[Wk,l]at j;erw[j]
def Inv.stkFree(I:Inv X pj σ H s):∀b∈frs X.stack,H b=we:=λb j=>by
 rcases Xh.mp (I.stkSub b j)with e|j
 .rw[e];erw[I.free]
 .have⟨_,o,l,_⟩:=I.ok.funs.mem j;erw[I.base.free b o l (I.ok.frf b j) λz=>I.ok.exfs b z j]
def Inv.step{G:Array GenState}{S:Nat}{h:Drawn}{L:List Addr}(I:Inv X pj σ H s)
  (t:∀b∈L,(b∈X.ex\/X.s₀.heap.objs.size<=b)/\b≠X.env.locals/\(∀x c,X.env.cells.lookup x=wc c->c≠b)/\∀p∈X.pn++pj,p.1≠b)
  (keep:∀b o,b≠X.env.locals->b∉X.fs->b∉L->s.heap.get? b=wc o->H b=we->h'.get? b=wc o)
  (N:∀b o,b≠X.env.locals->b∈X.fs->b∉L->s.heap.get? b=wc o->H b=we->∃D,h'.get? b=wc {o with slots:=D})(free:∀b o,b∉L->s.heap.get? b=wc o->H b=we->H' b=we)
  (there:∀b o,b∉L->s.heap.get? b=wc o->∃T,h'.get? b=wc T)
  (U:∀b O,H b=wc (.tup O)->H' b=wc (.tup O))(W:∀b o u,H b=wc (.frz o u)->H' b=wc (.frz o u))(Y:∀b C,H b=wc (.tbl C)->∃Z,H' b=wc (.tbl (C++Z)))
  (a:∀m,s.heap.Ns X.env.locals m->h'.Ns X.env.locals m)(E:HOk X.prog X.w H' h')(hg:AllBare G):
  Inv X pj σ H' {s with heap:=h',gens:=G,drawn:=h,toks:=S}:=by
 have A:∀b o,X.s₀.heap.get? b=wc o->b≠X.env.locals:=λb o e=>XE (Yu (Xu e) I.ok.above);have g:∀b o,X.s₀.heap.get? b=wc o->b∉X.ex->b∉L:=λb o e j P=>by
  rcases(t b P).1 with z|z
  .erw[j z]
  .erw[absurd (Yu (Xu e) z) (U1 _)]
 have w:∀x c,X.env.cells.lookup x=wc c->∀v,s.heap.IsCell c v->h'.IsCell c v:=λx c e v ⟨o,R,hd⟩=>by
  have y:c∉L:=λz=>(t c z).2.2.1 x c e rfl;by_cases hc:c∈X.fs
  .have⟨D,q⟩:=N c o (I.cne x c e) hc y R (I.freeC x c e);erw[⟨_,q,hd⟩]
  .erw[⟨o,keep c o (I.cne x c e) hc y R (I.freeC x c e),hd⟩]
 erw[⟨I.ok,I.os,hg,⟨λb o e n P j=>?_,λb o e n P j=>?_,λb o e n j=>?_,λb o e j=>?_,λb O e=>U b O (I.base.tups b O e),λb o O e=>W b o O (I.base.frzs b o O e),λb C e=>?_⟩,?_,λx c e=>?_,?_,λx c e=>?_,λp J=>?_,E,I.len⟩]
 .erw[keep b o (A b o e) P (g b o e j) (I.base.keep b o e n P j) (I.base.free b o e n j)]
 .have⟨D,f⟩:=I.base.slot b o e n P j;have⟨F,B⟩:=N b _ (A b o e) P (g b o e j) f (I.base.free b o e n j);erw[⟨F,B⟩]
 .have⟨T,f⟩:=I.base.there b o e j;erw[free b T (g b o e j) f (I.base.free b o e n j)]
 .have⟨T,f⟩:=I.base.there b o e j;erw[there b T (g b o e j) f]
 .have⟨m1,f⟩:=I.base.tbls b C e;have⟨m2,B⟩:=Y b _ f;erw[⟨m1++m2,by rw[B,Array.append_assoc]⟩]
 .have⟨m,hn,hl⟩:=I.loc;erw[⟨m,a m hn,λi x v f B e3=>?_⟩];have⟨u,r,l⟩:=hl i x v f B e3;erw[⟨u,r,?_⟩];rcases l with l|⟨k,c,e,z⟩
  .erw[.inl l]
  .erw[.inr ⟨k,c,e,w x c e _ z⟩]
 .have⟨v,z⟩:=I.cell x c e;erw[⟨v,w x c e v z⟩]
 .have⟨m,⟨o,_,_,R,_⟩,_⟩:=I.loc;erw[free _ o (λz=>(t _ z).2.1 rfl) R I.free]
 .have⟨v,o,R,hd⟩:=I.cell x c e;erw[free c o (λz=>(t c z).2.2.1 x c e rfl) R (I.freeC x c e)]
 .have⟨e,n,M,Q,d⟩:=I.pin p J;have y:p.1∉L:=λz=>(t p.1 z).2.2.2 p J rfl;erw[⟨keep p.1 p.2 M Q y e n,free p.1 p.2 y e n,M,Q,d⟩]
def Inv.un{d:Nat}(I:Inv X pj σ H s)(u:Un X.fs [] H H' s.heap h')(l:HOk X.prog X.w H' h'):Inv X pj σ H' {s with heap:=h',toks:=d}:=by
 have⟨m,⟨o,L,N,g,r⟩,_⟩:=id I.loc;have⟨O,c⟩:=u.any g I.free (by simp)
 erw[I.step (G:=s.gens) (h:=s.drawn) (L:=[]) (λ_ z=>nomatch z) (λb o _ t _ e n=>u.keep b o e n t (by simp)) (λb o _ t _ e n=>u.slot b o e n t (by simp)) (λb o _ e n=>u.free b o e n (by simp)) (λb o _ e=>u.there b o e (by simp)) u.tups u.frzs u.tbls (λP f=>by
  have⟨R,w,y,j,p⟩:=f;rw[g]at j;cases j;erw[⟨_,w,y,c,p⟩]) l I.bare]
def Inv.call{L:Array GenState}{O:Nat}{P:Drawn}{w:List Addr}(I:Inv X pj σ H s)(u:Un (frs X.stack) w H H' s.heap h')(y:HOk X.prog X.w H' h')(R:AllBare L)
  (l:∀b∈w,(b∈X.ex\/X.s₀.heap.objs.size<=b)/\b≠X.env.locals/\(∀x c,X.env.cells.lookup x=wc c->c≠b)/\∀p∈X.pn++pj,p.1≠b):
  Inv X pj σ H' {s with heap:=h',gens:=L,drawn:=P,toks:=O}:=by
 have⟨m,⟨o,Y,Z,N,r⟩,_⟩:=id I.loc;have⟨A,g⟩:=u.any N I.free λz=>(l _ z).2.1 rfl;erw[I.step (L:=w) l (λb o g T j e n=>u.keep b o e n (λz=>(Xh.mp (I.stkSub b z)).elim g T) j) (λb o _ _ j e n=>u.any e n j) (λb o j e n=>u.free b o e n j) (λb o j e=>u.there b o e j) u.tups u.frzs u.tbls (λB U=>by
  have⟨C,d,f,t,W⟩:=U;rw[N]at t;cases t;erw[⟨_,d,f,g,W⟩]) y R]
def Inv.turned{y:Nat}{j:Addr}(I:Inv X pj σ H s)(k:∀b o,b≠j->s.heap.get? b=wc o->h'.get? b=wc o)(g:H j=we)(w:j≠X.env.locals)
  (d:j∈X.ex\/X.s₀.heap.objs.size<=j)(f:∀x c,X.env.cells.lookup x=wc c->c≠j)(L:∀p∈X.pn++pj,p.1≠j):Inv X pj σ H {s with heap:=h',toks:=y}:=by
 have t:∀b u,H b=wc u->b≠j:=λb u e z=>by rw[z,g]at e;cases e
 erw[I.step (G:=s.gens) (h:=s.drawn) (L:=[j]) (λb N=>?_) (λb o _ _ l e _=>k b o (λz=>l (by simp[z])) e) (λb o _ _ l e _=>⟨o.slots,k b o (λz=>l (by simp[z])) e⟩) (λ_ _ _ _ n=>n)
  (λb o l e=>⟨o,k b o (λz=>l (by simp[z])) e⟩) (λ_ _ e=>e) (λ_ _ _ e=>e) (λb U e=>⟨#[],by rw[e];simp⟩) (λm O=>?_) (λb u e=>?_) I.bare]
 .have e:b=j:=by simpa using N
  subst e;erw[⟨d,w,f,L⟩]
 .have⟨o,P,R,T,r⟩:=O;erw[⟨o,P,R,k _ o (XT w) T,r⟩]
 .erw[(I.hok b u e).stay (λc v l q=>k c v ?_ q) (λ_ q=>q) λ_ _ q=>q];rcases l with z|z
  .rw[z];erw[t b u e]
  .erw[t c _ z]
def Inv.tok(I:Inv X pj σ H s)(t:Nat):Inv X pj σ H {s with toks:=t}:=I.un (h':=s.heap) (d:=t) Un.refl I.hok
theorem Inv.kept(I:Inv X pj σ H s)(k:∀b u,s.heap.get? b=wc u->h'.get? b=wc u):Inv X pj σ H {s with heap:=h',toks:=t'}:=I.un (Un.kept k) (I.hok.kept k)
theorem Inv.laid(I:Inv X pj σ H s)(k:∀b u,s.heap.get? b=wc u->h'.get? b=wc u)(j:s.heap.objs.size<=a)(new:ObjOk X.prog X.w (upd H a o) h' a o):
  Inv X pj σ (upd H a o) {s with heap:=h',toks:=t'}:=I.un (Un.laid k j (I.hok.fresh j)) (I.hok.laid k j new)
theorem Inv.write(I:Inv X pj σ H s)(l:Mut (H x))(t:e=x\/H e=wc (.own x))(k:∀b u,b≠e->s.heap.get? b=wc u->h'.get? b=wc u)(j:∃u,h'.get? e=wc u)
  (new:ObjOk X.prog X.w (upd H x o) h' x o):Inv X pj σ (upd H x o) {s with heap:=h',toks:=t'}:=I.un (Un.write l t k j) (I.hok.write l t k j new)
def Inv.weak(I:Inv X pj σ H s)(j:σ'.length=σ.length)(w:∀(i:Nat)v,σ'[i]?=wc (wc v)->σ[i]?=wc (wc v)):Inv X pj σ' H s:=
 ⟨I.ok,I.os,I.bare,I.base,let⟨m,hn,hl'⟩:=I.loc;⟨m,hn,λi x v l t u=>hl' i x v l (w i v t) u⟩,I.cell,I.free,I.freeC,I.pin,I.hok,j.trans I.len⟩
def Inv.pins_of(I:Inv X pj σ H s)(h:∀p∈pins',s.heap.get? p.1=wc p.2/\H p.1=we/\p.1≠X.env.locals/\p.1∉X.fs/\∀v,p.2.data≠.cell v):Inv X pins' σ H s:=
 ⟨I.ok,I.os,I.bare,I.base,I.loc,I.cell,I.free,I.freeC,λp j=>(Ya.mp j).elim (λz=>I.pin p (AA _ z)) (h p),I.hok,I.len⟩
def Di{N:List Str}(l:N.Nodup){i j:Nat}{x:Str}(a:N[i]?=wc x)(b:N[j]?=wc x):i=j:=by
 have⟨w,t⟩:=XF.mp a;have⟨y,u⟩:=XF.mp b;erw[(AF l).mp (t.trans u.symm)]
def G3{M:Model}{A:Xp}{E:Value->X0->Prop}{i:Nat}{x:Str}{v:V}{u:Value}{Q:Unit->X0->Prop}(I:Inv X pj σ H s)(hN:X.N.Nodup)(T:X.N[i]?=wc x)(f:Loc X.env.scope x)(r:RelV v u)
  (h:∀F,Inv X pj (σ.set i (wc v)) H F->(∃a,ZD a s.heap F.heap/\(a=X.env.locals\/X.env.cells.lookup x=wc a))->Q () F)(hf:X.fn x=wf\/X.env.scope.names.lookup x=wc .local:=by first|erw[.inl rfl]|erw[.inr rfl]|assumption):X3 M A (storeName X.env x u) Q E s:=by
 have⟨m,G,hl⟩:=id I.loc;have U:(X.env.scope.kind==.class||(X.env.scope.kind==.module&&X.env.locals != X.env.globals))=wg:=by rw[I.ok.kind];rfl
 have N:i<σ.length:=by rw[I.len];erw[(XF.mp T).1]
 have cne:=I.cne;have t:∀{a:Addr} {h':Heap},(∃o,s.heap.get? a=wc o/\H a=we)->ZD a s.heap h'->HOk X.prog X.w H h':=fun{a h'} ha l b ob e=>by
  have⟨_,_,cq⟩:=ha;erw[(I.hok b ob e).stay (λc B g q=>(l.2 c ?_).trans q) (λ_ q=>q) λ_ _ q=>q];rintro rfl;rcases g with rfl|g
  .rw[cq]at e;cases e
  .rw[cq]at g;cases g
 rcases f with O|O
 .erw[wpAny_storeName_local O G (λh' J l=>?_) U];have⟨oL,_,_,S,_⟩:=id G;erw[h _ ⟨I.ok,I.os,I.bare,⟨λb o e n P f=>?_,λb o e n P f=>?_,I.base.free,λb o e f=>?_,I.base.tups,I.base.frzs,I.base.tbls⟩,⟨_,J,λj y v' w L e3=>?_⟩,λy c e=>?_,I.free,I.freeC,λp hp=>?_,t ⟨oL,S,I.free⟩ l,by simpa using I.len⟩ ⟨_,l,.inl rfl⟩]
  .erw[(l.2 b (XE (Yu (Xu e) I.ok.above))).trans (I.base.keep b o e n P f)]
  .have⟨sl,w⟩:=I.base.slot b o e n P f;erw[⟨sl,(l.2 b (XE (Yu (Xu e) I.ok.above))).trans w⟩]
  .have⟨o',w⟩:=I.base.there b o e f;erw[⟨o',(l.2 b (XE (Yu (Xu e) I.ok.above))).trans w⟩]
  .by_cases hj:j=i
   .subst hj;rw[T]at w;cases w;rw[CG N]at L;cases L;erw[⟨u,r,.inl ⟨O,by simp⟩⟩]
   .rw[Uk (XT hj)]at L;have⟨u',r',q⟩:=hl j y v' w L e3;erw[⟨u',r',?_⟩];rcases q with⟨k,e⟩|⟨k,c,e,z⟩
    .erw[.inl ⟨k,?_⟩];have:y≠x:=λe=>hj (Di hN w (e▸T));simp[this,e]
    .erw[.inr ⟨k,c,e,z.sameBut l (cne y c e)⟩]
  .have⟨B,z⟩:=I.cell y c e;erw[⟨B,z.sameBut l (cne y c e)⟩]
  .have⟨e,n,C,nf,d⟩:=I.pin p hp;erw[⟨(l.2 p.1 C).trans e,n,C,nf,d⟩]
 .have R:X.fn x=wf:=by
   rcases hf with z|z
   .erw[z]
   .rw[z]at O;cases O
  have⟨c,g⟩:=I.ok.has x (.inl O);have⟨B,z⟩:=I.cell x c g;erw[wpAny_storeName_cell I.ok.kind O g z (λh' W l=>?_)];have⟨oc,Y,Z⟩:=id z;erw[h {s with heap:=h'} ⟨I.ok,I.os,I.bare,⟨λb o e n P f=>?_,λb o e n P f=>?_,I.base.free,λb o e f=>?_,I.base.tups,I.base.frzs,I.base.tbls⟩,⟨m,G.sameBut l (XT (cne x c g)),λj y v' w L e3=>?_⟩,λy D e=>?_,I.free,I.freeC,λp hp=>?_,t ⟨oc,Y,I.freeC x c g⟩ l,by simpa using I.len⟩ ⟨c,l,.inr g⟩]
  .erw[(l.2 b (XE (Yu (Xu e) (I.ok.cab x c R g)))).trans (I.base.keep b o e n P f)]
  .have⟨sl,w⟩:=I.base.slot b o e n P f;erw[⟨sl,(l.2 b (XE (Yu (Xu e) (I.ok.cab x c R g)))).trans w⟩]
  .have⟨o',w⟩:=I.base.there b o e f;erw[⟨o',(l.2 b (XE (Yu (Xu e) (I.ok.cab x c R g)))).trans w⟩]
  .by_cases hj:j=i
   .subst hj;rw[T]at w;cases w;rw[CG N]at L;cases L;erw[⟨u,r,.inr ⟨.inl O,c,g,W⟩⟩]
   .rw[Uk (XT hj)]at L;have⟨u',r',q⟩:=hl j y v' w L e3;erw[⟨u',r',?_⟩];rcases q with q|⟨k,D,e,z'⟩
    .erw[.inl q]
    .erw[.inr ⟨k,D,e,z'.sameBut l ?_⟩];rintro rfl;erw[hj (Di hN w (I.ok.inj _ _ _ e g▸T))]
  .by_cases hcc:D=c
   .subst hcc;erw[⟨_,W⟩]
   .have⟨w2,z2⟩:=I.cell y D e;erw[⟨w2,z2.sameBut l hcc⟩]
  .have⟨e,n,C,nf,d⟩:=I.pin p hp;erw[⟨(l.2 p.1 ?_).trans e,n,C,nf,d⟩];intro q;rw[q,Y]at e;have q':oc=p.2:=Y6 e;erw[d B (by rw[<-q'];erw[Z])]
def Dj(I:Inv X pj σ H s)(l:X.N.Nodup)(t:X.N[i]?=wc x)(w:Loc X.env.scope x)(r:RelV v u)
  (h:∀j,Inv X pj (σ.set i (wc v)) H j->Q () j)(y:X.fn x=wf\/X.env.scope.names.lookup x=wc .local:=by first|erw[.inl rfl]|erw[.inr rfl]|assumption):X3 M A (storeName X.env x u) Q E s:=
 G3 I l t w r (λj z _=>h j z) y
def Inv.call'(I:Inv X pj σ H s)(t:s'.os=s.os)(u:Un (frs X.stack) ch H H' s.heap s'.heap)(j:HOk X.prog X.w H' s'.heap)(w:AllBare s'.gens)
  (l:∀b∈ch,(b∈X.ex\/X.s₀.heap.objs.size<=b)/\b≠X.env.locals/\(∀x c,X.env.cells.lookup x=wc c->c≠b)/\∀p∈X.pn++pj,p.1≠b):Inv X pj σ H' s':=by
 have⟨h',y,z,m,g⟩:=s';have e:g=s.os:=t;subst e;erw[I.call (L:=y) (O:=m) (P:=z) u j w l]
end
abbrev XK:=Value->Option Addr->Hp->Prop
noncomputable abbrev St:=List (Option V)
abbrev VK:=V->Hp->Prop
abbrev TE:=St->Hp->VK->Prop
abbrev TT:=St->Hp->(Bool->Hp->Prop)->Prop
abbrev TA:=St->Hp->(List V->Hp->Prop)->Prop
structure Ends where
 nx:St->Hp->Prop
 rt:VK
 bk:St->Hp->Prop:=λ_ _=>False
 ct:St->Hp->Prop:=λ_ _=>False
abbrev TS:=Ends->St->Hp->Prop
def EP(X:Cx)(l:List (Addr×Obj))(t:St)(Q:VK)(u:Value)(w:X0):Prop:=∃v j,Inv X l t j w/\RelV v u/\Q v j
def TP(X:Cx)(l:List (Addr×Obj))(t:St)(Q:Bool->Hp->Prop)(b:Bool)(u:X0):Prop:=∃j,Inv X l t j u/\Q b j
def AP(X:Cx)(t:List (Addr×Obj))(u:St)(Q:List V->Hp->Prop)(w:List Value)(y:X0):Prop:=∃j l,Inv X t u l y/\Vals j w/\Q j l
def SP(X:Cx)(t:List (Addr×Obj))(D:Ends)(f:Flow)(w:X0):Prop:=
 match f with
 |.next=>∃j l,Inv X t j l w/\D.nx j l
 |.brk=>∃j l,Inv X t j l w/\D.bk j l
 |.cont=>∃j l,Inv X t j l w/\D.ct j l
 |.ret u=>∃v j l,Inv X t j l w/\RelV v u/\D.rt v l
def PE(X:Cx)(e:Expr)(t:TE):Prop:=
 ∀(l:List (Addr×Obj))(s:X0)(j:St)(H:Hp)(Q:VK),Inv X l j H s->t j H Q->X3 (X4 X.prog X.w) X.A (eval e X.env) (EP X l j Q) X.xe s
def PT(X:Cx)(e:Expr)(t:TT):Prop:=
 ∀(l:List (Addr×Obj))(s:X0)(j:St)(H:Hp)(Q:Bool->Hp->Prop),Inv X l j H s->t j H Q->X3 (X4 X.prog X.w) X.A (isTrue e X.env (eval e X.env)) (TP X l j Q) X.xe s
def PW(X:Cx)(e:Expr)(t:TT):Prop:=
 ∀(j:Sem Value)(u:List (Addr×Obj))(s:X0)(l:St)(H:Hp)(Q:Bool->Hp->Prop),Inv X u l H s->t l H Q->X3 (X4 X.prog X.w) X.A (isTrue e X.env j) (TP X u l Q) X.xe s
def PW.pt{t:TT}(h:PW X e t):PT X e t:=h _
def PA(X:Cx)(w:List Expr)(t:TA):Prop:=
 ∀(j:Pos)(u:List (Addr×Obj))(s:X0)(l:St)(H:Hp)(Q:List V->Hp->Prop),Inv X u l H s->t l H Q->X3 (X4 X.prog X.w) X.A (spliced (XV j (Xm w X.env))) (AP X u l Q) X.xe s
def PS(X:Cx)(st:Stmt)(t:TS):Prop:=
 ∀(j:List (Addr×Obj))(s:X0)(l:St)(H:Hp)(D:Ends),Inv X j l H s->t D l H->X3 (X4 X.prog X.w) X.A (exec st X.env) (SP X j D) X.xe s
def PSs(X:Cx)(st:List Stmt)(t:TS):Prop:=
 ∀(j:List (Addr×Obj))(s:X0)(l:St)(H:Hp)(D:Ends),Inv X j l H s->t D l H->X3 (X4 X.prog X.w) X.A (execs st X.env) (SP X j D) X.xe s
def thn{j:Type}{t:Sem j}{Q l:j->X0->Prop}{M:Model}{A:Xp}{E:Value->X0->Prop}{s:X0}(h:X3 M A t Q E s)(u:∀a s,Q a s->l a s):X3 M A t l E s:=Yd h u λ_ _ x=>x
section
variable{X:Cx}
def bin{a b:Expr}{c r:TE}(e:PE X a c)(L:PE X b r){z:List (Addr×Obj)}{s:X0}{j:St}{H:Hp}{R:V->V->Hp->Prop}(I:Inv X z j H s)(h:c j H λx g=>r j g λy l=>R x y l)
  {p:Type} {Q:p->X0->Prop} {f:Value->Value->Sem p}
  (N:∀v u m x y l,Inv X z j l m->RelV x v->RelV y u->R x y l->X3 (X4 X.prog X.w) X.A (f v u) Q X.xe m):
  X3 (X4 X.prog X.w) X.A (eval a X.env) (λv t=>X3 (X4 X.prog X.w) X.A (eval b X.env) (λu w=>X3 (X4 X.prog X.w) X.A (f v u) Q X.xe w) X.xe t) X.xe s:=by
 erw[thn (e z s j H _ I h) λv O d=>?_];have⟨x,g,P,r1,T⟩:=d;erw[thn (L z O j g _ P T) λu m d=>?_];have⟨y,l,U,W,Y⟩:=d;erw[N v u m x y l U r1 W Y]
def tVar(i:Nat):TE:=λj H Q=>∃v,j[i]?=wc (wc v)/\Q v H
def tC(v:V):TE:=λ_ H Q=>Q v H
def Bw{i:Nat}{x:Str}{y:Pos}(d:X.N[i]?=wc x)(f:Vis X.env.scope x)(hd:(x==("__debug__":Str))=wg:=by decide)(z:(x==("__classdict__":Str))=wg:=by decide):PE X (.Name x y) (tVar i):=by
 intro p s L H Q I h;have⟨v,e,h⟩:=h;have⟨m,N,O⟩:=I.loc;have⟨u,r,l⟩:=O i x v d e f;have t:EP X p L Q u s:=⟨v,H,I,r,h⟩;rcases l with⟨w,P⟩|⟨w,c,g,j⟩
 .erw[wpAny_Name (wpAny_loadName_local I.ok.kind w N P t) hd]
 .rcases w with w|w
  .erw[wpAny_Name (wpAny_loadName_cell I.ok.kind w g j t) hd]
  .erw[wpAny_Name (wpAny_loadName_free I.ok.kind w g j t z) hd]
def pe_int{i j l}:PE X (.Constant (.int i) j l) (tC (.int i)):=λ_ _ _ H _ I h=>wpAny_Constant_int ⟨.int i,H,I.tok _,⟨_,rfl⟩,h⟩
def pe_bl{b j l}:PE X (.Constant (.bool b) j l) (tC (.bl b)):=λ_ _ _ H _ I h=>Constant_bool ⟨.bl b,H,I,rfl,h⟩
def pe_non{j l}:PE X (.Constant .none j l) (tC .non):=λ_ _ _ H _ I h=>Constant_none ⟨.non,H,I,rfl,h⟩
def pe_str{x j l}:PE X (.Constant (.str x) j l) (tC (.str x)):=λ_ _ _ H _ I h=>Calls.Constant_str ⟨.str x,H,I.tok _,⟨_,rfl⟩,h⟩
def Gl(X:Cx)(x:Str):Prop:=X.env.kindOf x=wc .globalImplicit
def VE{s:X0}(I:Inv X pj σ H s)(j:Gl X x)(l:X.mg x=wc u)(h:Q u s)
  (hd:(x==("__debug__":Str))=wg:=by decide):X3 (X4 X.prog X.w) X.A (eval (.Name x pos) X.env) Q E s:=
 FV I.ok.kind j (Calls.loadGlobal_global (by rw[I.ok.glob];erw[I.mod.glob.keeps I.bk]) l h) hd
def U7{s:X0}(I:Inv X pj σ H s)(j:Gl X x)(l:X.mg x=we)(t:Ym x=wc u)(h:Q u s)
  (w:x≠"__name__":=by decide)(hd:(x==("__debug__":Str))=wg:=by decide):X3 (X4 X.prog X.w) X.A (eval (.Name x pos) X.env) Q E s:=by
 have⟨m,y,z⟩:=I.mod.blt;erw[FV I.ok.kind j (Calls.loadGlobal_builtin (by rw[I.ok.glob];erw[I.mod.glob.keeps I.bk]) l (by rw[I.ok.blt];erw[y.keeps I.bk]) ((z x w).trans t) h) hd]
def G4{x:Str}{v:V}{u:Value}{j:Pos}(l:Gl X x)(t:X.mg x=wc u)(r:RelV v u)(hd:(x==("__debug__":Str))=wg:=by decide):PE X (.Name x j) (tC v):=
 λ_ _ _ H _ I h=>VE I l t ⟨v,H,I,r,h⟩ hd
def PC{x:Str}{v:V}{u:Value}{j:Pos}(l:Gl X x)(t:X.mg x=we)(w:Ym x=wc u)(r:RelV v u)(y:x≠"__name__":=by decide)(hd:(x==("__debug__":Str))=wg:=by decide):PE X (.Name x j) (tC v):=
 λ_ _ _ H _ I h=>U7 I l t w ⟨v,H,I,r,h⟩ y hd
variable{a b:Expr}{ta tb:TE}{pos:Pos}
def tB(t:TE):TT:=λj H Q=>t j H λx l=>∃c,x=.bl c/\Q c l
def PD{e:Expr}{t:TE}(h:PE X e t)(l:∀j,isTrue e X.env j=(do let v<- j;standAt e.pos;Z8 [v] (truthy v)):=by intro _;rfl):PT X e (tB t):=by
 intro u s w H Q I y;erw[isTrue_plain (thn (h u s w H _ I y) λv f z=>?_) (l _)];have⟨x,m,g,r1,c⟩:=z;have⟨d,rfl,q⟩:=c;cases r1;erw[Zx ⟨m,g,q⟩]
variable{tA tB':TT}{rest:List Expr}
def tAnd(t u:TT):TT:=λj H Q=>t j H λc l=>if c=wf then u j l Q else Q wg l
def tOr(t u:TT):TT:=λj H Q=>t j H λc l=>if c=wf then Q wf l else u j l Q
def tNot(t:TT):TT:=λj H Q=>t j H λc l=>Q (!c) l
def pw_and1(j:PT X a tA):PW X (.BoolOp .And [a] pos) tA:=by
 intro u l s t H Q I h;erw[isTrue_and (thn (j l s t H Q I h) λc w e=>?_)];cases c with
 |true=>erw[isTrue_and_nil e]
 |false=>erw[e]
def pw_or1(j:PT X a tA):PW X (.BoolOp .Or [a] pos) tA:=by
 intro u l s t H Q I h;erw[isTrue_or (thn (j l s t H Q I h) λc w e=>?_)];cases c with
 |false=>erw[isTrue_or_nil e]
 |true=>erw[e]
def pw_and(y:PT X a tA)(z:PW X (.BoolOp .And (b::rest) pos) tB'):PW X (.BoolOp .And (a::b::rest) pos) (tAnd tA tB'):=by
 intro m j s l H Q I h;erw[isTrue_and (thn (y j s l H _ I h) λc g d=>?_)];have⟨t,u,w⟩:=d;cases c with
 |true=>erw[z m j g l t Q u w]
 |false=>erw[⟨t,u,w⟩]
def pw_or(y:PT X a tA)(z:PW X (.BoolOp .Or (b::rest) pos) tB'):PW X (.BoolOp .Or (a::b::rest) pos) (tOr tA tB'):=by
 intro m j s l H Q I h;erw[isTrue_or (thn (y j s l H _ I h) λc g d=>?_)];have⟨t,u,w⟩:=d;cases c with
 |true=>erw[⟨t,u,w⟩]
 |false=>erw[z m j g l t Q u w]
def PF(j:PT X a tA):PT X (.UnaryOp .Not a pos) (tNot tA):=by
 intro l s t H Q I h;erw[isTrue_not (j l s t H (λc u=>Q (!c) u) I h)]
def PH(ta tb:TE):TE:=λj H Q=>ta j H λx l=>∃c,x=.bl c/\if c=wf then tb j l Q else Q (.bl wg) l
def tOrV(ta tb:TE):TE:=λj H Q=>ta j H λx l=>∃c,x=.bl c/\if c=wf then Q (.bl wf) l else tb j l Q
def PJ(ta:TE):TE:=λj H Q=>ta j H λx l=>∃c,x=.bl c/\Q (.bl (!c)) l
def G5{j}{t:TE}(h:PE X a t):PE X (.BoolOp j [a] pos) t:=λl s u H Q I w=>BoolOp_one (h l s u H Q I w)
def PK(y:PE X a ta)(z:PE X (.BoolOp .And (b::rest) pos) tb):PE X (.BoolOp .And (a::b::rest) pos) (PH ta tb):=by
 intro l s t H Q I h;erw[BoolOp_and (thn (y l s t H _ I h) λv m g=>?_)];have⟨x,u,w,r1,j⟩:=g;have⟨c,rfl,j⟩:=j;cases r1;erw[Zx ?_];cases c with
 |true=>erw[z l m t u Q w j]
 |false=>erw[⟨.bl wg,u,w,rfl,j⟩]
def PL(y:PE X a ta)(z:PE X (.BoolOp .Or (b::rest) pos) tb):PE X (.BoolOp .Or (a::b::rest) pos) (tOrV ta tb):=by
 intro l s t H Q I h;erw[BoolOp_or (thn (y l s t H _ I h) λv m g=>?_)];have⟨x,u,w,r1,j⟩:=g;have⟨c,rfl,j⟩:=j;cases r1;erw[Zx ?_];cases c with
 |false=>erw[z l m t u Q w j]
 |true=>erw[⟨.bl wf,u,w,rfl,j⟩]
def PM(l:PE X a ta):PE X (.UnaryOp .Not a pos) (PJ ta):=by
 intro t s u H Q I h;erw[UnaryOp_ (thn (l t s u H _ I h) λv m w=>?_)];have⟨x,y,z,r1,j⟩:=w;have⟨c,rfl,j⟩:=j;cases r1;erw[not_of (Zx ⟨.bl (!c),y,z,rfl,j⟩)]
def tIf(t:TT)(ta tb:TE):TE:=λj H Q=>t j H λc l=>if c=wf then ta j l Q else tb j l Q
def PN{c:Expr}(z:PT X c tA)(m:PE X a ta)(g:PE X b tb):PE X (.IfExp c a b pos) (tIf tA ta tb):=by
 intro j s l H Q I h;erw[wpAny_IfExp (thn (z j s l H _ I h) λd t f=>?_)];have⟨u,w,y⟩:=f;cases d with
 |true=>erw[m j t l u Q w y]
 |false=>erw[g j t l u Q w y]
end
def SqL(K:X1)(H:Hp)(a:Addr)(l:List V):Prop:=
 Rd H a (.lst l)\/
  ∃(o:Obj) (j:Array Value) (n:Nat),K.lookup a=wc o/\o.cls=.type "list"/\o.dict=we/\o.data=.seq j n/\j.size<=sizeLine/\Vals l j.toList
def SqT(K:X1)(H:Hp)(a:Addr)(l:List V):Prop:=
 Rd H a (.tup l)\/
  ∃(o:Obj) (j:Array Value) (n:Nat),K.lookup a=wc o/\o.cls=.type "tuple"/\o.data=.seq j n/\j.size<=sizeLine/\Vals l j.toList
noncomputable def absV:Value->Option V
 |.none=>wc .non
 |.bool b=>wc (.bl b)
 |.int i _=>wc (.int i)
 |.str x _=>wc (.str x)
 |.bytes b _=>wc (.byt b)
 |.float b _=>wc (.flt b)
 |.ref a=>wc (.ref a)
 |.type n=>wc (.ty n)
 |_=>we
def RelV.abs(r:RelV x u):absV u=wc x:=by
 cases x with
 |non=>cases r;rfl
 |bl _=>cases r;rfl
 |int _=>have⟨t,rfl⟩:=r;rfl
 |str _=>have⟨t,rfl⟩:=r;rfl
 |byt _=>have⟨t,rfl⟩:=r;rfl
 |flt _=>have⟨t,rfl⟩:=r;rfl
 |ref _=>cases r;rfl
 |ty _=>cases r;rfl
def RelV.inj(r:RelV x u)(q:RelV y u):x=y:=Y6 (r.abs.symm.trans q.abs)
theorem Vals.inj:∀{xs j:List V} {us:List Value},Vals xs us->Vals j us->xs=j
 |_,_,_,.nil,.nil=>rfl
 |_,_,_,.cons r t,.cons r' t'=>by rw[r.inj r',Vals.inj t t']
section
variable{X:Cx}{pj:List (Addr×Obj)}{σ:St}{H:Hp}{s:X0}{a:Addr}{xs ys:List V}
def SqL.of{K:X1}(h:H a=wc (.lst xs)):SqL K H a xs:=.inl (.inl h)
def SqT.of{K:X1}(h:H a=wc (.tup xs)):SqT K H a xs:=.inl (.inl h)
def Inv.list(I:Inv X pj σ H s)(h:SqL X.K H a xs):∃j:List Value,Vals xs j/\PlainL s.heap a j.toArray/\xs.length<=sizeLine:=by
 rcases h with h|⟨o,j,n,l,t,hd,u,w,r⟩
 .have⟨z,j,n,r,e⟩:=h.ok I.hok;erw[⟨j,r,⟨_,n,e,rfl,rfl,rfl⟩,z⟩]
 .erw[⟨j.toList,r,⟨o,n,I.kIn a o l,t,hd,by simpa using u⟩,?_⟩]
  have e:=r.length;simp only[Yb]at e;lia
def Inv.tuple(I:Inv X pj σ H s)(h:SqT X.K H a xs):∃j:List Value,Vals xs j/\IsTup s.heap a j.toArray/\xs.length<=sizeLine:=by
 rcases h with h|⟨o,j,n,l,t,u,w,r⟩
 .have⟨z,j,r,p⟩:=h.ok I.hok;erw[⟨j,r,p.1,z⟩]
 .erw[⟨j.toList,r,⟨o,I.kIn a o l,t,n,by simpa using u⟩,?_⟩]
  have e:=r.length;simp only[Yb]at e;lia
def Inv.list_inj(I:Inv X pj σ H s)(h:SqL X.K H a xs)(w:SqL X.K H a ys):xs=ys:=by
 have⟨l,r,⟨o,n,e,_,_,d⟩,_⟩:=I.list h;have⟨j,y,⟨z,m,t,_,_,u⟩,_⟩:=I.list w;rw[e]at t;cases t;rw[d]at u;injection u with d1 _;have:l=j:=by simpa using congrArg Array.toList d1
 subst this;erw[r.inj y]
def Inv.tuple_inj(I:Inv X pj σ H s)(h:SqT X.K H a xs)(w:SqT X.K H a ys):xs=ys:=by
 have⟨l,r,⟨o,e,_,n,d⟩,_⟩:=I.tuple h;have⟨j,y,⟨z,t,_,m,u⟩,_⟩:=I.tuple w;rw[e]at t;cases t;rw[d]at u;injection u with d1 _;have:l=j:=by simpa using congrArg Array.toList d1
 subst this;erw[r.inj y]
end
noncomputable abbrev Cx.wish(X:Cx)(E:Value->X0->Prop):Cx:={X with xe:=E}
noncomputable abbrev Cx.nox(X:Cx):Cx:=X.wish λ_ _=>False
theorem Cx.Ok.wish{X:Cx}(ok:X.Ok)(E:Value->X0->Prop):(X.wish E).Ok:=
 ⟨ok.mod,ok.kind,ok.glob,ok.blt,ok.above,ok.inj,ok.has,ok.cab,ok.hd,ok.frames,ok.stk,ok.exf,ok.bs,ok.bsz,ok.noex,ok.exfs,ok.funs,ok.frf⟩
def Cx.Ok.unwish{X:Cx}{E:Value->X0->Prop}(ok:(X.wish E).Ok):X.Ok:=
 ⟨ok.mod,ok.kind,ok.glob,ok.blt,ok.above,ok.inj,ok.has,ok.cab,ok.hd,ok.frames,ok.stk,ok.exf,ok.bs,ok.bsz,ok.noex,ok.exfs,ok.funs,ok.frf⟩
section
variable{X:Cx}{pj:List (Addr×Obj)}{σ:St}{H:Hp}{s:X0}{E:Value->X0->Prop}
theorem Inv.wish(I:Inv X pj σ H s)(E:Value->X0->Prop):Inv (X.wish E) pj σ H s:=⟨I.ok.wish E,I.os,I.bare,I.base,I.loc,I.cell,I.free,I.freeC,I.pin,I.hok,I.len⟩
theorem Inv.unwish(I:Inv (X.wish E) pj σ H s):Inv X pj σ H s:=⟨I.ok.unwish,I.os,I.bare,I.base,I.loc,I.cell,I.free,I.freeC,I.pin,I.hok,I.len⟩
theorem SP.unwish(h:SP (X.wish E) pj D f s'):SP X pj D f s':=by
 cases f with
 |next=>have⟨j,l,I,q⟩:=h;erw[⟨j,l,I.unwish,q⟩]
 |brk=>have⟨j,l,I,q⟩:=h;erw[⟨j,l,I.unwish,q⟩]
 |cont=>have⟨j,l,I,q⟩:=h;erw[⟨j,l,I.unwish,q⟩]
 |ret u=>have⟨v,j,l,I,r,q⟩:=h;erw[⟨v,j,l,I.unwish,r,q⟩]
theorem PE.nox{e:Expr}{t:TE}(h:PE X.nox e t):PE X e t:=λpj s σ H Q I j=>
 Yd (h pj s σ H Q (I.wish _) j) (λ_ _ l=>by have⟨v,u,w,r,q⟩:=l;erw[⟨v,u,w.unwish,r,q⟩]) λ_ _ z=>XN z
theorem PT.nox{e:Expr}{t:TT}(h:PT X.nox e t):PT X e t:=λpj s σ H Q I j=>
 Yd (h pj s σ H Q (I.wish _) j) (λ_ _ l=>by have⟨u,w,q⟩:=l;erw[⟨u,w.unwish,q⟩]) λ_ _ z=>XN z
theorem PSs.nox{st:List Stmt}{t:TS}(h:PSs X.nox st t):PSs X st t:=λpj s σ H D I j=>
 Yd (h pj s σ H D (I.wish _) j) (λ_ _ q=>q.unwish) λ_ _ z=>XN z
end
section
variable{X:Cx}{st:Stmt}{rest:List Stmt}{t u:TS}{e:Expr}{te:TE}{pos:Pos}
def PP:TS:=λD j H=>D.nx j H
def tSeq(t u:TS):TS:=λD j H=>t {D with nx:=u D} j H
def pss_nil:PSs X [] PP:=λ_ _ j H _ I h=>Ap ⟨j,H,I,h⟩
def Bx(w:PS X st t)(y:PSs X rest u):PSs X (st::rest) (tSeq t u):=by
 intro l s z H D I h;erw[Aq (thn (w l s z H {D with nx:=u D} I h) λf m q=>?_)];cases f with
 |next=>
  have⟨j,g,d,q⟩:=q;erw[y l m j g D d q]
 |ret v=>erw[q]
 |brk=>erw[q]
 |cont=>erw[q]
def PQ(j:PS X st t):PSs X [st] t:=by
 intro l s w H D I h;erw[Aq (thn (j l s w H D I h) λf y q=>?_)];cases f with
 |next=>erw[Ap q]
 |ret v=>erw[q]
 |brk=>erw[q]
 |cont=>erw[q]
def Inv.quiet{s:X0}(I:Inv X pj σ H s):interactive X.env=wg:=by simp[interactive,I.ok.kind]
def PR(te:TE):TS:=λD j H=>te j H λ_ l=>D.nx j l
def G6(l:PE X e te)(w:Zy e we pos.line X.env=pure wg:=by rfl):PS X (.Expr e pos) (PR te):=by
 intro y s j H D I h;erw[wpAny_Expr_any (thn (l y s j H _ I h) λv d ⟨x,z,m,r1,g⟩=>⟨j,z,m,g⟩) I.quiet w]
def tRet(te:TE):TS:=λD j H=>te j H D.rt
def Dk(l:PE X e te):PS X (.Return (wc e) pos) (tRet te):=by
 intro w s j H D I h;erw[wpAny_Return_some (thn (l w s j H _ I h) λv g ⟨x,y,z,r1,m⟩=>⟨x,j,y,z,r1,m⟩)]
def tIfS(c:TT)(t u:TS):TS:=λD j H=>c j H λb l=>if b=wf then t D j l else u D j l
def G7{c:Expr}{a b:List Stmt}{w:TT}(f:PT X c w)(r:PSs X a t)(p:PSs X b u):PS X (.If c a b pos) (tIfS w t u):=by
 intro j s l H D I h;erw[wpAny_If (thn (f j s l H _ I h) λd y L=>?_)];have⟨z,m,g⟩:=L;cases d with
 |true=>erw[r j y l z D m g]
 |false=>erw[p j y l z D m g]
def PU:TS:=λ_ _ _=>False
def ps_never:PS X st PU:=λ_ _ _ _ _ _ h=>h.elim
end
abbrev TG:=V->St->Hp->(St->Hp->Prop)->Prop
abbrev TGs:=List V->St->Hp->(St->Hp->Prop)->Prop
def PG(X:Cx)(j:Expr)(t:TG):Prop:=
 ∀(w:List (Addr×Obj))(s:X0)(y:St)(H:Hp)(v:V)(u:Value)(Q:St->Hp->Prop),Inv X w y H s->RelV v u->t v y H Q->
  X3 (X4 X.prog X.w) X.A (assign j X.env u) (λ_ m=>∃l z,Inv X w l z m/\Q l z) X.xe s
def PGs(X:Cx)(m:List Expr)(t:TGs):Prop:=
 ∀(l:List (Addr×Obj))(s:X0)(u:St)(H:Hp)(w:List V)(y:List Value)(Q:St->Hp->Prop),Inv X l u H s->Vals w y->t w u H Q->
  X3 (X4 X.prog X.w) X.A (assignInOrder ((Zz m X.env).map (·.2)) y) (λ_ g=>∃j z,Inv X l j z g/\Q j z) X.xe s
abbrev TSet:=V->V->V->Hp->(Hp->Prop)->Prop
def PSet(X:Cx)(t:TSet):Prop:=
 ∀(j:List (Addr×Obj))(s:X0)(l:St)(H:Hp)(o i v:V)(w y u:Value)(Q:Hp->Prop),Inv X j l H s->RelV o w->RelV i y->RelV v u->t o i v H Q->
  X3 (X4 X.prog X.w) X.A (setItem w y u) (λ_ m=>∃z,Inv X j l z m/\Q z) X.xe s
section
variable{X:Cx}{pos:Pos}
def By(i:Nat):TG:=λv j H Q=>Q (j.set i (wc v)) H
def G8(j:X.N.Nodup)(l:X.N[i]?=wc x)(t:Loc X.env.scope x)(w:X.fn x=wf\/X.env.scope.names.lookup x=wc .local:=by first|erw[.inl rfl]|erw[.inr rfl]|assumption):PG X (.Name x pos) (By i):=by
 intro z s m H v u Q I r h;erw[wpAny_assign_Name (Dj I j l t r (λg y=>⟨_,H,y,h⟩) w)]
def gNil:TGs:=λj l H Q=>j=[]/\Q l H
def G9(t:TG)(u:TGs):TGs:=λl w H Q=>∃v r,l=v::r/\t v w H λj y=>u r j y Q
def PV:PGs X [] gNil:=by
 intro l s j H t u Q I r h;have⟨e,h⟩:=h;subst e;cases r;erw[assignInOrder_nil ⟨j,H,I,h⟩]
def PX{e:Expr}{j:List Expr}{t:TG}{u:TGs}(y:PG X e t)(z:PGs X j u)
  (m:(Zz (e::j) X.env).map (·.2)=assign e X.env::(Zz j X.env).map (·.2):=by rfl):PGs X (e::j) (G9 t u):=by
 intro w s g H P R Q I r h;have⟨v,T,d,h⟩:=h;subst d;cases r with
 |cons r c=>
  rw[m];erw[assignInOrder_cons (thn (y w s g H _ _ _ I r h) λ_ f p=>?_)];have⟨l,L,N,O⟩:=p;erw[z w f l L _ _ Q N c O]
def gTup(K:X1)(n:Nat)(t:TGs):TG:=λv l H Q=>∃a j,v=.ref a/\SqT K H a j/\j.length=n/\t j l H Q
def PY{k:Nat}{t:TGs}(m:X.calm=wf)(h:PGs X es t)
  (g:(Zz es X.env).length=n:=by rfl)(j:(Zz es X.env).findIdx? (·.1)=we:=by rfl):PG X (.Tuple es k pos) (gTup X.K n t):=by
 intro w s y H v u Q I r l;have⟨a,d,c,f,p,l⟩:=l;subst c;cases r;have⟨L,z,N,T⟩:=I.tuple f;erw[assign_Tuple_tuple (I.ok.hd m) N (by simp[g,<-p,z.length]) j λO P=>?_]
 have R:Inv X w y H {s with heap:=O}:=I.kept (t':=s.toks) λb o e=>P b o (XE (Xu e)) e;erw[h w _ y H d _ Q R (by simpa using z) l]
def gSub(to l:TE)(t:TSet):TG:=λv j H Q=>to j H λo u=>l j u λi w=>t o i v w λy=>Q j y
def PZ{o i:Expr}{to g:TE}{t:TSet}(d:PE X o to)(c:PE X i g)(f:PSet X t)
  (p:∀v,assign (.Subscript o i pos) X.env v=(do
   let j<- Z8 [v] (eval o X.env)
   let w<- Z8 [v,j] (eval i X.env)
   standAt pos
   Z8 [v,j,w] (setItem j w v)
   release [v,j,w] []):=by intro _;rfl):PG X (.Subscript o i pos) (gSub to g t):=by
 intro m s z H v u Q I r h;rw[p];erw[X2 (YI (thn (d m s z H _ I h) λj e l=>?_))];have⟨x,L,N,r1,O⟩:=l;erw[X2 (YI (thn (c m e z L _ N O) λw P l=>?_))];have⟨y,R,T,U,W⟩:=l;erw[X2 (wpAny_standAt (X2 (YI (thn (f m P z R x y v j w u _ T r1 U r W) λ_ B l=>?_))))];have⟨Y,Z,A⟩:=l;erw[wpAny_release ⟨z,Y,Z,A⟩]
def tAsg(l:TE)(g:TG):TS:=λD j H=>l j H λx t=>g x j t D.nx
def Ga{j e:Expr}{l:TE}{g:TG}(w:PE X e l)(y:PG X j g)(z:swapsWithSole [j] e pos.line X.env=pure wg:=by rfl)(hw:swappedStores [j] e X.env=pure we:=by rfl)
  (m:(Zz [j] X.env).map (·.2)=[assign j X.env]:=by rfl):PS X (.Assign [j] e pos) (tAsg l g):=by
 intro t s u H D I h;erw[wpAny_Assign_stores (thn (w t s u H _ I h) λv d c=>?_) z hw];have⟨x,f,r,r1,p⟩:=c;rw[m];erw[thn (y t d u f x v _ r r1 p) λ_ L q=>q]
def Bz{i:Nat}{x:Str}{e:Expr}{l:TE}{j:Pos}(t:X.N.Nodup)(u:X.N[i]?=wc x)(w:Loc X.env.scope x)(z:PE X e l)(m:Zy e (wc (.Name x j)) pos.line X.env=pure wg:=by rfl)(g:X.fn x=wf\/X.env.scope.names.lookup x=wc .local:=by first|erw[.inl rfl]|erw[.inr rfl]|assumption):
  PS X (.Assign [.Name x j] e pos) (tAsg l (By i)):=by
 intro d s c H D I h;erw[wpAny_Assign_Name (thn (z d s c H _ I h) λv O f=>?_) m];have⟨y,r,p,r1,L⟩:=f;erw[Dj p t u w r1 (λP N=>⟨_,r,N,L⟩) g]
def Q0(c:TT)(y:TS):TS:=λD j H=>∃W:Nat->St->Hp->Prop,(∃m,W m j H)/\∀m j H,W m j H->
 c j H λb t=>if b=wf then∃N:St->Hp->Prop,(∀l u,N l u->∃w,w<m/\W w l u)/\y {D with nx:=N,ct:=N,bk:=D.nx} j t else D.nx j t
def Q1{c:Expr}{t:List Stmt}{O:TT}{P:TS}(R:PassesOwn (X4 X.prog X.w) X.A X.env X.xe)(B:PT X c O)(C:PSs X t P):PS X (.While c t [] pos) (Q0 O P):=by
 intro g s E H D I h;have⟨W,⟨F,G⟩,u⟩:=h;erw[wpAny_While (codeAny_whileLoop (λn J=>∃w T,Inv X g w T J/\W n w T) ?_ F ⟨E,H,I,G⟩)];rintro n M ⟨l,U,Q,S⟩;erw[UJ R (thn (B g M l U _ Q (u n l U S)) λb o i=>?_)];have⟨Y,Z,z⟩:=i;cases b with
 |true=>
  have⟨N,A,z⟩:=z;rw[if_pos rfl];erw[UJ R (thn (C g o l Y _ Z z) λf x m=>?_)];cases f with
  |next=>
   have⟨j,y,d,r⟩:=m;have⟨p,e,L⟩:=A j y r;erw[⟨p,e,j,y,d,L⟩]
  |cont=>
   have⟨j,y,d,r⟩:=m;have⟨p,e,L⟩:=A j y r;erw[⟨p,e,j,y,d,L⟩]
  |brk=>erw[m]
  |ret v=>erw[m]
 |false=>
  rw[if_neg Xx];erw[Ap ⟨l,Y,Z,z⟩]
end
structure It where
 go:Nat->Hp->Prop
 yld:Nat->Hp->V->Hp->Prop
 stop:Nat->Hp->Prop
def FpOk(X:Cx)(j:List (Addr×Obj))(H:Hp)(b:Addr):Prop:=
 H b=we/\b≠X.env.locals/\b∉X.fs/\(b∈X.ex\/X.s₀.heap.objs.size<=b)/\(∀x c,X.env.cells.lookup x=wc c->c≠b)/\∀p∈X.pn++j,p.1≠b
def Inv.fpOk{s:X0}(I:Inv X pj σ H s)(j:s.heap.objs.size<=b)(l:H' b=we):FpOk X pj H' b:=by
 erw[⟨l,B0 (Yu I.lt j),I.nofs j,.inr (XA I.sz j),λx c e z=>?_,λp t z=>?_⟩]
 .have⟨v,q⟩:=I.cell x c e;erw[absurd (Yu q.lt (by rw[z];erw[j])) (U1 _)]
 .erw[absurd (Yu (Xu (I.pin p t).1) (by rw[z];erw[j])) (U1 _)]
structure Turn (P:Xk)(w:Xe)(K:X1)(tg:Expr)(J:It)(fp:List Addr)(it:Addr)(tn:Nat->Heap->Prop):Prop where
 mem:it∈fp
 obj:∀i h,tn i h->∀b∈fp,∃o,h.get? b=wc o/\∀v,o.data≠.cell v
 keep:∀i h h',tn i h->(∀b∈fp,∀o,h.get? b=wc o->h'.get? b=wc o)->tn i h'
 item:∀(X:Cx),X.prog=P->X.w=w->X.K=K->X.calm=wf->∀(i:Nat)(pj:List (Addr×Obj))(s:X0)(σ:St)(H:Hp)(E:Value->X0->Prop),Inv X pj σ H s->(∀b∈fp,FpOk X pj H b)->tn i s.heap->J.go i H->
  X3 (X4 P w) X.A (pyNext (.ref it)) (λr s1=>∃u,r=wc u/\
   X3 (X4 P w) X.A (Ar tg (.ref it) u) (λ_ s2=>∃x H',Inv X pj σ H' s2/\RelV x u/\J.yld i H x H'/\tn (i+1) s2.heap/\∀b∈fp,H' b=we) E s1) E s
 done:∀(X:Cx),X.prog=P->X.w=w->X.K=K->X.calm=wf->∀(i:Nat)(pj:List (Addr×Obj))(s:X0)(σ:St)(H:Hp)(E:Value->X0->Prop),Inv X pj σ H s->(∀b∈fp,FpOk X pj H b)->tn i s.heap->J.stop i H->
  X3 (X4 P w) X.A (pyNext (.ref it)) (λr s1=>r=we/\Inv X pj σ H s1) E s
 self:∀(A:Xp)(i:Nat)(s:X0)(Q:Value->X0->Prop)(E:Value->X0->Prop),tn i s.heap->Q (.ref it) s->X3 (X4 P w) A (pyIter (.ref it)) Q E s
abbrev TI:=St->Hp->(It->Hp->Prop)->Prop
def PIE(X:Cx)(t:List (Addr×Obj))(m:St)(g:Expr)(R:It->Hp->Prop)(j:Value)(u:X0):Prop:=
 ∃(w:Addr) (y:List Addr) (z:Nat->Heap->Prop) (J:It) (l:Hp),j=.ref w/\Inv X t m l u/\Turn X.prog X.w X.K g J y w z/\z 0 u.heap/\(∀b∈y,FpOk X t l b)/\R J l
def PI(X:Cx)(u j:Expr)(w:TI):Prop:=
 ∀(t:List (Addr×Obj))(s:X0)(l:St)(H:Hp)(R:It->Hp->Prop),Inv X t l H s->w l H R->
  X3 (X4 X.prog X.w) X.A (eval j X.env) (λv y=>X3 (X4 X.prog X.w) X.A (pyIter v) (PIE X t l u R) X.xe y) X.xe s
def WG{s:X0}(l:s.heap.get? it=wc o)(t:o.cls=.type n)(hd:o.data=.fields vs)
  (w:["enumerate","zip","dict_itemiterator","dict_reverseitemiterator","odict_iterator","itertools.zip_longest","itertools.pairwise"].contains n=wg)(j:Q () s):X3 M A (Ar tg (.ref it) u) Q E s:=by
 unfold Ar;cases tg<;>first
  |erw[X8 j]
  |(cases u<;>first
    |erw[X8 j]
    |(erw[X2 (wpAny_load l ?_)]
      rw[t,hd];show X3 M A (if(["enumerate","zip","dict_itemiterator","dict_reverseitemiterator","odict_iterator","itertools.zip_longest","itertools.pairwise"].contains n&&vs[0]?==wc (Y3 _))=wf then _ else _) Q E s;rw[if_neg (by intro h;rw[w,Wv]at h;cases h)]
      erw[X8 j]))
noncomputable def Itl(K:X1)(a:Addr):It:=
 ⟨λi H=>∃j x,SqL K H a j/\j[i]?=wc x,λi H x l=>l=H/\∀j,SqL K H a j->j[i]?=wc x,λi H=>∃j,SqL K H a j/\j.length<=i⟩
noncomputable def Itt(K:X1)(a:Addr):It:=
 ⟨λi H=>∃j x,SqT K H a j/\j[i]?=wc x,λi H x l=>l=H/\∀j,SqT K H a j->j[i]?=wc x,λi H=>∃j,SqT K H a j/\j.length<=i⟩
noncomputable def Itr(lo:Int)(n:Nat):It:=⟨λi _=>i<n,λi H x j=>j=H/\x=.int (lo+i),λi _=>n<=i⟩
def Q2{K:X1}(a j:Addr):Turn P w K tg (Itl K a) [j] j (λi h=>h.IsListIter j a i)where
 mem:=by simp
 obj:=λi h st b l=>by
  have e:b=j:=by simpa using l
  subst e;have⟨o,e,c,d⟩:=st;erw[⟨o,e,λv z=>by rw[d]at z;cases z⟩]
 keep:=λi h y st k=>st.at λo e=>k j (by simp) o e
 item:=by
  intro X f r L A i B s C H E I m st N;subst f r L;have⟨D,x,g,O⟩:=N;have⟨R,T,p,F⟩:=I.list g;have⟨u,G,J⟩:=T.get O;have⟨f0,U,M,W,Y,Z⟩:=m j (by simp)
  erw[wpAny_pyNext_list_item st p.isList (x:=u) (by simpa using G) λy t Q=>?_]
  have S:Inv X B C H {s with heap:=y}:=I.turned (y:=s.toks) (λb o l e=>(Q.2 b l).trans e) f0 U W Y Z;have⟨o,e,c,d⟩:=id t;erw[⟨u,rfl,WG (s:={s with heap:=y}) e c d (by decide) ⟨x,H,S,J,⟨rfl,λys n=>by rw[I.list_inj n g];erw[O]⟩,t,λb l=>(m b l).1⟩⟩]
 done:=by
  intro X f r L A i B s C H E I m st N;subst f r L;have⟨D,g,O⟩:=N;have⟨R,T,p,F⟩:=I.list g;have⟨f0,U,M,W,Y,Z⟩:=m j (by simp)
  have hl:=T.length;erw[wpAny_pyNext_list_end (I.ok.hd A) st p.isList (by simp;lia) λy eb=>⟨rfl,I.turned (y:=s.toks) (λb o l e=>eb b o l e) f0 U W Y Z⟩]
 self:=λ_ _ _ _ _ st h=>wpAny_pyIter_listiter st h
def Q3{K:X1}(a j:Addr):Turn P w K tg (Itt K a) [j] j (λi h=>h.IsTupleIter j a i)where
 mem:=by simp
 obj:=λi h st b l=>by
  have e:b=j:=by simpa using l
  subst e;have⟨o,e,c,d⟩:=st;erw[⟨o,e,λv z=>by rw[d]at z;cases z⟩]
 keep:=λi h m st k=>st.at λo e=>k j (by simp) o e
 item:=by
  intro X r L N A i B s C H E I g st O;subst r L N;have⟨D,x,f,R⟩:=O;have⟨t,T,p,F⟩:=I.tuple f;have⟨u,G,J⟩:=T.get R;have⟨f0,U,M,W,Y,Z⟩:=g j (by simp)
  erw[wpAny_pyNext_tuple_item st (show s.heap.IsTuple a t.toArray from p) (x:=u) (by simpa using G) λm y Q=>?_]
  have S:Inv X B C H {s with heap:=m}:=I.turned (y:=s.toks) (λb o l e=>(Q.2 b l).trans e) f0 U W Y Z;have⟨o,e,c,d⟩:=id y;erw[⟨u,rfl,WG (s:={s with heap:=m}) e c d (by decide) ⟨x,H,S,J,⟨rfl,λys n=>by rw[I.tuple_inj n f];erw[R]⟩,y,λb l=>(g b l).1⟩⟩]
 done:=by
  intro X r L N A i B s C H E I g st O;subst r L N;have⟨D,f,R⟩:=O;have⟨t,T,p,F⟩:=I.tuple f;have⟨f0,U,M,W,Y,Z⟩:=g j (by simp)
  have hl:=T.length;erw[wpAny_pyNext_tuple_end (I.ok.hd A) st (show s.heap.IsTuple a t.toArray from p) (by simp;lia) λm eb=>⟨rfl,I.turned (y:=s.toks) (λb o l e=>eb b o l e) f0 U W Y Z⟩]
 self:=λ_ _ _ _ _ st h=>wpAny_pyIter_tupleiter st h
def Q4{K:X1}(j:Addr)(lo:Int)(n:Nat):Turn P w K tg (Itr lo n) [j] j (λi h=>IsRangeIter h j (lo+(i:Nat)*1) ((n:Int) - (i:Nat)) 1)where
 mem:=by simp
 obj:=λi h st b l=>by
  have e:b=j:=by simpa using l
  subst e;erw[⟨_,st,λv z=>by
   have Y:Data.fields _=Data.cell v:=z;cases Y⟩]
 keep:=λi h y st k=>k j (by simp) _ st
 item:=by
  intro X g d c f i R s T H E I m st r;subst g d c;have⟨f0,p,Z,L,N,O⟩:=m j (by simp)
  have W:=Walks.range (prog:=X.prog) (w:=X.w) (I.ok.hd f) j lo 1 n;erw[W.item i s _ _ r st λv y U A u B=>?_];have⟨t,rfl⟩:=A;have C:Inv X R T H {s with heap:=y,toks:=U}:=I.turned (λb o l e=>B b o (by simpa using l) e) f0 p L N O
  erw[⟨_,rfl,WG (s:={s with heap:=y,toks:=U}) (n:="range_iterator") u rfl rfl (by decide) ⟨.int (lo+i),H,C,⟨t,?_⟩,⟨rfl,rfl⟩,u,fun b l=>(m b l).1⟩⟩]
  rw[Int.mul_one]
 done:=by
  intro X g d c f i R s T H E I m st r;subst g d c;have⟨f0,p,Z,L,N,O⟩:=m j (by simp)
  erw[wpAny_pyNext_range_end (I.ok.hd f) st (by have:n<=i:=r;lia) λy D=>⟨rfl,I.turned (y:=s.toks) (λb o l e=>D b o l e) f0 p L N O⟩]
 self:=λ_ _ _ _ _ st h=>wpAny_pyIter_rangeiter st h
section
variable{X:Cx}{tg:Expr}
def Q5{s:X0}{lo:Int}{t:Tok}(I:Inv X pj σ H s)(l:-(2^62)<=lo)(w:lo<2^62)(y:-(2^62)<=hi)(z:hi<2^62)
  (q:R (Itr lo (hi - lo).toNat) H):X3 (X4 X.prog X.w) X.A (pyIter (.ref s.heap.objs.size)) (PIE X pj σ tg R) E {s with heap:=s.heap.push {cls:=.type "range",data:=.fields #[.int lo t,.int hi u,.int 1 v]},toks:=tk}:=by
 erw[wpAny_pyIter_range (IsRange.new ..) (small_one l w y z) ?_];have j:Inv X pj σ H {s with heap:=s.heap.push {cls:=.type "range",data:=.fields #[.int lo t,.int hi u,.int 1 v]},toks:=tk}:=I.kept fun b o e=>Xw _ e;erw[⟨(s.heap.push {cls:=.type "range",data:=.fields #[.int lo t,.int hi u,.int 1 v]}).objs.size,[(s.heap.push {cls:=.type "range",data:=.fields #[.int lo t,.int hi u,.int 1 v]}).objs.size],_,_,H,rfl,
  j.kept (t':=tk) λb o e=>Xw _ e,Q4 _ lo (hi - lo).toNat,?_,λb m=>?_,q⟩]
 .have g:lo+((0:Nat):Int)*1=lo:=by simp
  have d:(((hi - lo).toNat:Nat):Int) - ((0:Nat):Int)=Builtin.Range.rangeSize lo hi 1:=by rw[rangeSize_one];split<;>lia
  show IsRangeIter _ _ (lo+((0:Nat):Int)*1) ((((hi - lo).toNat:Nat):Int) - ((0:Nat):Int)) 1;rw[g,d];erw[XS _ rfl]
 .have e:b=(s.heap.push {cls:=.type "range",data:=.fields #[.int lo t,.int hi u,.int 1 v]}).objs.size:=by simpa using m
  subst e;erw[j.fpOk (Xc _) (j.hok.fresh (Xc _))]
def Q6(l:TA):TI:=λt H R=>l t H λu w=>∃j:Int,u=[.int j]/\ -(2^62)<=j/\j<2^62/\R (Itr 0 j.toNat) w
def Q7{a:Expr}{w:TA}{p l:Pos}(y:Gl X "range")(z:X.mg "range"=we)(m:PA X [a] w)(g:Xm [a] X.env=[(wg,eval a X.env)]:=by rfl):PI X tg (.Call (.Name "range" p) [a] [] l) (Q6 w):=by
 intro d s c H R I h;erw[Call_ (U7 I y z boot_range (WC (thn (m l d s c H _ I h) λP T f=>?_) g rfl))];have⟨U,W,L,r1,u⟩:=f;have⟨j,e,u,N,q⟩:=u;subst e;cases r1 with
 |cons r O=>
  cases O;have⟨t,rfl⟩:=r;erw[call_range_1 (Q5 L (by lia) (by lia) u N (by simpa using q))]
def tFor(y:TI)(g:TG)(z:TS):TS:=λD j H=>y j H λJ d=>∃W:Nat->Nat->St->Hp->Prop,(∃m,W 0 m j d)/\∀i m j H,W i m j H->
 (J.stop i H/\D.nx j H)\/(J.go i H/\∃N:St->Hp->Prop,(∀l t,N l t->∃w,w<m/\W (i+1) w l t)/\∀x t,J.yld i H x t->g x j t λu c=>z {D with nx:=N,ct:=N,bk:=D.nx} u c)
noncomputable def VF(j:List Addr)(h:Heap):List (Addr×Obj):=j.filterMap λb=>(h.get? b).map λo=>(b,o)
def BA(j:b∈fp)(e:h.get? b=wc o):(b,o)∈VF fp h:=CL.mpr ⟨b,j,by rw[e];rfl⟩
def Q8(j:p∈VF fp h):p.1∈fp/\h.get? p.1=wc p.2:=by
 have⟨b,l,e⟩:=CL.mp j;cases q:h.get? b with
 |none=>rw[q]at e;cases e
 |some o=>
  rw[q]at e;have t:(b,o)=p:=Y6 e;subst t;erw[⟨l,q⟩]
def Inv.pinned{s:X0}(I:Inv X pj σ H s)(t:∀b∈fp,FpOk X pj H b)(u:∀b∈fp,∃o,s.heap.get? b=wc o/\∀v,o.data≠.cell v):Inv X (pj++VF fp s.heap) σ H s:=
 I.pins_of λp w=>(Ya.mp w).elim (λz=>I.pin p (YA _ z)) λz=>by
  have⟨j,e⟩:=Q8 z;have⟨f0,y,m,_⟩:=t p.1 j;have⟨o,l,d⟩:=u p.1 j;rw[e]at l;cases l;erw[⟨e,f0,y,m,d⟩]
def Inv.unpinned{s:X0}(I:Inv X (pj++pl) σ H s):Inv X pj σ H s:=I.pins_of λp j=>I.pin p (YA _ (AA _ j))
def Q9{l:Expr}{O:List Stmt}{wi:TI}{g:TG}{tb:TS}{M:Pos}(Z:PassesOwn (X4 X.prog X.w) X.A X.env X.xe)(hc:X.calm=wf)(hi:PI X tg l wi)(hg:PG X tg g)(t:PSs X O tb)
  (hs:∀x,As l X.env x=pure x:=by intro _;rfl):PS X (.For tg l O [] M) (tFor wi g tb):=by
 intro R s σ H D I h;erw[wpAny_For (thn (hi R s σ H _ I h) λv s1 h1=>thn h1 λitv s2 h2=>?_) hs];have⟨it,A,tn,J,H2,e,I2,T,Q,f2,W,⟨m0,w0⟩,B⟩:=h2;subst e;have w:∀{L:Hp},(∀b∈A,L b=we)->∀b∈A,FpOk X R L b:=λhn b t=>⟨hn b t,(f2 b t).2⟩;erw[codeAny_forLoop_any (λn s'=>∃i y L,Inv X R y L s'/\tn i s'.heap/\(∀b∈A,L b=we)/\W i n y L) ?_ m0 ⟨0,σ,H2,I2,Q,λb t=>(f2 b t).1,w0⟩];rintro n s3 ⟨i,z,G,I3,st3,C,w3⟩;rcases B i n z G w3 with⟨E,qn⟩|⟨go,N,hN,step⟩
 .erw[UJ Z (thn (T.done X rfl rfl rfl hc i R s3 z G X.xe I3 (w C) st3 E) λr s4 U=>?_)];have⟨S,I4⟩:=U;subst S;erw[Ap ⟨z,G,I4,qn⟩]
 .erw[UJ Z (thn (T.item X rfl rfl rfl hc i R s3 z G X.xe I3 (w C) st3 go) λr s4 U=>?_)];have⟨u,S,h4⟩:=U;subst S;erw[UJ Z (thn h4 λ_ s5 U=>?_)];have⟨x,H5,I5,r5,y5,Y,a⟩:=U;have I5':=I5.pinned (w a) (T.obj _ _ Y);erw[UJ Z (thn (hg _ s5 z H5 x u _ I5' r5 (step x H5 y5)) λ_ s6 U=>?_)];have⟨σ6,H6,I6,q6⟩:=U;erw[UJ Z (thn (t _ s6 σ6 H6 _ I6 q6) λf s7 P=>?_)];have again:∀{j:St} {c:Hp},Inv X (R++VF A s5.heap) j c s7->N j c->∃m,m<n/\∃i y L,Inv X R y L s7/\tn i s7.heap/\(∀b∈A,L b=we)/\W i m y L:=fun{j c} p F=>by
   have⟨m',hm,w7⟩:=hN j c F;erw[⟨m',hm,i+1,j,c,p.unpinned,T.keep _ _ _ Y λb t o e=>(p.pin (b,o) (YA _ (YA _ (BA t e)))).1,λb t=>?_,w7⟩];have⟨o,e,d⟩:=T.obj _ _ Y b t;erw[(p.pin (b,o) (YA _ (YA _ (BA t e)))).2.1]
  cases f with
  |next=>have⟨j,c,p,F⟩:=P;erw[again p F]
  |cont=>have⟨j,c,p,F⟩:=P;erw[again p F]
  |brk=>have⟨j,c,p,P⟩:=P;erw[⟨j,c,p.unpinned,P⟩]
  |ret v=>have⟨x7,j,c,p,r7,P⟩:=P;erw[⟨x7,j,c,p.unpinned,r7,P⟩]
end
abbrev R2:=V->V->Hp->VK->Prop
def OpR(X:Cx)(f:Value->Value->Sem Value)(r:R2):Prop:=
 ∀(j:List (Addr×Obj))(s:X0)(l:St)(H:Hp)(x y:V)(v u:Value)(Q:VK),Inv X j l H s->RelV x v->RelV y u->r x y H Q->
  X3 (X4 X.prog X.w) X.A (f v u) (EP X j l Q) X.xe s
def UnR(X:Cx)(f:Value->Sem Value)(r:V->Hp->VK->Prop):Prop:=
 ∀(j:List (Addr×Obj))(s:X0)(l:St)(H:Hp)(x:V)(v:Value)(Q:VK),Inv X j l H s->RelV x v->r x H Q->
  X3 (X4 X.prog X.w) X.A (f v) (EP X j l Q) X.xe s
def Yw(X:Cx)(f:Value)(r:List V->Hp->VK->Prop):Prop:=
 ∀(j:List (Addr×Obj))(s:X0)(l:St)(H:Hp)(t:List V)(u:List Value)(Q:VK),Inv X j l H s->Vals t u->r t H Q->
  X3 (X4 X.prog X.w) X.A (call f u) (EP X j l Q) X.xe s
def tOp(r:R2)(l t:TE):TE:=λj H Q=>l j H λx u=>t j u λy w=>r x y w Q
def tUn(r:V->Hp->VK->Prop)(j:TE):TE:=λl H Q=>j l H λx t=>r x t Q
def rI(C:Int->Int->Prop)(g:Int->Int->V):R2:=λx y H Q=>∃i j,x=.int i/\y=.int j/\C i j/\Q (g i j) H
def rI0(g:Int->Int->V):R2:=λx y H Q=>∃i j,x=.int i/\y=.int j/\Q (g i j) H
def rU(g:Int->V):V->Hp->VK->Prop:=λx H Q=>∃i,x=.int i/\Q (g i) H
section
variable{X:Cx}{a b c:Expr}{ta tb tc:TE}{pos:Pos}
def binT(r:PE X a ta)(p:PE X b tb){z:List (Addr×Obj)}{s:X0}{j:St}{H:Hp}{R:V->V->Hp->Prop}(I:Inv X z j H s)
  (h:ta j H λx g=>tb j g λy l=>R x y l){Q:Value->X0->Prop} {f:Value->Value->Sem Value}
  (e:∀v u m x y l,Inv X z j l m->RelV x v->RelV y u->R x y l->X3 (X4 X.prog X.w) X.A (f v u) Q X.xe m):
  X3 (X4 X.prog X.w) X.A (eval a X.env) (λv t=>X3 (X4 X.prog X.w) X.A (eval b X.env) (λu w=>X3 (X4 X.prog X.w) X.A (f v u) Q X.xe w) X.xe t) X.xe s:=by
 erw[thn (r z s j H _ I h) λv L d=>?_];have⟨x,g,N,r1,O⟩:=d;erw[thn (p z L j g _ N O) λu m d=>?_];have⟨y,l,P,T,U⟩:=d;erw[e v u m x y l P r1 T U]
def Qa{j:Uh}{r:R2}(l:OpR X (Yh j) r)(t:PE X a ta)(w:PE X b tb):PE X (.BinOp a j b pos) (tOp r ta tb):=by
 intro z s m H Q I h;erw[wpAny_BinOp (binT t w I h λv u g x y d f p e q=>l z g m d x y v u Q f p e q)]
def Qb{j:UnaryOp}{r:V->Hp->VK->Prop}(u:UnR X (unaryOp j) r)(w:PE X a ta):PE X (.UnaryOp j a pos) (tUn r ta):=by
 intro l s t H Q I h;erw[UnaryOp_ (thn (w l s t H _ I h) λv y ⟨x,z,m,r1,g⟩=>u l y t z x v Q m r1 g)]
def opI{f:Value->Value->Sem Value}{C:Int->Int->Prop}{g:Int->Int->Int}
  (rule:∀(i j:Int)(t u:Tok)(s:X0)(Q:Value->X0->Prop)(E:Value->X0->Prop),C i j->Q (.int (g i j) s.toks) {s with toks:=s.toks+1}->X3 (X4 X.prog X.w) X.A (f (.int i t) (.int j u)) Q E s):
  OpR X f (rI C λi j=>.int (g i j)):=by
 intro d s r H x y v u Q I l w h;have⟨i,j,rfl,rfl,z,q⟩:=h;have⟨t,rfl⟩:=l;have⟨m,rfl⟩:=w;erw[rule i j t m s _ _ z ⟨.int (g i j),H,I.tok _,⟨_,rfl⟩,q⟩]
def opI0{f:Value->Value->Sem Value}{g:Int->Int->Int}
  (rule:∀(i j:Int)(t u:Tok)(s:X0)(Q:Value->X0->Prop)(E:Value->X0->Prop),Q (.int (g i j) s.toks) {s with toks:=s.toks+1}->X3 (X4 X.prog X.w) X.A (f (.int i t) (.int j u)) Q E s):
  OpR X f (rI0 λi j=>.int (g i j)):=by
 intro m s d H x y v u Q I l w h;have⟨i,j,rfl,rfl,q⟩:=h;have⟨t,rfl⟩:=l;have⟨z,rfl⟩:=w;erw[rule i j t z s _ _ ⟨.int (g i j),H,I.tok _,⟨_,rfl⟩,q⟩]
def opB0{f:Value->Value->Sem Value}{g:Int->Int->Bool}
  (rule:∀(i j:Int)(t u:Tok)(s:X0)(Q:Value->X0->Prop)(E:Value->X0->Prop),Q (.bool (g i j)) s->X3 (X4 X.prog X.w) X.A (f (.int i t) (.int j u)) Q E s):
  OpR X f (rI0 λi j=>.bl (g i j)):=by
 intro m s d H x y v u Q I l w h;have⟨i,j,rfl,rfl,q⟩:=h;have⟨t,rfl⟩:=l;have⟨z,rfl⟩:=w;erw[rule i j t z s _ _ ⟨.bl (g i j),H,I,rfl,q⟩]
def CPow(i j:Int):Prop:=0<=j/\j<=1000000/\i.natAbs<2^64
def CMul(i j:Int):Prop:=(-(2^64)<i/\i<2^64)\/(-(2^64)<j/\j<2^64)
def CMul.ok(h:CMul i j):IntMulOk i j:=by
 rcases h with⟨l,t⟩|⟨l,t⟩
 .erw[.of_left (intBits_le_64 l t)]
 .erw[.of_right (intBits_le_64 l t)]
def Qc:OpR X (Yh .Add) (rI0 λi j=>.int (i+j)):=opI0 λ_ _ _ _ _ _ _ q=>add_int q
def Qd:OpR X (Yh .Sub) (rI0 λi j=>.int (i - j)):=opI0 λ_ _ _ _ _ _ _ q=>sub_int q
def Qe:OpR X (Yh .Mult) (rI CMul λi j=>.int (i*j)):=opI λ_ _ _ _ _ _ _ l q=>mul_int q l.ok
def Qf:OpR X (Yh .Mod) (rI (λ_ j=>0<j) λi j=>.int (i%j)):=opI λi j _ _ _ _ _ l q=>by
 have t:(0:Int)<j:=l;erw[mod_int' (by lia) (by rw[Int.fmod_eq_emod_of_nonneg i (by lia)];erw[q])]
def Qg:OpR X (Yh .Pow) (rI CPow λi j=>.int (i^j.toNat)):=opI λ_ _ _ _ _ _ _ l q=>pow_int_small l.1 l.2.1 l.2.2 q
def Qh:OpR X (Yh .BitAnd) (rI0 λi j=>.int (Bs i j)):=opI0 λ_ _ _ _ _ _ _ q=>and_int q
def Qi:OpR X (Yh .BitXor) (rI0 λi j=>.int (Bt i j)):=opI0 λ_ _ _ _ _ _ _ q=>xor_int q
def unI{f:Value->Sem Value}{g:Int->Int}
  (rule:∀(i:Int)(t:Tok)(s:X0)(Q:Value->X0->Prop)(E:Value->X0->Prop),Q (.int (g i) s.toks) {s with toks:=s.toks+1}->X3 (X4 X.prog X.w) X.A (f (.int i t)) Q E s):
  UnR X f (rU λi=>.int (g i)):=by
 intro l s u H x v Q I j h;have⟨i,rfl,q⟩:=h;have⟨t,rfl⟩:=j;erw[rule i t s _ _ ⟨.int (g i),H,I.tok _,⟨_,rfl⟩,q⟩]
def Qj:UnR X (unaryOp .USub) (rU λi=>.int (-i)):=unI λ_ _ _ _ _ q=>neg_int q
end
noncomputable def scal:V->V->Bool
 |.non,.non=>wf|.non,.int _=>wf|.int _,.non=>wf|.non,.bl _=>wf|.bl _,.non=>wf|.non,.str _=>wf|.str _,.non=>wf
 |.int _,.int _=>wf|.bl _,.bl _=>wf|.str _,.str _=>wf|.byt _,.byt _=>wf
 |.int _,.str _=>wf|.str _,.int _=>wf|.bl _,.str _=>wf|.str _,.bl _=>wf
 |_,_=>wg
def rEq:R2:=λx y H Q=>scal x y=wf/\Q (.bl (decide (x=y))) H
def rNe:R2:=λx y H Q=>scal x y=wf/\Q (.bl (!decide (x=y))) H
def Gb:decide (V.int i=V.int j)=(i==j):=by
 rw[B7];simp
def Gc:decide (V.bl i=V.bl j)=(i==j):=by
 rw[B7];simp
def Gd:decide (V.str i=V.str j)=(i==j):=by
 rw[B7];simp
def Ge:decide (V.byt i=V.byt j)=(i.toList==j.toList):=by
 rw[B7];cases i;cases j;simp
section
variable{X:Cx}{a b c:Expr}{ta tb tc:TE}{pos:Pos}
def XG{s:X0}{k:Bool}(I:Inv X pj σ H s)(q:Q (.bl k) H)(e:k=k'):EP X pj σ Q (.bool k') s:=by
 subst e;erw[⟨.bl k,H,I,rfl,q⟩]
def Qk:OpR X (Y1 .Eq) rEq:=by
 intro g s d H x y v u Q I m l h;have⟨z,q⟩:=h;cases x with
 |non=>
  cases m;cases y with
  |non=>cases l;erw[PySem.EqNone.eq_none_none (XG I q (by simp))]
  |bl j=>cases l;erw[PySem.EqNone.eq_none_bool (XG I q (by simp))]
  |int j=>have⟨w,rfl⟩:=l;erw[PySem.EqNone.eq_none_int (XG I q (by simp))]
  |str j=>have⟨w,rfl⟩:=l;erw[PySem.EqNone.eq_none_str (XG I q (by simp))]
  |_=>erw[absurd (show wg=wf from z) Xx]
 |bl i=>
  cases m;cases y with
  |non=>cases l;erw[PySem.EqNone.eq_bool_none (XG I q (by simp))]
  |bl j=>cases l;erw[eq_bool (XG I q Gc)]
  |str j=>have⟨w,rfl⟩:=l;erw[PySem.EqMixed.eq_bool_str (XG I q (by simp))]
  |_=>erw[absurd (show wg=wf from z) Xx]
 |int i=>
  have⟨t,rfl⟩:=m;cases y with
  |non=>cases l;erw[PySem.EqNone.eq_int_none (XG I q (by simp))]
  |int j=>have⟨w,rfl⟩:=l;erw[eq_int (XG I q Gb)]
  |str j=>have⟨w,rfl⟩:=l;erw[PySem.EqMixed.eq_int_str (XG I q (by simp))]
  |_=>erw[absurd (show wg=wf from z) Xx]
 |str i=>
  have⟨t,rfl⟩:=m;cases y with
  |non=>cases l;erw[PySem.EqNone.eq_str_none (XG I q (by simp))]
  |bl j=>cases l;erw[PySem.EqMixed.eq_str_bool (XG I q (by simp))]
  |int j=>have⟨w,rfl⟩:=l;erw[PySem.EqMixed.eq_str_int (XG I q (by simp))]
  |str j=>have⟨w,rfl⟩:=l;erw[eq_str (XG I q Gd)]
  |_=>erw[absurd (show wg=wf from z) Xx]
 |byt i=>
  have⟨t,rfl⟩:=m;cases y with
  |byt j=>have⟨w,rfl⟩:=l;erw[PySem.W.eq_bytes (XG I q Ge)]
  |_=>erw[absurd (show wg=wf from z) Xx]
 |_=>cases y<;>erw[absurd (show wg=wf from z) Xx]
def Ql:OpR X (Y1 .NotEq) rNe:=by
 intro g s d H x y v u Q I m l h;have⟨z,q⟩:=h;cases x with
 |non=>
  cases m;cases y with
  |non=>cases l;erw[PySem.EqNone.ne_none_none (XG I q (by simp))]
  |bl j=>cases l;erw[PySem.EqNone.ne_none_bool (XG I q (by simp))]
  |int j=>have⟨w,rfl⟩:=l;erw[PySem.EqNone.ne_none_int (XG I q (by simp))]
  |str j=>have⟨w,rfl⟩:=l;erw[PySem.EqNone.ne_none_str (XG I q (by simp))]
  |_=>erw[absurd (show wg=wf from z) Xx]
 |bl i=>
  cases m;cases y with
  |non=>cases l;erw[PySem.EqNone.ne_bool_none (XG I q (by simp))]
  |bl j=>cases l;erw[ne_bool (XG I q (congrArg not Gc))]
  |str j=>have⟨w,rfl⟩:=l;erw[PySem.EqMixed.ne_bool_str (XG I q (by simp))]
  |_=>erw[absurd (show wg=wf from z) Xx]
 |int i=>
  have⟨t,rfl⟩:=m;cases y with
  |non=>cases l;erw[PySem.EqNone.ne_int_none (XG I q (by simp))]
  |int j=>have⟨w,rfl⟩:=l;erw[ne_int (XG I q (congrArg not Gb))]
  |str j=>have⟨w,rfl⟩:=l;erw[PySem.EqMixed.ne_int_str (XG I q (by simp))]
  |_=>erw[absurd (show wg=wf from z) Xx]
 |str i=>
  have⟨t,rfl⟩:=m;cases y with
  |non=>cases l;erw[PySem.EqNone.ne_str_none (XG I q (by simp))]
  |bl j=>cases l;erw[PySem.EqMixed.ne_str_bool (XG I q (by simp))]
  |int j=>have⟨w,rfl⟩:=l;erw[PySem.EqMixed.ne_str_int (XG I q (by simp))]
  |str j=>have⟨w,rfl⟩:=l;erw[ne_str (XG I q (congrArg not Gd))]
  |_=>erw[absurd (show wg=wf from z) Xx]
 |byt i=>
  have⟨t,rfl⟩:=m;cases y with
  |byt j=>have⟨w,rfl⟩:=l;erw[PySem.W.ne_bytes (XG I q (congrArg not Ge))]
  |_=>erw[absurd (show wg=wf from z) Xx]
 |_=>cases y<;>erw[absurd (show wg=wf from z) Xx]
def Qm:OpR X (Y1 .Lt) (rI0 λi j=>.bl (decide (i<j))):=opB0 λ_ _ _ _ _ _ _ q=>lt_int q
def Qn:OpR X (Y1 .LtE) (rI0 λi j=>.bl (decide (i<=j))):=opB0 λ_ _ _ _ _ _ _ q=>le_int q
def Qo:OpR X (Y1 .Gt) (rI0 λi j=>.bl (decide (j<i))):=opB0 λ_ _ _ _ _ _ _ q=>gt_int q
def Qp:OpR X (Y1 .GtE) (rI0 λi j=>.bl (decide (j<=i))):=opB0 λ_ _ _ _ _ _ _ q=>ge_int q
def Qq:OpR X (Y1 .Is) (λx y H Q=>y=.non/\Q (.bl (decide (x=.non))) H):=by
 intro w s z H x y v u Q I j l h;have⟨rfl,q⟩:=h;cases l;erw[is_none_gen (XG I q ?_)];cases x<;>first
  |(cases j;rfl)
  |(have⟨t,rfl⟩:=j;rfl)
def Qr:OpR X (Y1 .IsNot) (λx y H Q=>y=.non/\Q (.bl (!decide (x=.non))) H):=by
 intro w s z H x y v u Q I j l h;have⟨rfl,q⟩:=h;cases l;erw[isnot_none_gen (XG I q ?_)];cases x<;>first
  |(cases j;rfl)
  |(have⟨t,rfl⟩:=j;rfl)
def Qs{j:CmpOp}{r:R2}(l:OpR X (Y1 j) r)(t:PE X a ta)(w:PE X b tb)(z:behindInMarks j b=wg):PE X (.Compare a [j] [b] pos) (tOp r ta tb):=by
 intro m s g H Q I h;erw[wpAny_Compare1 (binT t w I h λv u d x y f p e L q=>l m d g f x y v u Q p e L q) z]
def Gf(t:TE):TT:=λj H Q=>t j H λx l=>∃k,x=.bl k/\Q k l
def Qt{j:CmpOp}{r:R2}(w:OpR X (Y1 j) r)(m:PE X a ta)(g:PE X b tb)(d:behindInMarks j b=wg):PT X (.Compare a [j] [b] pos) (Gf (tOp r ta tb)):=by
 intro l s t H Q I h;erw[wpAny_isTrue_Compare1 (thn (m l s t H _ I h) λv f ⟨x,p,L,r1,N⟩=>thn (g l f t p _ L N) λu O ⟨y,P,R,T,U⟩=>
  thn (w l O t P x y v u _ R r1 T U) λc B ⟨z,W,Y,Z,k,e,A⟩=>?_) d]
 subst e;cases Z;erw[Zx ⟨W,Y,A⟩]
def Dl(r t:R2)(ta tb tc:TE):TE:=λj H Q=>ta j H λx u=>tb j u λy w=>r x y w λz l=>∃k,z=.bl k/\
 (if k=wf then tc j l λm g=>t y m g Q else Q (.bl wg) l)
def Qu{w j:CmpOp}{r g:R2}(O:OpR X (Y1 w) r)(m:OpR X (Y1 j) g)(P:PE X a ta)(R:PE X b tb)(T:PE X c tc)
  (U:lastMarks [w,j] [b,c]=wg:=by with_unfolding_all rfl):PE X (.Compare a [w,j] [b,c] pos) (Dl r g ta tb tc):=by
 intro l s t H Q I h;erw[Compare_chain (thn (P l s t H _ I h) λv W ⟨x,Y,Z,r1,A⟩=>chain_link (thn (R l W t Y _ Z A) λu B ⟨y,C,D,f,E⟩=>
  thn (O l B t C x y v u _ D r1 f E) λd F ⟨z,p,L,G,k,e,N⟩=>?_)) U]
 subst e;cases G;erw[Zx ?_];cases k with
 |false=>erw[ite_ff ⟨.bl wg,p,L,rfl,N⟩]
 |true=>erw[ite_tt (chain_last (thn (T l F t p _ L N) λJ M ⟨S,o,i,n,q4⟩=>m l M t o y S u J Q i f n q4))]
def Qv{w j:CmpOp}{r g:R2}(O:OpR X (Y1 w) r)(m:OpR X (Y1 j) g)(P:PE X a ta)(R:PE X b tb)(T:PE X c tc)
  (U:lastMarks [w,j] [b,c]=wg:=by with_unfolding_all rfl):PT X (.Compare a [w,j] [b,c] pos) (Gf (Dl r g ta tb tc)):=by
 intro l s t H Q I h;erw[isTrue_chain (thn (P l s t H _ I h) λv W ⟨x,Y,Z,r1,A⟩=>test_link (thn (R l W t Y _ Z A) λu B ⟨y,C,D,f,E⟩=>
  thn (O l B t C x y v u _ D r1 f E) λd F ⟨z,p,L,G,k,e,N⟩=>?_)) U]
 subst e;cases G;erw[Zx ?_];cases k with
 |false=>
  have⟨k',J,M⟩:=N;cases J;erw[ite_ff ⟨p,L,M⟩]
 |true=>
  erw[ite_tt (test_last (thn (T l F t p _ L N) λS o ⟨i,n,I4,r4,q4⟩=>thn (m l o t n y i u S _ I4 f r4 q4) λd' s5 h'=>?_))];have⟨z2,H5,I5,r5,k2,e2,q5⟩:=h';subst e2;cases r5;erw[Zx ⟨H5,I5,q5⟩]
def VG:(sizeLine:Nat)<2^63:=by rw[sizeLine_eq];decide
def Qw:OpR X (Yh .Add) (λx y H Q=>∃i j,x=.str i/\y=.str j/\i.length+j.length<=sizeLine/\Q (.str (i++j)) H):=by
 intro g s d H x y v u Q I l w h;have⟨i,j,rfl,rfl,z,q⟩:=h;have⟨t,rfl⟩:=l;have⟨m,rfl⟩:=w;erw[add_str (λm f=>⟨.str (i++j),H,I.tok _,⟨_,rfl⟩,q⟩) z]
def _H(r:Vals [x] us):∃u,us=[u]/\RelV x u:=by
 cases r with
 |cons r1 j=>cases j;erw[⟨_,rfl,r1⟩]
def WH(r:Vals [x,y] us):∃u j,us=[u,j]/\RelV x u/\RelV y j:=by
 cases r with
 |cons r1 l=>
  cases l with
  |cons t w=>cases w;erw[⟨_,_,rfl,r1,t⟩]
def Qx(w:X.calm=wf):Yw X (.builtin "max") (fun l H Q=>∃i j,l=[.int i,.int j]/\Q (.int (if j>i then j else i)) H):=by
 intro y s z H l m Q I r h;have⟨i,j,rfl,q⟩:=h;have⟨u,g,rfl,⟨t,rfl⟩,⟨d,rfl⟩⟩:=WH r;erw[max_two_ints (I.ok.hd w) λf p k=>⟨_,H,I.kept k,?_,q⟩];by_cases hj:j>i
 .rw[if_pos hj,if_pos hj];erw[⟨_,rfl⟩]
 .rw[if_neg hj,if_neg hj];erw[⟨_,rfl⟩]
def Qy(w:X.calm=wf):Yw X (.builtin "min") (fun l H Q=>∃i j,l=[.int i,.int j]/\Q (.int (if j<i then j else i)) H):=by
 intro y s z H l m Q I r h;have⟨i,j,rfl,q⟩:=h;have⟨u,g,rfl,⟨t,rfl⟩,⟨d,rfl⟩⟩:=WH r;erw[min_two_ints (I.ok.hd w) λf p k=>⟨_,H,I.kept k,?_,q⟩];by_cases hj:j<i
 .rw[if_pos hj,if_pos hj];erw[⟨_,rfl⟩]
 .rw[if_neg hj,if_neg hj];erw[⟨_,rfl⟩]
def Qz:Yw X (.type "int") (fun j H Q=>(∃i,j=[.int i]/\Q (.int i) H)\/∃k,j=[.bl k]/\Q (.int (if k then 1 else 0)) H):=by
 intro l s w H j y Q I r h;rcases h with⟨i,rfl,q⟩|⟨k,rfl,q⟩
 .have⟨u,rfl,t,rfl⟩:=_H r;erw[call_int_int ⟨.int i,H,I,⟨_,rfl⟩,q⟩]
 .have⟨u,rfl,r1⟩:=_H r;cases r1;erw[call_int_bool ⟨.int (if k then 1 else 0),H,I.tok _,⟨_,rfl⟩,q⟩]
end
structure ObjM (h:Heap)(x dx C:Addr)(mA:Str->Option Value):Prop where
 obj:h.get? x=wc (Up C dx)
 ns:h.Ns1 dx mA
 ne:dx≠x
set_option tactic.hygienic true in
def QA{h:Heap}{l:Addr}{u:Str->Option Value}(n:h.Ns1 l u):∃w,h.get? l=wc w/\∀name,AQ name w=wc (u name):=by
 have⟨o,m,p,g,hd,d,_,c⟩:=n;erw[⟨o,g,λname=>?_⟩];have e:=c name;unfold nsFind findBy at e;rw[<-Array.find?_toList]at e;unfold AQ;rw[hd];dsimp only;split
 .rename_i y q
  rw[q]at e;erw[congrArg wc e]
 .rename_i q
  rw[q]at e;have a:m.toList.any (·.refKey)=wg:=by
   rw[List.any_eq_false];intro y f;have⟨z,t,j⟩:=d y (Array.mem_toList_iff.mp f);simp[DictEntry.refKey,j]
  have r:¬m.toList.any (·.refKey)=wf:=by rw[a];erw[Xx]
  rw[if_neg r];erw[congrArg wc e]
def ObjM.look(I:ObjM h x dx C mA):∃j,PySem.W.InstAt h x (Up C dx) C (wc j)/\∀name,AQ name j=wc (mA name):=
 let⟨j,ho,hl⟩:=QA I.ns
 ⟨j,⟨I.obj,rfl,rfl,ho⟩,hl⟩
section
variable{prog:Xk}{w:Xe}{A:Xp}{E:Value->X0->Prop}{s:X0}{K:X1}{x dx C f:Addr}{mA:Str->Option Value}{name:Str}{v:Value}
def QB(X:K.In s.heap)(I:ObjM s.heap x dx C mA)(l:AO K C name=wf)(t:CW K C=wf)
  (u:Y0 K (.ref C) name=wc we)(y:mA name=wc v)(j:PySem.W.handedIn v=wf)(h:Q v {s with toks:=s.toks+1}):
  X3 (X4 prog w) A (getAttr (.ref x) name expr) Q E s:=by
 have⟨m,J,z⟩:=I.look;erw[PySem.W.get_value X J (CU l).1 (PySem.W.findObj_own t u rfl (by rw[z,y])) j h]
def QC(X:K.In s.heap)(I:ObjM s.heap x dx C mA)(j:AO K C name=wf)
  (l:Y0 K (.ref C) name=wc (wc (.ref f)))(t:AT K (.ref f)=wf)(u:mA name=we)(h:Q (.ref f,[.ref x]) s):
  X3 (X4 prog w) A (getMethod (.ref x) name pl) Q E s:=by
 have⟨y,J,z⟩:=I.look;erw[PySem.W.method_fn X J (CU j).1 (CU j).2 l (beq_iff_eq.mp t) (by show(AQ name y).map (·.isSome)=wc wg;rw[z,u];rfl) h]
def QD(X:K.In s.heap)(I:ObjM s.heap x dx C mA)
  (d:Y0 K (.ref C) "__setattr__"=wc (wc (.builtin "object.__setattr__")))(c:PySem.W.plainOver K C=wf)(p:CY K C name=wc we)(e:CW K C=wf)
  (hw:Dc mA ns)(L:ns.length<=sizeLine)
  (h:∀t,ObjM t x dx C (λy=>if y=name then wc v else mA y)->ZD dx s.heap t->Q () {s with heap:=t,toks:=s.toks+2}):
  X3 (X4 prog w) A (setAttr (.ref x) name v) Q E s:=by
 have⟨T,J,U⟩:=I.look;erw[PySem.W.set_plain X J d (PySem.W.osa_open (s:={s with toks:=s.toks+1}) (r:=we) X J c p λb=>?_)];have⟨W,N,u⟩:=PySem.W.any_some e;have O:s.heap.get? x=wc ⟨.ref C,wc dx,.plain,#[]⟩:=I.obj;erw[X2 (X8 (X2 (X2 (wpAny_loadPart O (X2 (PySem.W.Looks.here (s:={s with toks:=s.toks+1}) (PySem.W.looks_clsIn X N) ?_))))))];rw[u];erw[X8 (a:=wc dx) (X2 (X8 (X2 ?_)))];erw[wpAny_nsSet1 (s:={s with toks:=s.toks+1}) I.ns λt j l=>?_];have⟨Y,P,R,z,m,g⟩:=j.count (PySem.Within.cons name v hw);erw[X2 (wpAny_lookBehind z (by rw[m];erw[pastItsLine_dict (XA g (by rw[Yr];lia))]) ?_)]
 erw[X8 (h _ ⟨(l.2 _ (XT I.ne)).trans I.obj,j,I.ne⟩ l)]
def QE(X:K.In s.heap)(l:CZ K C=wf)
  (u:Y0 K (.ref C) "__init__"=wc (wc (.ref f)))(y:PySem.W.typeIn K (.ref f)=wc (.type "function"))
  (h:YJ (X4 prog w) (A.under (.builtin "type.__call__" ⟨.ref C::vs,kw⟩)) (.call (.ref f) ⟨.ref (s.heap.objs.size+1)::vs,kw⟩) (PySem.W.InitBack (s.heap.objs.size+1) R)
   {s with heap:=(s.heap.push ZZ).push (Up C s.heap.objs.size)}):
  YJ (X4 prog w) A (.call (.ref C) ⟨vs,kw⟩) R s:=by
 have⟨z,g,d,t,os⟩:=s;erw[PySem.W.make_core (PySem.W.makes_of X l) (PySem.W.looks_findIn X u) (λj=>PySem.W.bind_fn X j y) (.inl rfl) h]
end
noncomputable def putF(f:Str)(v:V):List (Str×V)->List (Str×V)
 |[]=>[(f,v)]
 |(g,x)::r=>if g=f then(g,v)::r else(g,x)::putF f v r
theorem Gg(f g:Str)(v:V):∀fs:List (Str×V),(putF f v fs).lookup g=if g=f then wc v else fs.lookup g
 |[]=>by
  show ZY g [(f,v)]=_;by_cases h:g=f
  .have j:(g==f)=wf:=beq_iff_eq.mpr h;simp only[ZY,j,if_pos h]
  .have j:(g==f)=wg:=beq_eq_false_iff_ne.mpr h;simp only[ZY,j,if_neg h]
 |(k,x)::r=>by
  have l:=Gg f g v r;rw[show putF f v ((k,x)::r)=(if k=f then(k,v)::r else(k,x)::putF f v r)from rfl];by_cases hk:k=f
  .rw[if_pos hk];by_cases h:g=k
   .have j:(g==k)=wf:=beq_iff_eq.mpr h;simp only[ZY,j,if_pos (h.trans hk)]
   .have j:(g==k)=wg:=beq_eq_false_iff_ne.mpr h;simp only[ZY,j,if_neg (λe:g=f=>h (e.trans hk.symm))]
  .rw[if_neg hk];by_cases h:g=k
   .have j:(g==k)=wf:=beq_iff_eq.mpr h;simp only[ZY,j,if_neg (λe:g=f=>hk (h.symm.trans e))]
   .have j:(g==k)=wg:=beq_eq_false_iff_ne.mpr h;simp only[ZY,j];erw[l]
theorem Dm(f:Str)(v:V):∀fs:List (Str×V),f∈(putF f v fs).map (·.1)/\∀g,g∈fs.map (·.1)->g∈(putF f v fs).map (·.1)
 |[]=>⟨by simp[putF],λg h=>by simp at h⟩
 |(k,x)::r=>by
  have⟨j,l⟩:=Dm f v r;rw[show putF f v ((k,x)::r)=(if k=f then(k,v)::r else(k,x)::putF f v r)from rfl];by_cases hk:k=f
  .rw[if_pos hk];subst hk;erw[⟨by simp,λg h=>by simpa using h⟩]
  .rw[if_neg hk];erw[⟨?_,λg h=>?_⟩]
   .rw[Xy];erw[XD _ j]
   .rw[Xy]at h ⊢;rcases Xh.mp h with e|e
    .erw[Xh.mpr (.inl e)]
    .erw[XD _ (l g e)]
theorem Gh(f:Str)(v:V):∀fs:List (Str×V),(putF f v fs).length<=fs.length+1
 |[]=>by simp[putF]
 |(k,x)::r=>by
  have j:=Gh f v r;rw[show putF f v ((k,x)::r)=(if k=f then(k,v)::r else(k,x)::putF f v r)from rfl];by_cases hk:k=f
  .rw[if_pos hk,Yr,Yr];lia
  .rw[if_neg hk,Yr,Yr];lia
def RelO.some_of(r:RelO (wc v) o):∃u,o=wc u/\RelV v u:=by
 cases o with
 |none=>erw[(show False from r).elim]
 |some u=>erw[⟨u,rfl,r⟩]
def RelO.none_of(r:RelO we o):o=we:=by
 cases o with
 |none=>rfl
 |some u=>erw[(show False from r).elim]
def QF(r:RelV v u):PySem.W.handedIn u=wf:=by
 cases v with
 |non=>cases(show u=Us from r);rfl
 |bl b=>cases(show u=Ut b from r);rfl
 |int i=>have⟨t,e⟩:=(show∃t,u=Vx i t from r);cases e;rfl
 |str x=>have⟨t,e⟩:=(show∃t,u=YR x t from r);cases e;rfl
 |byt b=>have⟨t,e⟩:=(show∃t,u=Value.bytes b t from r);cases e;rfl
 |flt b=>have⟨t,e⟩:=(show∃t,u=Bd b t from r);cases e;rfl
 |ref a=>cases(show u=Xt a from r);rfl
 |ty n=>cases(show u=Zg n from r);rfl
section
variable{P:Xk}{w:Xe}{H H':Hp}{h h':Heap}{a C dx:Addr}{fs fs':List (Str×V)}
def WI(l:HOk P w H h)(e:H a=wc (.ins C dx fs)):∃j,ObjM h a dx C j/\(∀f,RelO (fs.lookup f) (j f))/\Dc j (fs.map (·.1))/\fs.length<=1000/\H dx=wc (.own a):=by
 have⟨d,z,t,u,j,n,r,q⟩:=(show ObjOk P w H h a (.ins C dx fs)from l a _ e);erw[⟨j,⟨u,n,t⟩,r,q,z,d⟩]
end
structure Cls (K:X1)(C:Addr):Prop where
 pg:AO K C V2=wf
 hd:CW K C=wf
 po:PySem.W.plainOver K C=wf
 sa:Y0 K (.ref C) "__setattr__"=wc (wc (.builtin "object.__setattr__"))
def Cls.get{K:X1}(c:Cls K C)(f:Str):AO K C f=wf:=c.pg
def NoAttr(K:X1)(C:Addr)(f:Str):Prop:=Y0 K (.ref C) f=wc we
def NoAttr.taker{K:X1}(n:NoAttr K C f):CY K C f=wc we:=by
 unfold CY;rw[show Y0 K (.ref C) f=wc we from n]
 rfl
structure Meth (K:X1)(C:Addr)(m:Str)(f:Addr):Prop where
 at_:Y0 K (.ref C) m=wc (wc (.ref f))
 fn:AT K (.ref f)=wf
 kp:Yt K (.ref f)=wf
section
variable{X:Cx}{pj:List (Addr×Obj)}{σ:St}{H:Hp}{s:X0}{a C dx:Addr}{fs:List (Str×V)}{f:Str}{v:V}{A:Xp}{E:Value->X0->Prop}
def QG(I:Inv X pj σ H s)(e:H a=wc (.ins C dx fs))(c:Cls X.K C)(n:NoAttr X.K C f)(l:fs.lookup f=wc v)
  (h:∀u j,Inv X pj σ H j->RelV v u->Q u j):X3 (X4 X.prog X.w) A (getAttr (.ref a) f b) Q E s:=by
 have⟨w,O,r,_,_,_⟩:=WI I.hok e;have⟨u,y,t⟩:=RelO.some_of (v:=v) (o:=w f) (by rw[<-l];erw[r f])
 erw[QB I.kIn O (c.get f) c.hd n y (QF t) (h u _ (I.tok _) t)]
def Gi(I:Inv X pj σ H s)(e:H a=wc (.ins C dx fs))(c:Cls X.K C)(k:Meth X.K C m g)(l:fs.lookup m=we)
  (h:Q (.ref g,[.ref a]) s):X3 (X4 X.prog X.w) A (getMethod (.ref a) m pl) Q E s:=by
 have⟨j,O,r,_,_,_⟩:=WI I.hok e;have t:j m=we:=RelO.none_of (by rw[<-l];erw[r m])
 erw[QC I.kIn O (c.get m) k.at_ k.fn t h]
def QH(I:Inv X pj σ H s)(e:H a=wc (.ins C dx fs))(c:Cls X.K C)(n:NoAttr X.K C f)(T:fs.length<1000)(d:RelV y u)
  (h:∀l,Inv X pj σ (upd H a (.ins C dx (putF f y fs))) l->Q () l):X3 (X4 X.prog X.w) A (setAttr (.ref a) f u) Q E s:=by
 have⟨t,O,r,w,_,m⟩:=WI I.hok e;have p:(fs.map (·.1)).length<=sizeLine:=by rw[X7,sizeLine_eq];lia
 erw[QD I.kIn O c.sa c.po n.taker c.hd w p λL j N=>h _ ?_];have hd:∃o,L.get? dx=wc o:=let⟨o,_,_,e',_⟩:=j.ns;⟨o,e'⟩
 erw[I.write (x:=a) (e:=dx) (by rw[e];erw[YE]) (.inr m) (λb q P z=>(N.2 b P).trans z) hd ?_]
 erw[⟨by rw[XQ O.ne];erw[m],?_,O.ne,j.obj,_,j.ns,λg=>?_,λg R=>?_⟩]
 .have:=Gh f y fs;lia
 .show RelO ((putF f y fs).lookup g) (if g=f then wc u else t g);rw[Gg];by_cases q:g=f
  .rw[if_pos q,if_pos q];erw[d]
  .rw[if_neg q,if_neg q];erw[r g]
 .by_cases q:g=f
  .rw[q];erw[(Dm f y fs).1]
  .erw[(Dm f y fs).2 g (w g λz=>R ?_)];show(if g=f then wc u else t g)=we;rw[if_neg q];erw[z]
def Inv.made(I:Inv X pj σ H s):Inv X pj σ (upd (upd H s.heap.objs.size (.own (s.heap.objs.size+1))) (s.heap.objs.size+1) (.ins C s.heap.objs.size []))
  {s with heap:=(s.heap.push ZZ).push (Up C s.heap.objs.size)}:=by
 have j:(s.heap.push ZZ).get? s.heap.objs.size=wc ZZ:=XS s.heap rfl;have t:((s.heap.push ZZ).push (Up C s.heap.objs.size)).get? (s.heap.objs.size+1)=wc (Up C s.heap.objs.size):=by
  have:=XS (s.heap.push ZZ) (o:=Up C s.heap.objs.size) rfl
  rwa [U0]at this
 have w:(s.heap.push ZZ).Ns s.heap.objs.size (λ_=>we):=⟨ZZ,#[],_,j,rfl,(λe z=>absurd z (by simp)),λ_=>rfl⟩
 have m:=I.laid (a:=s.heap.objs.size) (o:=.own (s.heap.objs.size+1)) (h':=s.heap.push ZZ) (t':=s.toks) (λb u q=>Xw _ q) (Xc _) ⟨_,j⟩;erw[m.laid (a:=s.heap.objs.size+1) (o:=.ins C s.heap.objs.size []) (t':=s.toks) (λb u q=>Xw _ q) (Uq (U0 _ _)) ?_];have l:s.heap.objs.size≠s.heap.objs.size+1:=XE (Wu _);erw[⟨by rw[XQ l,_G],YQ _,l,t,λ_=>we,(Heap.Ns1.of_empty w).at λo q=>Xw _ q,λ_=>YE,λy g=>absurd rfl g⟩]
def QI{s:X0}(l:Ui e f env (eval e env)=eval e env)
  (h:X3 (X4 prog w) A (eval e env) (λo j=>X3 (X4 prog w) A (getAttr o f wf) Q E j) E s):X3 (X4 prog w) A (eval (.Attribute e f pos) env) Q E s:=
 Attribute_any_ h (by rw[arm_eval_Attribute,l])
end
def tFld(K:X1)(l:TE)(f:Str):TE:=λt H Q=>l t H λx j=>∃a C u fs v,x=.ref a/\j a=wc (.ins C u fs)/\Cls K C/\NoAttr K C f/\fs.lookup f=wc v/\Q v j
def sFld(K:X1)(u w:TE)(f:Str):TS:=λD j H=>w j H λy z=>u j z λx l=>∃a C t fs,x=.ref a/\l a=wc (.ins C t fs)/\Cls K C/\NoAttr K C f/\fs.length<1000/\
 D.nx j (upd l a (.ins C t (putF f y fs)))
section
variable{X:Cx}{o e value:Expr}{f:Str}{pos pos' tpos:Pos}{ta tv:TE}
def QJ(j:PE X e ta)(t:Ui e f X.env (eval e X.env)=eval e X.env):PE X (.Attribute e f pos) (tFld X.K ta f):=by
 intro w s y H Q I h;erw[QI t (thn (j w s y H _ I h) λu O z=>?_)];have⟨x,m,g,d,a,C,P,fs,v,r,p,c,n,l,q⟩:=z;subst r;obtain rfl:u=Xt a:=d;erw[QG g p c n l λR T L N=>⟨v,m,L,N,q⟩]
def QK(w:PE X o ta)(z:PE X value tv)(m:Zy value (wc (.Attribute o f pos')) pos.line X.env=pure wg):PS X (.Assign [.Attribute o f pos'] value pos) (sFld X.K ta tv f):=by
 intro t s j H D I h;erw[plainObj_wpAny_Assign_Attribute (thn (z t s j H _ I h) λu g ⟨y,d,r,p,q⟩=>thn (w t g j d _ r q) λL Y N=>?_) m];have⟨x,Z,O,P,a,C,A,fs,R,T,c,n,l,U⟩:=N;subst R;obtain rfl:L=Xt a:=P;erw[QH O T c n l p λB W=>⟨j,_,W,U⟩]
end
section
variable{X:Cx}{pj:List (Addr×Obj)}{σ:St}{H:Hp}{s:X0}{A:Xp}{E:Value->X0->Prop}{Q:Value->X0->Prop}{c:Value}{b:Bool}
inductive TyOf (K:X1)(H:Hp):V->Value->Prop where
 |non:TyOf K H .non (.type "NoneType")
 |bl (x:Bool):TyOf K H (.bl x) (.type "bool")
 |int (i:Int):TyOf K H (.int i) (.type "int")
 |str (x:Str):TyOf K H (.str x) (.type "str")
 |flt (x:UInt64):TyOf K H (.flt x) (.type "float")
 |lst {a:Addr} {xs:List V} (e:H a=some (.lst xs)):TyOf K H (.ref a) (.type "list")
 |frz {a:Addr} {o:Obj} {xs:List V} (e:H a=some (.frz o (.lst xs))):TyOf K H (.ref a) (.type "list")
 |tup {a:Addr} {xs:List V} (e:H a=some (.tup xs)):TyOf K H (.ref a) (.type "tuple")
 |dK {a:Addr} {kvs:List (Key×V)} (e:H a=some (.dK kvs)):TyOf K H (.ref a) (.type "dict")
 |dT {a:Addr} {kvs:List (List Key×V)} (e:H a=some (.dT kvs)):TyOf K H (.ref a) (.type "dict")
 |ins {a C dx:Addr} {fs:List (Str×V)} (e:H a=some (.ins C dx fs))(cl:Cls K C)(ha:Y0 K (.ref C) "__class__"=some (some (.builtin "object.__class__")))
   (hn:PySem.W.specialIn K (.builtin "object.__class__") "__get__"=some (some (.builtin "getset_descriptor.__get__")))(htk:PySem.W.takesIn K (.builtin "object.__class__")=some true)
   (hm:PySem.W.mroIn K C (.type "object")=some true):TyOf K H (.ref a) (.ref C)
def QL{t:Value}(I:Inv X pj σ H s)(j:RelV x u)(ty:TyOf X.K H x t)(e:UR X.K t c=wc b)(h:∀L,Q (.bool b) {s with toks:=L}):
  X3 (X4 X.prog X.w) A (call (.builtin "isinstance") [u,c]) Q E s:=by
 cases ty with
 |non=>cases(show u=Us from j);erw[Zq PySem.W.kitx_none I.kIn YE e (λz=>nomatch z) h]
 |bl y=>cases(show u=Ut y from j);erw[Zq PySem.W.kitx_bool I.kIn YE e (λz=>nomatch z) h]
 |int i=>have⟨t,q⟩:=(show∃t,u=Vx i t from j);cases q;erw[Zq PySem.W.kitx_int I.kIn YE e (λz=>nomatch z) h]
 |str y=>have⟨t,q⟩:=(show∃t,u=YR y t from j);cases q;erw[Zq PySem.W.kitx_str I.kIn YE e (λz=>nomatch z) h]
 |flt y=>have⟨t,q⟩:=(show∃t,u=Bd y t from j);cases q;erw[Zq PySem.W.kitx_float I.kIn YE e (λz=>nomatch z) h]
 | @lst a g l=>
  cases(show u=Xt a from j);have⟨_,_,n,_,w⟩:=(show ObjOk X.prog X.w H s.heap a (.lst g)from I.hok a _ l);erw[Zq AM I.kIn ⟨_,w,rfl⟩ e (λz=>nomatch z) h]
 | @frz a N g l=>
  cases(show u=Xt a from j);have⟨_,_,_,n,_,w⟩:=(show ObjOk X.prog X.w H s.heap a (.frz N (.lst g))from I.hok a _ l);erw[Zq AM I.kIn ⟨_,w,rfl⟩ e (λz=>nomatch z) h]
 | @tup a g l=>
  cases(show u=Xt a from j);have⟨_,_,_,p⟩:=(show ObjOk X.prog X.w H s.heap a (.tup g)from I.hok a _ l);have⟨o,w,d,_⟩:=p.1;erw[Zq PySem.W.kitx_tuple I.kIn ⟨o,w,d⟩ e (λz=>nomatch z) h]
 | @dK a m l=>
  cases(show u=Xt a from j);have⟨_,_,Y,_,p⟩:=(show ObjOk X.prog X.w H s.heap a (.dK m)from I.hok a _ l);have⟨o,P,R,w,d,_⟩:=p;erw[Zq AN I.kIn ⟨o,w,d.1⟩ e (λz=>nomatch z) h]
 | @dT a m l=>
  cases(show u=Xt a from j);have⟨_,_,g,_,o,P,R,w,d,_⟩:=(show ObjOk X.prog X.w H s.heap a (.dT m)from I.hok a _ l);erw[Zq AN I.kIn ⟨o,w,d.1⟩ e (λz=>nomatch z) h]
 | @ins a C Z fs l r T U f W=>
  cases(show u=Xt a from j);have⟨B,O,_⟩:=WI I.hok l;have⟨D,J,_⟩:=O.look;erw[Zq (PySem.W.kitx_own (r.get _) r.hd T U f W) I.kIn J e (λz=>nomatch z) h]
end
structure Room (k:Nat)(A:Xp):Prop where
 hd:A.handled=we
 dp:A.depth+3*k+5<recursionLimit
 un:A.units+16*k+200<cLine
def Room.mono{k:Nat}(r:Room k A)(h:j<=k):Room j A:=⟨r.hd,by have:=r.dp;lia,by have:=r.un;lia⟩
theorem Room.deeper{k:Nat}(r:Room (k+1) A)(j:Env):Room k (A.deeper j):=
 ⟨r.hd,by have:=r.dp;show A.depth+1+3*k+5<_;lia,by have:=r.un;show A.units+3+16*k+200<_;lia⟩
def QN{A:Xp}{C:Addr}{j:List Value}{l:List (Str×Value)}:(A.under (.builtin "type.__call__" ⟨.ref C::j,l⟩)).depth=A.depth+1:=by
 first|rfl|simp[D9,Code.weight,Code.isCreation,Code.isGuard,Code.isCaller,Code.frames,Code.isFrame,guardIds]
def QO{A:Xp}{C:Addr}{j:List Value}{l:List (Str×Value)}:(A.under (.builtin "type.__call__" ⟨.ref C::j,l⟩)).units=A.units+1:=by
 first|rfl|simp[D9,Code.cUnits,Code.frames,Code.isFrame]
def Room.make{k:Nat}(r:Room (k+1) A)(C:Addr)(us:List Value)(j:List (Str×Value)):Room k (A.under (.builtin "type.__call__" ⟨.ref C::us,j⟩)):=
 ⟨r.hd,by have:=r.dp;rw[QN];lia,by have:=r.un;rw[QO];lia⟩
theorem Room.depth{k:Nat}(r:Room k A):A.depth<recursionLimit:=by have:=r.dp;lia
noncomputable def tNil:TA:=λ_ H Q=>Q [] H
noncomputable def Zv(l:TE)(tr:TA):TA:=λj H Q=>l j H λx t=>tr j t λu w=>Q (x::u) w
section
variable{X:Cx}{e:Expr}{es:List Expr}{te:TE}{t:TA}{pos:Pos}
def pa_nil:PA X [] tNil:=λ_ _ _ _ H Q I h=>WE ⟨[],H,I,.nil,h⟩
def YT(w:PE X e te)(y:PA X es t)(z:Xm (e::es) X.env=(wg,eval e X.env)::Xm es X.env:=by rfl):PA X (e::es) (Zv te t):=by
 intro pos j s l H Q I h;rw[z];show X3 _ _ (spliced ((wg,eval e X.env)::XV pos (Xm es X.env))) _ _ s;erw[WD (thn (w j s l H _ I h) λu m g=>?_)];have⟨x,d,c,r1,f⟩:=g;erw[thn (y pos j m l d _ c f) λP R ⟨r,p,L,N,O⟩=>⟨x::r,p,L,.cons r1 N,O⟩]
def tTup(t:TA):TE:=λu H Q=>t u H λj l=>j.length<=sizeLine/\∀p,l p=we->Q (.ref p) (upd l p (.tup j))
def tLst(t:TA):TE:=λu H Q=>t u H λj l=>j.length<=sizeLine/\∀p,l p=we->Q (.ref p) (upd l p (.lst j))
def QP{y}(h:PA X es t):PE X (.Tuple es y pos) (tTup t):=by
 intro m s g H Q I d;erw[wpAny_Tuple_spliced (thn (h pos m s g H _ I d) λc j ⟨f,l,w,r,z,q⟩=>⟨by rw[<-r.length];erw[z],?_⟩)]
 have p:l j.heap.objs.size=we:=w.hok.fresh (Xc _);erw[⟨.ref j.heap.objs.size,upd l j.heap.objs.size (.tup f),w.laid (t':=j.toks) (λb u e=>Xw _ e) (Xc _) ?_,rfl,q _ p⟩];erw[⟨z,c,r,⟨_,XS _ rfl,rfl,_,rfl⟩,_,XS _ rfl,rfl⟩]
def Gj(h:PA X es t):PE X (.List es pos) (tLst t):=by
 intro y s m H Q I g;erw[wpAny_List_spliced (thn (h pos y s m H _ I g) λd j ⟨c,l,w,r,z,q⟩=>⟨by rw[<-r.length];erw[z],?_⟩)]
 have f:l j.heap.objs.size=we:=w.hok.fresh (Xc _);erw[⟨.ref j.heap.objs.size,upd l j.heap.objs.size (.lst c),w.laid (t':=j.toks) (λb u e=>Xw _ e) (Xc _) ?_,rfl,q _ f⟩];erw[⟨z,d,0,r,XS _ rfl⟩]
end
abbrev Sp:=List V->Hp->VK->XK->Prop
abbrev CXT:=List Env->Hp->X0->XK->Value->X0->Prop
structure Env0 (P:Xk)(w:Xe)(K:X1)(mg:Str->Option Value)(base:Heap)(A:Xp)(outer:List Env)(s:X0)(H:Hp):Prop where
 frames:A.frames=wc outer
 mod:Mod K mg base
 bs:∀b o,base.get? b=wc o->s.heap.get? b=wc o/\H b=we
 bsz:base.objs.size<=s.heap.objs.size
 funs:s.heap.FunFrames base outer
 frf:∀b∈frs outer,H b=we
 hok:HOk P w H s.heap
 bare:AllBare s.gens
def CE(j:List Env)(P:Xk)(w:Xe)(H:Hp)(s:X0)(Q:VK)(u:Value)(l:X0):Prop:=
 ∃v t,l.os=s.os/\AllBare l.gens/\Un (frs j) [] H t s.heap l.heap/\HOk P w t l.heap/\RelV v u/\Q v t
def CR(t:CXT)(j:List Env)(P:Xk)(w:Xe)(H:Hp)(s:X0)(Q:VK)(E:XK)(r:Result)(l:X0):Prop:=
 match r with
 |.ok (.ret u)=>CE j P w H s Q u l
 |.ok _=>False
 |.error e=>t j H s E e l
structure FnOk (P:Xk)(w:Xe)(K:X1)(mg:Str->Option Value)(base:Heap)(CX:CXT)(k:Nat)(f:Addr)(fd:YV)(ps:List Str)(sp:Sp):Prop where
 len:∀vs H Q E,sp vs H Q E->vs.length=ps.length
 run:∀(A:Xp)(outer:List Env)(s:X0)(H:Hp)(args:Args)(us:List Value)(vs:List V)(Q:VK)(E:XK),Room k A->Env0 P w K mg base A outer s H->BindsTo s fd args (ps.zip us)->Vals vs us->sp vs H Q E->
  YJ (X4 P w) A (.call (.ref f) args) (CR CX outer P w H s Q E) s
theorem FnOk.mono{K:X1}{k:Nat}(F:FnOk P w K mg base CX j f fd ps sp)(h:j<=k):
  FnOk P w K mg base CX k f fd ps sp:=⟨F.len,λA l s H t u y Q E z=>F.run A l s H t u y Q E (z.mono h)⟩
def FnOk.imp{K:X1}{k:Nat}(F:FnOk P w K mg base CX k f fd ps sp)
  (h:∀l H Q E,sp' l H Q E->sp l H Q E):FnOk P w K mg base CX k f fd ps sp':=
 ⟨λl H Q E q=>F.len l H Q E (h _ _ _ _ q),λA j s H t u l Q E y z m g d=>F.run A j s H t u l Q E y z m g (h _ _ _ _ d)⟩
def Env0.make{K:X1}{s:X0}(e:Env0 P w K mg base A outer s H)(C:Addr)(us:List Value)(j:List (Str×Value)):
  Env0 P w K mg base (A.under (.builtin "type.__call__" ⟨.ref C::us,j⟩)) outer s H:=⟨by first|erw[e.frames]|(simpa [D9,Code.envs,Code.isFrame,pushEnvs]using e.frames),e.mod,e.bs,e.bsz,e.funs,e.frf,e.hok,e.bare⟩
section
variable{X:Cx}{pj:List (Addr×Obj)}{σ:St}{H:Hp}{s s':X0}
def Inv.env0(I:Inv X pj σ H s):Env0 X.prog X.w X.K X.mg X.base X.A X.stack s H:=
 ⟨I.ok.frames,I.ok.mod,I.bs,XA I.ok.bsz I.sz,I.stack,I.stkFree,I.hok,I.bare⟩
def Inv.after(I:Inv X pj σ H s)(h:CE X.stack X.prog X.w H s Q u s'):EP X pj σ Q u s':=by
 have⟨v,y,os,j,un,l,r,q⟩:=h;have⟨m,g,d,t,w⟩:=s';obtain rfl:w=s.os:=os;erw[⟨v,y,I.call (h':=m) (L:=g) (P:=d) (O:=t) (w:=[]) un l j (λb z=>absurd z (by simp)),r,q⟩]
end
def QQ(l:Sp)(j:List V)(E:XK)(t:TA):TE:=λu H Q=>t u H λw y=>l (w++j) y Q E
def Gk(C:Addr)(m:Str)(w:Sp)(j:List V)(E:XK)(y:TE)(t:TA):TE:=λl H Q=>y l H λx u=>∃a z fs,x=.ref a/\u a=wc (.ins C z fs)/\fs.lookup m=we/\
 t l u λg d=>w (x::(g++j)) d Q E
def QR(C:Addr)(w:Sp)(l:List V)(E:XK)(t:TA):TE:=λy H Q=>t y H λz u=>∀x j,u x=we->u j=we->j≠x->
 w (.ref x::(z++l)) (upd (upd u j (.own x)) x (.ins C j [])) (λv m=>v=.non/\Q (.ref x) m) E
def Binds(K:X1)(u:YV)(l:List Str)(t:List Value):Prop:=
 ∀(s:X0)(j:List Value),K.In s.heap->(j++t).length=l.length->BindsTo s u ⟨j,[]⟩ (l.zip (j++t))
def Binds.all{K:X1}(h:∀us:List Value,us.length=ps.length->bindArgs fd ⟨us,[]⟩=pure (ps.zip us)):Binds K fd ps []:=λs us _ j=>by
 rw[Ze]at j ⊢;erw[.of_eq (h us j)]
def U8(l:CXT)(X:Cx)(E:XK):Prop:=∀(t:List (Addr×Obj))(u:St)(H:Hp)(s:X0)(e:Value)(j:X0),Inv X t u H s->l X.stack H s E e j->X.xe e j
section
variable{X:Cx}{CX:CXT}{k:Nat}{f C:Addr}{fd:YV}{ps:List Str}{sp:Sp}{dvs:List V}{ds:List Value}{E:XK}{x m:Str}{p pos apos:Pos}{e o:Expr}{es:List Expr}{ta:TE}{t:TA}
def Do{s:X0}(F:FnOk X.prog X.w X.K X.mg X.base CX k f fd ps sp)(w:Room k X.A)(y:Binds X.K fd ps ds)(hd:Vals dvs ds)(z:U8 CX X E)
  (I:Inv X pj σ H s)(r:Vals vs us)(h:sp (vs++dvs) H Q E):X3 (X4 X.prog X.w) X.A (call (.ref f) us) (EP X pj σ Q) X.xe s:=by
 have l:Vals (vs++dvs) (us++ds):=r.append hd;have g:(us++ds).length=ps.length:=by rw[<-l.length];erw[F.len _ _ _ _ h]
 erw[Vh (UK (F.run X.A X.stack s H ⟨us,[]⟩ (us++ds) (vs++dvs) Q E w I.env0 (y s us I.kIn g) l h) λr d j=>?_)];cases r with
 |error e=>erw[z pj σ H s e d I j]
 |ok c=>
  cases c with
  |ret u=>erw[I.after j]
  |next=>erw[XN j]
  |brk=>erw[XN j]
  |cont=>erw[XN j]
def Gm(F:FnOk X.prog X.w X.K X.mg X.base CX k f fd ps sp)(w:Room k X.A)(y:Gl X x)(z:X.mg x=wc (.ref f))(g:Yt X.K (.ref f)=wf)(d:Binds X.K fd ps ds)(hd:Vals dvs ds)(c:U8 CX X E)
  (L:PA X (e::es) t)(j:(x==("__debug__":Str))=wg:=by decide)(N:Xm (e::es) X.env=(wg,eval e X.env)::Xm es X.env:=by rfl)(l:(XV pos (Xm es X.env)).any (·.1)=wg:=by rfl):
  PE X (.Call (.Name x p) (e::es) [] pos) (QQ sp dvs E t):=by
 intro O s P H Q I h;erw[ZR (VE I y z ?_ j)];erw[AL (h₀:=X.base) I.ok.mod.kin g (thn (L pos O s P H _ I h) λR T ⟨U,W,u,r,q⟩=>⟨u.kIn,?_⟩) N l];erw[Do F w d hd c u r q]
def Gn{pl:Sem Bool}(N:PE X o ta)(c:Cls X.K C)(y:Meth X.K C m f)(F:FnOk X.prog X.w X.K X.mg X.base CX k f fd ps sp)(O:Room k X.A)(P:Binds X.K fd ps ds)(hd:Vals dvs ds)(R:U8 CX X E)(T:PA X (e::es) t)
  (j:Xm (e::es) X.env=(wg,eval e X.env)::Xm es X.env:=by rfl)(w:(XV pos (Xm es X.env)).any (·.1)=wg:=by rfl)
  (U:eval (.Call (.Attribute o m apos) (e::es) [] pos) X.env=(do
   let ov<- eval o X.env
   standAt apos.atName
   let(f,first)<- Z8 [ov] (getMethod ov m pl)
   callWith pos f first (XV pos (Xm (e::es) X.env)) (Zl pos (Zm [] X.env))):=by rfl):
  PE X (.Call (.Attribute o m apos) (e::es) [] pos) (Gk C m sp dvs E ta t):=by
 intro z s g H Q I h;erw[Fp (pl:=pl) (thn (N z s g H _ I h) λu W Y=>?_) U];have⟨x,Z,d,A,a,S,fs,B,D,l,q⟩:=Y;subst B;obtain rfl:u=Xt a:=A;erw[Gi d D c y l ?_];erw[AL (first:=[.ref a]) (h₀:=X.base) I.ok.mod.kin y.kp (thn (T pos z W g Z _ d q) λG v ⟨J,i,L,r,M⟩=>⟨L.kIn,?_⟩) j w]
 erw[Do (us:=.ref a::G) (vs:=.ref a::J) F O P hd R L (.cons rfl r) M]
def QS{pl:Sem Bool}(y:PE X o ta)(c:Cls X.K C)(w:Meth X.K C m f)(F:FnOk X.prog X.w X.K X.mg X.base CX k f fd ps sp)(z:Room k X.A)(g:Binds X.K fd ps ds)(hd:Vals dvs ds)(d:U8 CX X E)
  (r:eval (.Call (.Attribute o m apos) [] [] pos) X.env=(do
   let ov<- eval o X.env
   standAt apos.atName
   let(f,first)<- Z8 [ov] (getMethod ov m pl)
   callWith pos f first (XV pos (Xm [] X.env)) (Zl pos (Zm [] X.env))):=by rfl):
  PE X (.Call (.Attribute o m apos) [] [] pos) (Gk C m sp dvs E ta tNil):=by
 intro L s N H Q I h;erw[Fp (pl:=pl) (thn (y L s N H _ I h) λu U O=>?_) r];have⟨x,W,j,P,a,Y,fs,R,T,l,q⟩:=O;subst R;obtain rfl:u=Xt a:=P;erw[Gi j T c w l ?_];erw[PySem.W.callWith_K0 (first:=[.ref a]) j.kIn w.kp (Do (us:=[.ref a]) (vs:=[.ref a]) F z g hd d j (.cons rfl .nil) q)]
structure Mk (K:X1)(C f:Addr):Prop where
 makes:CZ K C=wf
 init:Y0 K (.ref C) "__init__"=wc (wc (.ref f))
 fn:AT K (.ref f)=wf
 kp:Yt K (.ref C)=wf
def QT{s:X0}(M:Mk X.K C f)(F:FnOk X.prog X.w X.K X.mg X.base CX k f fd ps sp)(g:Room (k+1) X.A)(d:Binds X.K fd ps ds)(hd:Vals dvs ds)
  (c:U8 CX X E)(I:Inv X pj σ H s)(r:Vals vs us)
  (h:∀x l,H x=we->H l=we->l≠x->sp (.ref x::(vs++dvs)) (upd (upd H l (.own x)) x (.ins C l [])) (λv L=>v=.non/\Q (.ref x) L) E):
  X3 (X4 X.prog X.w) X.A (call (.ref C) us) (EP X pj σ Q) X.xe s:=by
 have y:=h (s.heap.objs.size+1) s.heap.objs.size (I.hok.fresh (Ur _)) (I.hok.fresh (Xc _)) (XE (Wu _));have w:=Inv.made (C:=C) I;have z:Vals (V.ref (s.heap.objs.size+1)::(vs++dvs)) (Xt (s.heap.objs.size+1)::(us++ds)):=.cons rfl (r.append hd);have N:(Xt (s.heap.objs.size+1)::us++ds).length=ps.length:=by
  have e:=z.length;rw[F.len _ _ _ _ y]at e;erw[e.symm]
 erw[Vh (QE (f:=f) I.kIn M.makes M.init (beq_iff_eq.mp M.fn) (UK (F.run _ X.stack _ _ ⟨Xt (s.heap.objs.size+1)::us,[]⟩ (Xt (s.heap.objs.size+1)::(us++ds)) _ _ E (g.make C us [])
  (w.env0.make C us []) (d _ (Xt (s.heap.objs.size+1)::us) w.kIn N) z y) λr O j=>?_))]
 cases r with
 |error e=>erw[c pj σ _ _ e O w j]
 |ok P=>
  cases P with
  |ret u=>
   have⟨v,R,T,U,W,Y⟩:=w.after j;subst W;erw[⟨U,⟨V.ref (s.heap.objs.size+1),R,T,rfl,Y⟩⟩]
  |next=>erw[XN j]
  |brk=>erw[XN j]
  |cont=>erw[XN j]
def QU(M:Mk X.K C f)(F:FnOk X.prog X.w X.K X.mg X.base CX k f fd ps sp)(w:Room (k+1) X.A)(y:Gl X x)(z:X.mg x=wc (.ref C))(g:Binds X.K fd ps ds)(hd:Vals dvs ds)(d:U8 CX X E)
  (c:PA X (e::es) t)(j:(x==("__debug__":Str))=wg:=by decide)(L:Xm (e::es) X.env=(wg,eval e X.env)::Xm es X.env:=by rfl)(l:(XV pos (Xm es X.env)).any (·.1)=wg:=by rfl):
  PE X (.Call (.Name x p) (e::es) [] pos) (QR C sp dvs E t):=by
 intro N s O H Q I h;erw[ZR (VE I y z ?_ j)];erw[AL (h₀:=X.base) I.ok.mod.kin M.kp (thn (c pos N s O H _ I h) λP R ⟨T,U,u,r,q⟩=>⟨u.kIn,?_⟩) L l];erw[QT M F w g hd d u r q]
end
section
variable{X:Cx}{CX:CXT}{k:Nat}{f C:Addr}{fd:YV}{ps ks:List Str}{sp:Sp}{E:XK}{x m:Str}{p pos apos kpos:Pos}{e o:Expr}{es:List Expr}{kws:List YW}{te ta:TE}{t tk:TA}{nm:Option Str}
variable{g:List Value->List Value->List Value}{gV:List V->List V->List V}
end
structure FnScope (N P:List Str)(sc:Scope):Prop where
 kind:sc.kind=.function
 co:sc.isCoroutine=wg
 gen:sc.isGenerator=wg
 nd:N.Nodup
 pre:N.take P.length=P
 par:∀x∈P,sc.names.lookup x=wc .local\/sc.names.lookup x=wc .cell
 nofree:∀y∈sc.names,y.2≠.free
theorem Go{kindOf:Str->Option Z9}:∀{binds:List (Str×Value)} {m:Str->Option Value},(∀v,(x,v)∉binds)->bindL kindOf binds m x=m x
 |[],_,_=>rfl
 |(n,v)::r,m,h=>by
  unfold bindL;rw[Go λw j=>h w (XD _ j)];split
  .have:x≠n:=by rintro rfl;erw[h v XZ]
   simp[this]
  .rfl
theorem Gp{kindOf:Str->Option Z9}:∀{binds:List (Str×Value)} {m:Str->Option Value},(∀v,(x,v)∉binds)->bindC kindOf binds m x=m x
 |[],_,_=>rfl
 |(n,v)::r,m,h=>by
  unfold bindC;rw[Gp λw j=>h w (XD _ j)];split
  .rfl
  .have:x≠n:=by rintro rfl;erw[h v XZ]
   simp[this]
theorem Gq{kindOf:Str->Option Z9}:∀{P:List Str} {j:List Value} {i:Nat} {m:Str->Option Value},P.Nodup->P[i]?=wc x->j[i]?=wc v->kindOf x=wc .local->
  bindL kindOf (P.zip j) m x=wc v
 |[],_,_,_,_,h,_,_=>by simp at h
 |_::_,[],_,_,_,_,h,_=>by simp at h
 |p::P,w::j,0,m,nd,h1,h2,hk=>by
  simp at h1 h2;subst h1;subst h2;show bindL kindOf ((p,w)::P.zip j) m p=_;unfold bindL;rw[Go λv l=>(Yi.mp nd).1 (CS l).1,if_pos hk];simp
 |p::P,w::j,i+1,m,nd,h1,h2,hk=>by
  show bindL kindOf ((p,w)::P.zip j) m x=_;unfold bindL;erw[Gq (i:=i) (Yi.mp nd).2 (by simpa using h1) (by simpa using h2) hk]
theorem Gr{kindOf:Str->Option Z9}:∀{P:List Str} {j:List Value} {i:Nat} {m:Str->Option Value},P.Nodup->P[i]?=wc x->j[i]?=wc v->kindOf x≠wc .local->
  bindC kindOf (P.zip j) m x=wc v
 |[],_,_,_,_,h,_,_=>by simp at h
 |_::_,[],_,_,_,_,h,_=>by simp at h
 |p::P,w::j,0,m,nd,h1,h2,hk=>by
  simp at h1 h2;subst h1;subst h2;show bindC kindOf ((p,w)::P.zip j) m p=_;unfold bindC;rw[Gp λv l=>(Yi.mp nd).1 (CS l).1,if_neg hk];simp
 |p::P,w::j,i+1,m,nd,h1,h2,hk=>by
  show bindC kindOf ((p,w)::P.zip j) m x=_;unfold bindC;erw[Gr (i:=i) (Yi.mp nd).2 (by simpa using h1) (by simpa using h2) hk]
noncomputable def ZI(N:List Str)(j:List V):St:=j.map wc++Xg (N.length - j.length) we
noncomputable def cxOf(m:CXT)(P:Xk)(w:Xe)(K:X1)(g:Str->Option Value)(y:Heap)(N:List Str)(t:Str)(j:Scope)(f:Addr)(z:Value)(A:Xp)(l:List Env)(s:X0)(H:Hp)(E:XK):Cx where
 prog:=P
 w:=w
 K:=K
 mg:=g
 base:=y
 A:=A.deeper (envOfC t j s.heap.objs.size f z)
 N:=N
 s₀:=s
 H₀:=H
 env:=envOfC t j s.heap.objs.size f z
 outer:=l
 stack:=envOfC t j s.heap.objs.size f z::l
 ex:=[]
 calm:=wf
 fn:=λ_=>wf
 pn:=[]
 xe:=λe d=>X3 (X4 P w) (A.deeper (envOfC t j s.heap.objs.size f z)) (leaving (envOfC t j s.heap.objs.size f z) e) (λ_ u=>m l H s E e u) (λc u=>m l H s E c u) d
def Gs{j:Scope}{n:Nat}{x:Str}(h:j.names.lookup x=wc .cell):∃c,(cellsFrom n j.names []).lookup x=wc c:=by
 have q:=Fo j.names n [] (.inl h);erw[Option.isSome_iff_exists.mp q]
def QV{F:CXT}{P:Xk}{w:Xe}{K:X1}{C:Str->Option Value}{g:Heap}{N L:List Str}{t:Str}{j:Scope}{f:Addr}{Y:Value}{A:Xp}{l:List Env}{s G:X0}{H:Hp}{E:XK}{D:List Value}{O:List V}
  (S:FnScope N L j)(hd:A.handled=we)(d:Env0 P w K C g A l s H)(o:O.length=L.length)(r:Vals O D)
  (x:InCallC s s.heap.objs.size (bindL (envOfC t j s.heap.objs.size f Y).kindOf (L.zip D) λ_=>we) (cellsFrom (s.heap.objs.size+1) j.names []) (bindC (envOfC t j s.heap.objs.size f Y).kindOf (L.zip D) λ_=>we) G):
  Inv (cxOf F P w K C g N t j f Y A l s H E) [] (ZI N O) H G:=by
 have M:L.length<=N.length:=by have:=congrArg Wp S.pre;rw[Ys]at this;lia
 have⟨Z,tk,rfl,I⟩:=x.done;have R:∀b:Addr,b∉(cxOf F P w K C g N t j f Y A l s H E).ex:=λb z=>absurd (show b∈([]:List Addr)from z) (by simp)
 erw[⟨⟨d.mod,S.kind,rfl,rfl,Xc _,λy z c Z m=>?_,λy T=>?_,λy c _ h=>?_,λ_=>hd,Around.frames_deeper d.frames,.inr ⟨rfl,rfl⟩,λb z=>absurd z (R b),d.bs,d.bsz,λb _ _=>R b,λb z=>absurd z (R b),d.funs,d.frf⟩,
  rfl,d.bare,Un.kept I,⟨_,x.toInCall.ns,λi y v Z m h3=>?_⟩,λy c h=>⟨_,x.cell y c h⟩,d.hok.fresh (Xc _),λy c h=>?_,λp U=>absurd (show p∈([]:List (Addr×Obj))from U) (by simp),d.hok.kept I,?_⟩]
 .erw[name_of_addr x.apart (VB Z) (VB m)]
 .have T:j.names.lookup y=wc .cell\/j.names.lookup y=wc .free:=T;rcases T with T|T
  .erw[Gs T]
  .erw[absurd rfl (S.nofree _ (VB T))]
 .erw[UU (x.above y c (VB h))]
 .have B:i<O.length:=by
   unfold ZI at m;by_cases B:i<O.length
   .erw[B]
   .rw[ZU (by simpa using B)]at m
    rw[Fl]at m;split at m<;>cases m
  have Q:O[i]?=wc v:=by
   unfold ZI at m;rw[ZV (by simpa using B),Xl]at m
   cases e:O[i]? with
   |none=>rw[e]at m;cases m
   |some a=>rw[e]at m;cases m;rfl
  have⟨u,J,X⟩:=r.get Q;have U:L[i]?=wc y:=by
   rw[<-S.pre,List.getElem?_take_of_lt (by lia)];erw[Z]
  have W:L.Nodup:=by rw[<-S.pre];erw[S.nd.sublist (List.take_sublist _ _)]
  erw[⟨u,X,?_⟩];rcases S.par y (Xv U)with k|k
  .erw[.inl ⟨k,Gq W U J k⟩]
  .have⟨c,e⟩:=Gs (n:=s.heap.objs.size+1) k;erw[.inr ⟨.inl k,c,e,?_⟩];have q:=x.cell y c e;rw[Gr W U J (by show j.names.lookup y≠_;rw[k];decide)]at q
   erw[q]
 .erw[d.hok.fresh (UU (x.above y c (VB h)))]
 .unfold ZI;show _=N.length;rw[Yf,X7,Za];lia
def Gu{K:X1}{k:Nat}{name:Str}{kV:Value}
    (D:K.lookup f=wc ⟨oc,od,.func (ZC name qual params body scope dV kV doc pm an cdv ct),osl⟩)(R:AR K cdv qual=wf)(S:FnScope N ps scope)
  (len:∀l H Q E,sp l H Q E->l.length=ps.length)
  (g:∀(A:Xp)(j:List Env)(s:X0)(H:Hp)(l:List V)(Q:VK)(E:XK),Room k (A.deeper (envOfC qual scope s.heap.objs.size f cdv))->sp l H Q E->
   ∃t,PSs (cxOf CX P w K mg base N qual scope f cdv A j s H E) body t/\t {nx:=λ_ m=>Q .non m,rt:=Q} (ZI N l) H):
  FnOk P w K mg base CX (k+1) f (ZC name qual params body scope dV kV doc pm an cdv ct) ps sp:=by
 erw[⟨len,λA j s H Z F l Q E T p G r L=>?_⟩];have M:=len _ _ _ _ L;have B:K.In s.heap:=p.mod.kin.keeps λb o e=>(p.bs b o e).1;have U:s.heap.NoLimit:=p.mod.nolimit.keeps λb o e=>(p.bs b o e).1;have d:∀y∈ps.zip F,scope.names.lookup y.1=wc .local\/(scope.names.lookup y.1=wc .cell/\((cellsFrom (s.heap.objs.size+1) scope.names []).lookup y.1).isSome=wf):=fun⟨n,v⟩ X=>by
  rcases S.par n (CS X).1 with q|q
  .erw[.inl q]
  .erw[.inr ⟨q,Fo _ _ _ (.inl q)⟩]
 erw[codeAny_call_function T.depth (B _ _ D) rfl S.co S.gen rfl (PySem.W.codeRec_of B R) (G _ _ _ _ ?_)];erw[wpAny_newFunctionEnv_cells S.kind d λi h C x=>?_];subst h;erw[⟨U.keeps x.toInCall.keep,codeAny_func ?_⟩];have⟨t,a,hq⟩:=g A j s H l Q E (T.deeper _) L;have I:Inv (cxOf CX P w K mg base N qual scope f cdv A j s H E) [] (ZI N l) H C:=QV S T.hd p M r x;erw[Yd (a [] C (ZI N l) H _ I hq) (λfl W c=>?_) λe W c=>c];have O:∀{z:St} {m:Hp} {v:V} {u:Value},Inv (cxOf CX P w K mg base N qual scope f cdv A j s H E) [] z m W->RelV v u->Q v m->CE j P w H s Q u W:=
  fun{z m v u} J Y q=>⟨v,m,J.os,J.bare,J.base,J.hok,Y,q⟩
 cases fl with
 |ret u=>
  have⟨v,z,m,J,Y,q⟩:=c;erw[O J Y q]
 |next=>
  have⟨z,m,J,q⟩:=c;erw[O (v:=V.non) (u:=Us) J rfl q]
 |brk=>
  have⟨_,_,_,q⟩:=c;erw[XN q]
 |cont=>
  have⟨_,_,_,q⟩:=c;erw[XN q]
section
variable{X:Cx}{x:Str}{p pos:Pos}{e:Expr}{es:List Expr}{t:TA}{id T:String}{r:List V->Hp->VK->Prop}
def tCB(r:List V->Hp->VK->Prop)(t:TA):TE:=λj H Q=>t j H λl u=>r l u Q
def BB(y:Yw X (.builtin id) r)(z:Gl X x)(m:X.mg x=we)(g:Ym x=wc (.builtin id))(d:PA X (e::es) t)(c:x≠"__name__":=by decide)(j:(x==("__debug__":Str))=wg:=by decide)
  (f:Xm (e::es) X.env=(wg,eval e X.env)::Xm es X.env:=by rfl)(l:(XV pos (Xm es X.env)).any (·.1)=wg:=by rfl):PE X (.Call (.Name x p) (e::es) [] pos) (tCB r t):=by
 intro u s w H Q I h;erw[ZR (U7 I z m g ?_ c j)];erw[Fu (thn (d pos u s w H _ I h) λL N ⟨O,P,R,r1,U⟩=>y u N w P O L Q R r1 U) f l]
def Gv(y:Yw X (.type T) r)(z:Gl X x)(m:X.mg x=we)(g:Ym x=wc (.type T))(d:PA X (e::es) t)(c:x≠"__name__":=by decide)(j:(x==("__debug__":Str))=wg:=by decide)
  (f:Xm (e::es) X.env=(wg,eval e X.env)::Xm es X.env:=by rfl)(l:(XV pos (Xm es X.env)).any (·.1)=wg:=by rfl):PE X (.Call (.Name x p) (e::es) [] pos) (tCB r t):=by
 intro u s w H Q I h;erw[ZR (U7 I z m g ?_ c j)];erw[WC (thn (d pos u s w H _ I h) λL N ⟨O,P,R,r1,U⟩=>y u N w P O L Q R r1 U) f l]
end
end L2
namespace HT
open PySem PyProof.Rows
section
open PySem.SeqAt
open PySem.AutoSeq1 (wpAny_loadPart')
open PySem.MeetsSeq PySem.MeetsSeq2 PySem.MeetsSeq3
end
section
variable{prog:Xk}{w:Xe}{A:Xp}{E:Value->X0->Prop}{s:X0}
def cat_tup{t:Addr}(N:IsTup s.heap t vs.toArray)(O:IsTup s.heap b ws.toArray)(g:vs≠ [])
  (P:ws=[]->Q (.ref t) s)(R:ws≠ []->Q (.ref s.heap.objs.size) {s with heap:=s.heap.push {cls:=.type "tuple",data:=.seq (vs++ws).toArray} })
  (m:vs.length+ws.length<=sizeLine):X3 (X4 prog w) A (Yh .Add (.ref t) (.ref b)) Q E s:=by
 have⟨⟨T,d,c,f⟩,z,r,n,hd⟩:=id N;have⟨⟨p,l,data2,u⟩,j,y,L,hd2⟩:=id O;simp only at r hd y hd2;subst r hd y hd2;have e:vs.toArray++ws.toArray=(vs++ws).toArray:=by simp
 by_cases hw:ws=[]
 .erw[concat_meets ⟨_,z,rfl⟩ ⟨_,j,rfl⟩ noFill_tuple_add seq_tuple_add FQ FK (FH _ _)
   (tuple_addW1 t b vs.toArray ws.toArray n L d l f u (by simpa using g) (by simp[hw])) ⟨z,j,P hw⟩]
 .erw[concat_meets ⟨_,z,rfl⟩ ⟨_,j,rfl⟩ noFill_tuple_add seq_tuple_add FQ FK (FH _ _)
   (tuple_addW2 t b vs.toArray ws.toArray n L d l f u (by simpa using g) (by simpa using hw) (by rw[XJ,XJ];erw[m])) ⟨z,j,?_⟩]
  rw[e];erw[R hw]
noncomputable def sIx(n d:Nat):Option Int->Nat
 |we=>d
 |wc v=>if v<0 then(v+(n:Int)).toNat else min v.toNat n
def sIx_none(n d:Nat):sIx n d we=d:=rfl
def sIx_nat(n d k:Nat):sIx n d (wc (k:Int))=min k n:=by
 show(if(k:Int)<0 then((k:Int)+(n:Int)).toNat else min (k:Int).toNat n)=min k n;rw[if_neg (by lia),Z2]
def QW(n d:Nat)(hd:d<=n)(o:Option Int):sIx n d o<=n:=by
 cases o with
 |none=>erw[hd]
 |some v=>
  show(if v<0 then(v+(n:Int)).toNat else min v.toNat n)<=n;by_cases hv:v<0
  .rw[if_pos hv];lia
  .rw[if_neg hv];erw[Nat.min_le_right _ _]
def Gw(v:Int)(n d:Nat):(if v<0 then max (v+(n:Int)) 0 else min v (n:Int))=((sIx n d (wc v):Nat):Int):=by
 show(if v<0 then max (v+(n:Int)) 0 else min v (n:Int))=(((if v<0 then(v+(n:Int)).toNat else min v.toNat n):Nat):Int);by_cases hv:v<0
 .simp only[if_pos hv];lia
 .simp only[if_neg hv];lia
def QX(lo j:Option Int)(n:Nat):Dd lo j 1 (n:Int)=(((sIx n 0 lo:Nat):Int),((sIx n n j:Nat):Int)):=by
 have l:¬((1:Int)<0):=by lia
 unfold Dd;simp only[l,if_false];erw[Prod.ext ?_ ?_]
 .cases lo with
  |none=>rfl
  |some v=>erw[Gw v n 0]
 .cases j with
  |none=>rfl
  |some v=>erw[Gw v n n]
def QY(i j:Nat):Bl (i:Int) (j:Int) 1=j - i:=by
 unfold Bl;have l:(1:Int)>0:=by lia
 simp only[l,if_true,Int.ediv_one];split<;>lia
def Gx(p:IsPart v o)(h:Q o s):X3 (X4 prog w) A (Builtin.Slice.slicePartIndex v) Q E s:=by
 cases p with
 |none=>erw[slicePart_none h]
 |int i t=>erw[slicePart_int h]
def Gy{z:Addr}{u y:Value}{lo j:Option Int}{n:Nat}{Q:Int×Int×Nat->X0->Prop}(m:s.heap.IsSliceOf z u y .none)(pl:IsPart u lo)(g:IsPart y j)
  (h:Q (((sIx n 0 lo:Nat):Int),1,sIx n n j - sIx n 0 lo) s):X3 (X4 prog w) A (FC (.ref z) (pure (n:Int))) Q E s:=by
 have⟨os,l,d,t⟩:=id m;unfold FC Builtin.Slice.sliceFields;erw[X2 (X2 (wpAny_field l t (x:=u) rfl (X2 (wpAny_field l t (x:=y) rfl (X2 (wpAny_field l t (x:=.none) rfl (X8 ?_)))))))];erw[X2 (slicePart_none ?_)];show X3 _ _ (if((1:Int)==0)=wf then _ else _) _ _ s;rw[if_neg (by decide)]
 erw[X2 (Gx pl (X2 (Gx g (X2 (X8 ?_)))))];show X3 _ _ (match Dd lo j 1 (n:Int)with|(lo,j)=>pure (lo,(1:Int),Bl lo j 1)) _ _ s
 rw[QX lo j n];show X3 _ _ (pure (((sIx n 0 lo:Nat):Int),(1:Int),Bl ((sIx n 0 lo:Nat):Int) ((sIx n n j:Nat):Int) 1)) _ _ s;rw[QY];erw[X8 h]
def QZ(j:Array Value)(i k:Nat):((Xr k).filterMap fun(m:Nat)=>j[((i:Int)+(m:Int)*1).toNat]?).toArray=((j.toList.drop i).take k).toArray:=by
 have e:(fun(m:Nat)=>j[((i:Int)+(m:Int)*1).toNat]?)=λm=>j[i+m]?:=by
  funext m
  have:((i:Int)+(m:Int)*1).toNat=i+m:=by lia
  rw[this]
 rw[e];have:=pick_run j i k;rw[List.filterMap_map]at this;have l:((λx=>j[x]?)∘ λx=>i+x)=λm=>j[i+m]?:=rfl;rw[l]at this;rw[this]
def getItem_tuple_cut{t:Addr}{items:Array Value}{lo:Option Int}(l:IsTup s.heap t items)(d:s.heap.IsSliceOf sl vl vu .none)(pl:IsPart vl lo)(c:IsPart vu hi)
  (hw:¬(sIx items.size 0 lo=0/\sIx items.size items.size hi=items.size))
  (h:Q (.ref s.heap.objs.size) {s with heap:=s.heap.push {cls:=.type "tuple",data:=.seq ((items.toList.drop (sIx items.size 0 lo)).take (sIx items.size items.size hi - sIx items.size 0 lo)).toArray} })
  (f:items.size<=sizeLine):X3 (X4 prog w) A (getItem (.ref t) (.ref sl)) Q E s:=by
 have j:sizeOk (.seq ((items.toList.drop (sIx items.size 0 lo)).take (sIx items.size items.size hi - sIx items.size 0 lo)).toArray):=by
  show((items.toList.drop (sIx items.size 0 lo)).take (sIx items.size items.size hi - sIx items.size 0 lo)).toArray.size<=sizeLine;rw[XJ,Ys,Wn,Yb];lia
 have p:sIx items.size items.size hi<=items.size:=QW _ _ (Xc _) hi;have⟨os,u,y,r⟩:=id d;have z:s.TypeIs (.ref sl) "slice":=⟨os,u,y⟩;unfold getItem
 try with_reducible erw[YI ?_]
 first|erw[X2 (X8 ?_)]|skip
 erw[X2 (wpAny_sequenceKey l.typeIs (by decide) ?_)]
 erw[X2 (At (name:=VC "__getitem__") l.typeIs VA
  (Zn VA l.typeIs entry_tuple_getitem ?_ (args_tuple_getitem _ _)))]
 show X3 _ _ (Fw (.ref t)>>= _) _ _ s;erw[X2 (tupleItemsOf_ l ?_)];erw[X2 (UL z ?_)];rw[if_pos (by decide)]
 erw[X2 (Gy d pl c ?_)];have g:¬((((sIx items.size 0 lo:Nat):Int)==0&&(1:Int)==1&&(sIx items.size items.size hi - sIx items.size 0 lo)==items.size)=wf):=by
  intro q;rw[Xs,Xs]at q;have e:((sIx items.size 0 lo:Nat):Int)=0:=eq_of_beq q.1.1;have L:sIx items.size items.size hi - sIx items.size 0 lo=items.size:=eq_of_beq q.2;erw[hw ⟨by lia,by lia⟩]
 show X3 _ _ (if(((sIx items.size 0 lo:Nat):Int)==0&&(1:Int)==1&&(sIx items.size items.size hi - sIx items.size 0 lo)==items.size)=wf then _ else _) _ _ s;rw[if_neg g,QZ]
 first
  |erw[X2 (m:=Bi _) (ZS (X8 ⟨_,rfl,X8 h⟩) j)]
  |erw[X2 (m:=Bi _) (ZS (X2 (X8 (X8 ⟨_,rfl,X8 h⟩))) j)]
  |erw[X2 (X2 (m:=Bi _) (ZS (X8 (X8 ⟨_,rfl,X8 h⟩)) j))]
  |erw[X2 (X2 (m:=Bi _) (ZS (X8 ⟨_,rfl,X8 h⟩) j))]
end
end HT
namespace L2
open PySem PySem.Spec PyProof.Rows
abbrev TO:=St->Hp->(Option Int->Hp->Prop)->Prop
def PO(X:Cx)(e:Option Expr)(t:TO):Prop:=
 ∀(l:List (Addr×Obj))(s:X0)(j:St)(H:Hp)(Q:Option Int->Hp->Prop),Inv X l j H s->t j H Q->
  X3 (X4 X.prog X.w) X.A (evalPart e X.env) (λu y=>∃o w,Inv X l j w y/\IsPart u o/\Q o w) X.xe s
noncomputable def R0:TO:=λ_ H Q=>Q we H
noncomputable def R4(t:TE):TO:=λj H Q=>t j H λx l=>∃i,x=.int i/\Q (wc i) l
section
variable{X:Cx}{e:Expr}{te:TE}{lo hi:Option Expr}{tl th:TO}{pos p2:Pos}
def R5:PO X we R0:=by
 intro j s l H Q I h;rw[evalPart_none];erw[X8 ⟨we,H,I,.none,h⟩]
def R6(h:PE X e te):PO X (wc e) (R4 te):=by
 intro j s l H Q I w;rw[evalPart_some];erw[thn (h j s l H _ I w) λu d y=>?_];have⟨x,z,m,r1,g⟩:=y;have⟨i,rfl,q⟩:=g;have⟨t,rfl⟩:=r1;erw[⟨wc i,z,m,.int i t,q⟩]
def SlR(X:Cx)(r:V->Option Int->Option Int->Hp->VK->Prop):Prop:=
 ∀(j:List (Addr×Obj))(s:X0)(l:St)(H:Hp)(x:V)(v t u:Value)(lo hi:Option Int)(w:Addr)(Q:VK),Inv X j l H s->RelV x v->s.heap.IsSliceOf w t u .none->IsPart t lo->IsPart u hi->r x lo hi H Q->
  ∃T id,typeLookup (.type T) "__getitem__"=pure (wc (.builtin id))/\s.TypeIs v T/\X3 (X4 X.prog X.w) X.A (getItem v (.ref w)) (EP X j l Q) X.xe s
def tSl(r:V->Option Int->Option Int->Hp->VK->Prop)(te:TE)(tl th:TO):TE:=λj H Q=>te j H λx t=>tl j t λl w=>th j w λu y=>r x l u y Q
def R7{r:V->Option Int->Option Int->Hp->VK->Prop}(d:SlR X r)(c:PE X e te)(f:PO X lo tl)(p:PO X hi th):PE X (.Subscript e (.Slice lo hi we p2) pos) (tSl r te tl th):=by
 intro t s w H Q I h;erw[Subscript_ (thn (c t s w H _ I h) λv L m=>?_)];have⟨x,N,O,r1,P⟩:=m;erw[wpAny_Slice (thn (f t L w N _ O P) λy R ⟨l,U,W,Y,Z⟩=>thn (p t R w U _ W Z) λz j m=>?_)];have⟨u,g,A,B,C⟩:=m;rw[evalPart_none];erw[X8 ?_];have D:Inv X t w g {j with heap:=j.heap.push {cls:=.type "slice",data:=.fields #[y,z,.none]} }:=A.kept (t':=j.toks) fun b J q=>Xw _ q;have⟨T,id,E,F,G⟩:=d t {j with heap:=j.heap.push {cls:=.type "slice",data:=.fields #[y,z,.none]} } w g x v y z l u j.heap.objs.size Q D r1 (Heap.IsSliceOf.new ..) Y B C;show X3 (X4 X.prog X.w) X.A (subscriptTail e (.Slice lo hi we p2) v (.ref j.heap.objs.size)) (EP X t w Q) X.xe {j with heap:=j.heap.push {cls:=.type "slice",data:=.fields #[y,z,.none]} };erw[tail_any (ops:=[.ref j.heap.objs.size,v]) F E G (by with_unfolding_all rfl)]
noncomputable def cutV(j:List V)(lo hi:Option Int):List V:=(j.drop (HT.sIx j.length 0 lo)).take (HT.sIx j.length j.length hi - HT.sIx j.length 0 lo)
def Gz(j:List V)(lo hi:Option Int):(cutV j lo hi).length<=j.length:=by
 unfold cutV;rw[Ys,Wn];lia
def rSlT(K:X1):V->Option Int->Option Int->Hp->VK->Prop:=λx lo hi H Q=>∃a j,x=.ref a/\SqT K H a j/\
 ¬(HT.sIx j.length 0 lo=0/\HT.sIx j.length j.length hi=j.length)/\∀p,H p=we->Q (.ref p) (upd H p (.tup (cutV j lo hi)))
def R8:SlR X (rSlT X.K):=by
 intro f s p H x v L N lo hi O Q I y z m g h;have⟨a,l,rfl,d,c,q⟩:=h;cases y;have⟨t,r,u,w⟩:=I.tuple d;have j:t.toArray.size=l.length:=by rw[XJ];erw[r.length.symm]
 erw[⟨"tuple",_,VA.lookup,u.typeIs,?_⟩];erw[HT.getItem_tuple_cut u z m g (by rw[j];erw[c]) ?_ (by rw[j];erw[w])]
 rw[j];erw[⟨.ref s.heap.objs.size,_,I.laid (t':=s.toks) (o:=.tup (cutV l lo hi)) (λb P q=>Xw _ q) (Xc _) ?_,rfl,q _ (I.hok.fresh (Xc _))⟩];erw[⟨XA (Gz l lo hi) w,_,(r.drop (HT.sIx l.length 0 lo)).take (HT.sIx l.length l.length hi - HT.sIx l.length 0 lo),IsTup.new _ _,_,XS _ rfl,rfl⟩]
def R9(K:X1):R2:=λx y H Q=>∃a b l j,x=.ref a/\y=.ref b/\SqT K H a l/\SqT K H b j/\l≠ []/\l.length+j.length<=sizeLine/\
 (j=[]->Q (.ref a) H)/\(j≠ []->∀p,H p=we->Q (.ref p) (upd H p (.tup (l++j))))
def Vals.nil_iff(r:Vals xs us):us=[]↔xs=[]:=by
 cases r with
 |nil=>simp
 |cons _ _=>simp
def Ra:OpR X (Yh .Add) (R9 X.K):=by
 intro R s T H x y v u Q I m g h;have⟨a,b,d,c,rfl,rfl,f,r,p,l,L,N⟩:=h;cases m;cases g;have⟨O,r1,P,_⟩:=I.tuple f;have⟨t,j,p2,_⟩:=I.tuple r;erw[HT.cat_tup P p2 (λz=>p (r1.nil_iff.mp z)) (λz=>⟨.ref a,H,I,rfl,L (j.nil_iff.mp z)⟩) (λz=>?_) (by rw[<-r1.length,<-j.length];erw[l])]
 erw[⟨.ref s.heap.objs.size,_,I.laid (t':=s.toks) (o:=.tup (d++c)) (λb U q=>Xw _ q) (Xc _) ?_,rfl,N (λw=>z (j.nil_iff.mpr w)) _ (I.hok.fresh (Xc _))⟩];erw[⟨by rw[Yf];erw[l],_,r1.append j,IsTup.new _ _,_,XS _ rfl,rfl⟩]
end
noncomputable def ixN(n:Nat)(i:Int):Option Nat:=if 0<=i then(if i<n then wc i.toNat else we)else if -(n:Int)<=i then wc (i+n).toNat else we
def atI{α:Type}(xs:List α)(i:Int):Option α:=(ixN xs.length i).bind λj=>xs[j]?
def GA(h:ixN n i=wc j):seqIndex? i n=wc j/\j<n/\ -(n:Int)<=i/\i<n:=by
 unfold ixN at h;by_cases h0:0<=i
 .rw[if_pos h0]at h;by_cases h1:i<n
  .rw[if_pos h1]at h;have e:i.toNat=j:=Y6 h;erw[⟨by rw[seqIndex_of h0 h1,e],by lia,by lia,h1⟩]
  .rw[if_neg h1]at h;cases h
 .rw[if_neg h0]at h;by_cases h1:-(n:Int)<=i
  .rw[if_pos h1]at h;have e:(i+n).toNat=j:=Y6 h;erw[⟨by rw[seqIndex_neg (by lia) h1,e],by lia,h1,by lia⟩]
  .rw[if_neg h1]at h;cases h
def Dp{t:Type}{l:List t}{i:Int}{v:t}(h:atI l i=wc v):∃j,seqIndex? i l.length=wc j/\l[j]?=wc v/\j<l.length/\ -(l.length:Int)<=i/\i<l.length:=by
 unfold atI at h;cases e:ixN l.length i with
 |none=>rw[e]at h;cases h
 |some j=>
  rw[e]at h;have⟨u,w,y,z⟩:=GA e;erw[⟨j,u,h,w,y,z⟩]
def Y4{t:Type}{l:List t}{j:Nat}{v:t}(h:l[j]?=wc v):atI l (j:Int)=wc v:=by
 have u:j<l.length:=(XF.mp h).1;have e:ixN l.length (j:Int)=wc j:=by
  unfold ixN;rw[if_pos (by lia),if_pos (by lia)];simp
 unfold atI;rw[e];erw[h]
def GD(b:Expr):Prop:=∀o i,subscripted b wg o i=operate [o,i] (getItem o i)
def IxR(X:Cx)(r:R2):Prop:=
 ∀(l j:Expr)(t:List (Addr×Obj))(s:X0)(w:St)(H:Hp)(x y:V)(v u:Value)(Q:VK),Inv X t w H s->RelV x v->RelV y u->r x y H Q->
  subscripted j wg v u=operate [v,u] (getItem v u)->X3 (X4 X.prog X.w) X.A (subscriptTail l j v u) (EP X t w Q) X.xe s
def MtR(X:Cx)(id:String)(r:V->List V->Hp->VK->Prop):Prop:=
 ∀(j:List (Addr×Obj))(s:X0)(l:St)(H:Hp)(x:V)(t:List V)(v:Value)(u:List Value)(Q:VK),Inv X j l H s->RelV x v->Vals t u->r x t H Q->
  X3 (X4 X.prog X.w) X.A (call (.builtin id) (v::u)) (EP X j l Q) X.xe s
section
variable{X:Cx}{a b:Expr}{ta tb:TE}{pos:Pos}
def GE{r:R2}(j:IxR X r)(l:PE X a ta)(t:PE X b tb)(w:GD b):PE X (.Subscript a b pos) (tOp r ta tb):=by
 intro z s m H Q I h;erw[Subscript_ (binT l t I h λv u g x y d c f p q=>j a b z g m d x y v u Q c f p q (w _ _))]
def rIxL(K:X1):R2:=λx y H Q=>∃p j i v,x=.ref p/\y=.int i/\SqL K H p j/\atI j i=wc v/\Q v H
def rIxT(K:X1):R2:=λx y H Q=>∃p j i v,x=.ref p/\y=.int i/\SqT K H p j/\atI j i=wc v/\Q v H
def rIxS:R2:=λx y H Q=>∃z i c,x=.str z/\y=.int i/\z.length<=sizeLine/\atI z.cps.toList i=wc c/\Q (.str ⟨#[c]⟩) H
def GF:IxR X (rIxL X.K):=by
 intro g d N s O H x y v u Q I T U h P;have⟨p,E,i,z,rfl,rfl,W,Y,q⟩:=h;cases T;have⟨t,rfl⟩:=U;have⟨c,r,f,F⟩:=I.list W;have⟨j,m,Z,G,A,B⟩:=Dp Y;have⟨w,R,e⟩:=r.get Z;have C:=r.length;have J:=VG;have l:EP X N O Q w s:=⟨z,H,I,e,q⟩;by_cases h0:0<=i
 .have L:i.toNat=j:=by
   rw[seqIndex_of h0 B]at m;erw[Y6 m]
  erw[item_listR f.isList h0 (by lia) (by rw[L];simpa using R) l P]
 .have L:(i+(c.toArray.size:Int)).toNat=j:=by
   rw[seqIndex_neg (by lia) A]at m
   rw[XJ,<-C];erw[Y6 m]
  erw[subscriptTail_builtinR (x:=w) f.isList.typeIs slot_list_getitem.lookup
   (wpAny_getItem_list_neg (Q:=λr D=>r=w/\EP X N O Q r D) f.isList (by lia) (by rw[XJ]<;>lia) (by lia) (by rw[L];simpa using R) ⟨rfl,l⟩) P]
def Rb:IxR X (rIxT X.K):=by
 intro l m c s f H x y v u Q I L N h O;have⟨p,B,i,z,rfl,rfl,P,R,q⟩:=h;cases L;have⟨t,rfl⟩:=N;have⟨T,r,e,C⟩:=I.tuple P;have⟨j,U,W,D,E,F⟩:=Dp R;have⟨w,Y,g⟩:=r.get W;have Z:=r.length;have G:=VG;have d:EP X c f Q w s:=⟨z,H,I,g,q⟩;erw[subscriptTail_builtinR (x:=w) e.typeIs slot_tuple_getitem.lookup
  (getItem_tuple (j:=j) (Q:=λr A=>r=w/\EP X c f Q r A) e (by lia) (by lia) (by rw[XJ,<-Z];erw[U]) (by simpa using Y) ⟨rfl,d⟩) O]
def Rc:IxR X rIxS:=by
 intro l w R s T H x y v u Q I g d h f;have⟨z,i,c,rfl,rfl,U,r,q⟩:=h;have⟨t,rfl⟩:=g;have⟨W,rfl⟩:=d;have⟨j,m,p,Y,e,L⟩:=Dp r;have N:z.cps.toList.length=z.length:=by simp[Bq]
 rw[N]at m e L;have Z:=VG;erw[tail_any (typeIs_str s z t) slot_str_getitem.lookup (getItem_str (c:=c) (by
  have O:decide (i< -(2^63:Int))=wg:=decide_eq_false (by lia)
  have P:decide (i >= 2^63)=wg:=decide_eq_false (by lia)
  rw[O,P,Bool.or_false]) (by rw[m];simpa using p) ⟨.str ⟨#[c]⟩,H,I.tok _,⟨_,rfl⟩,q⟩) f]
def Re(l:List Value)(n j:Nat)(u:Value):U5 (·.setIfInBounds j u) {cls:=.type "list",data:=.seq l.toArray n}={cls:=.type "list",data:=.seq (l.set j u).toArray n}:=by
 simp[U5]
theorem Inv.lst{s:X0}(I:Inv X pj σ H s)(h:H p=wc (.lst xs)):
  ∃(j:List Value) (n:Nat),Vals xs j/\s.heap.get? p=wc {cls:=.type "list",data:=.seq j.toArray n}/\xs.length<=sizeLine:=by
 have⟨z,j,n,r,e⟩:=I.hok p _ h;erw[⟨j,n,r,e,z⟩]
def Inv.lstUpd{z:List (Addr×Obj)}{m:St}{H:Hp}{s:X0}{p:Addr}{d w:List V}{l j:List Value}{n y:Nat}{f:Obj->Obj}(I:Inv X z m H s)(h:H p=wc (.lst d))
  (c:s.heap.get? p=wc {cls:=.type "list",data:=.seq l.toArray n})(g:f {cls:=.type "list",data:=.seq l.toArray n}={cls:=.type "list",data:=.seq j.toArray y})(r:Vals w j)(L:w.length<=sizeLine)(t:Nat):
  Inv X z m (upd H p (.lst w)) {s with heap:=s.heap.update p f,toks:=t}:=by
 have e:(s.heap.update p f).get? p=wc {cls:=.type "list",data:=.seq j.toArray y}:=by
  rw[Wt f c (by rw[g]<;>rfl),g]
 erw[I.write (x:=p) (e:=p) (by rw[h];trivial) (.inl rfl) (λb u N q=>(AU _ _ (XT N)).trans q) ⟨_,e⟩ ?_]
 erw[⟨L,j,y,r,e⟩]
def Rf:V->V->V->Hp->(Hp->Prop)->Prop:=λo i v H Q=>∃p l k j,o=.ref p/\i=.int k/\H p=wc (.lst l)/\ixN l.length k=wc j/\Q (upd H p (.lst (l.set j v)))
def Rg:PSet X Rf:=by
 intro e s L H o i v W Y u Q I N O P h;have⟨p,R,k,j,rfl,rfl,g,T,q⟩:=h;cases N;have⟨t,rfl⟩:=O;have⟨l,n,r,y,U⟩:=I.lst g;have⟨w,Z,d,c⟩:=GA T;have z:=r.length;have A:=VG;have f:Inv X e L (upd H p (.lst (R.set j v))) {s with heap:=s.heap.update p (U5 (·.setIfInBounds j u))}:=
  I.lstUpd g y (Re l n j u) (r.set P j) (by rw[Uo];erw[U]) s.toks
 by_cases h0:0<=k
 .have m:k.toNat=j:=by
   rw[seqIndex_of h0 c]at w;erw[Y6 w]
  erw[PySem.W.ki_setAt y h0 (by lia) (by rw[XJ,<-z];erw[c]) (by rw[m];erw[⟨_,f,q⟩])]
 .have m:(k+(l.toArray.size:Int)).toNat=j:=by
   rw[seqIndex_neg (by lia) d]at w
   rw[XJ,<-z];erw[Y6 w]
  erw[PySem.W.ki_setBack y (by lia) (by rw[XJ,<-z];erw[d]) (by lia) (by rw[m];erw[⟨_,f,q⟩])]
def Dq(lo j:Option Int)(n:Nat):(YX lo j we n).1=((HT.sIx n 0 lo:Nat):Int)/\(YX lo j we n).2.1=((HT.sIx n n j:Nat):Int)/\(YX lo j we n).2.2=1:=by
 erw[⟨?_,?_,rfl⟩]
 .cases lo with
  |none=>simp[YX,HT.sIx]
  |some i=>
   simp only[YX,HT.sIx,Option.getD_none,show(1:Int)>0 by decide,if_true]
   by_cases h:i<0
   .simp only[h,if_true]<;>lia
   .simp only[h,if_false]<;>lia
 .cases j with
  |none=>simp[YX,HT.sIx]
  |some i=>
   simp only[YX,HT.sIx,Option.getD_none,show(1:Int)>0 by decide,if_true]
   by_cases h:i<0
   .simp only[h,if_true]<;>lia
   .simp only[h,if_false]<;>lia
def Rh(j:List Value)(lo l:Option Int):slicePick j.toArray lo l we=((j.drop (HT.sIx j.length 0 lo)).take (HT.sIx j.length j.length l - HT.sIx j.length 0 lo)).toArray:=by
 have⟨t,u,w⟩:=Dq lo l j.toArray.size;unfold slicePick;rw[t,u,w];simp only[sliceRange_one,pick_run,XJ]<;>rfl
def rSlL(K:X1):V->Option Int->Option Int->Hp->VK->Prop:=λx lo l H Q=>∃a j,x=.ref a/\SqL K H a j/\∀p,H p=we->Q (.ref p) (upd H p (.lst (cutV j lo l)))
def Ri:SlR X (rSlL X.K):=by
 intro f s p H x v e L lo t N Q I w y z m h;have⟨a,j,rfl,g,q⟩:=h;cases w;have⟨d,r,u,c⟩:=I.list g;have l:=r.length;erw[⟨"list",_,slot_list_getitem.lookup,u.isList.typeIs,?_⟩];erw[wpAny_getItem_list_slice u.isList y z m .none (by simp) ?_ (by rw[XJ]<;>lia)]
 rw[Rh,<-l];erw[⟨.ref s.heap.objs.size,_,I.laid (t':=s.toks) (o:=.lst (cutV j lo t)) (λb O q=>Xw _ q) (Xc _) ?_,rfl,q _ (I.hok.fresh (Xc _))⟩];erw[⟨XA (Gz j lo t) c,_,0,(r.drop (HT.sIx j.length 0 lo)).take (HT.sIx j.length j.length t - HT.sIx j.length 0 lo),XS _ rfl⟩]
noncomputable def ZJ:V->Bool
 |.non=>wf
 |.bl _=>wf
 |.int _=>wf
 |.str _=>wf
 |_=>wg
noncomputable def eqV:V->V->Bool
 |.non,.non=>wf
 |.bl a,.bl b=>a==b
 |.bl a,.int b=>(if a then 1 else 0)==b
 |.int a,.bl b=>a==(if b then 1 else 0)
 |.int a,.int b=>a==b
 |.str a,.str b=>a==b
 |_,_=>wg
def GG{s:X0}(w:RelV y u)(j:RelV x v)(m:ZJ y=wf)(z:ZJ x=wf):SeqAt.EqAt A s u v (eqV y x):=by
 cases y with
 |non=>
  cases w;cases x with
  |non=>cases j;erw[SeqAt.EqAt.same _]
  |bl b=>cases j;erw[SeqAt.EqAt.none_bool b]
  |int b=>have⟨t,rfl⟩:=j;erw[SeqAt.EqAt.none_int b t]
  |str b=>have⟨t,rfl⟩:=j;erw[SeqAt.EqAt.none_str b t]
  |_=>erw[absurd (show wg=wf from z) Xx]
 |bl a=>
  cases w;cases x with
  |non=>cases j;erw[SeqAt.EqAt.bool_none a]
  |bl b=>cases j;erw[SeqAt.EqAt.bool_bool a b]
  |int b=>have⟨t,rfl⟩:=j;erw[SeqAt.EqAt.bool_int a b t]
  |str b=>have⟨t,rfl⟩:=j;erw[SeqAt.EqAt.bool_str a b t]
  |_=>erw[absurd (show wg=wf from z) Xx]
 |int a=>
  have⟨l,rfl⟩:=w;cases x with
  |non=>cases j;erw[SeqAt.EqAt.int_none a l]
  |bl b=>cases j;erw[SeqAt.EqAt.int_bool a l b]
  |int b=>have⟨t,rfl⟩:=j;erw[SeqAt.EqAt.int_int a l b t]
  |str b=>have⟨t,rfl⟩:=j;erw[FZ a l b t]
  |_=>erw[absurd (show wg=wf from z) Xx]
 |str a=>
  have⟨l,rfl⟩:=w;cases x with
  |non=>cases j;erw[SeqAt.EqAt.str_none a l]
  |bl b=>cases j;erw[SeqAt.EqAt.str_bool a l b]
  |int b=>have⟨t,rfl⟩:=j;erw[G0 a l b t]
  |str b=>have⟨t,rfl⟩:=j;erw[SeqAt.EqAt.str_str a l b t]
  |_=>erw[absurd (show wg=wf from z) Xx]
 |_=>erw[absurd (show wg=wf from m) Xx]
def eqU(x:V)(u:Value):Bool:=match u with
 |.none=>eqV .non x
 |.bool b=>eqV (.bl b) x
 |.int i _=>eqV (.int i) x
 |.str z _=>eqV (.str z) x
 |_=>wg
def GH(r:RelV y u)(f:ZJ y=wf):eqU x u=eqV y x:=by
 cases y with
 |non=>cases r;rfl
 |bl b=>cases r;rfl
 |int i=>have⟨t,rfl⟩:=r;rfl
 |str z=>have⟨t,rfl⟩:=r;rfl
 |_=>erw[absurd (show wg=wf from f) Xx]
theorem WJ:∀{j:List V} {l:List Value},Vals j l->j.all ZJ=wf->l.any (eqU x)=j.any λy=>eqV y x
 |_,_,.nil,_=>rfl
 |y::j,u::l,.cons r t,f=>by
  rw[UQ,Xs]at f;rw[ZB,ZB,GH r f.1,WJ t f.2]
theorem WK{s:X0}(z:RelV x v)(m:ZJ x=wf):∀{l:List V} {w:List Value},Vals l w->l.all ZJ=wf->∀u∈w,SeqAt.EqAt A s u v (eqU x u)
 |_,_,.nil,_=>λu j=>by cases j
 |y::l,u::w,.cons r t,f=>λg j=>by
  rw[UQ,Xs]at f;rcases Xh.mp j with rfl|j
  .rw[GH r f.1];erw[GG r z f.1 m]
  .erw[WK z m t f.2 g j]
def inV(x:V)(j:List V):Bool:=j.any λy=>eqV y x
def rIn(K:X1)(l:Bool):R2:=λx y H Q=>∃p j,y=.ref p/\(SqL K H p j\/SqT K H p j)/\ZJ x=wf/\j.all ZJ=wf/\Q (.bl (if l then !inV x j else inV x j)) H
def Dr:OpR X (Y1 .In) (rIn X.K wg):=by
 intro f s e H x y v u Q I m d h;have⟨p,L,rfl,l,g,fs,q⟩:=h;cases d;rcases l with l|l
 .have⟨j,r,t,c⟩:=I.list l;erw[SeqAt.in_listAt (eqU x) t.isList (λw z=>WK m g r fs w (by simpa using z)) ⟨.bl _,H,I,rfl,?_⟩]
  rw[show j.toArray.any (eqU x)=j.any (eqU x) by simp,WJ r fs]
  erw[q]
 .have⟨j,r,t,c⟩:=I.tuple l;erw[SeqAt.in_tupleAt (eqU x) t (λw z=>WK m g r fs w (by simpa using z)) ⟨.bl _,H,I,rfl,?_⟩]
  rw[show j.toArray.any (eqU x)=j.any (eqU x) by simp,WJ r fs]
  erw[q]
def Ds:OpR X (Y1 .NotIn) (rIn X.K wf):=by
 intro f s e H x y v u Q I m d h;have⟨p,L,rfl,l,g,fs,q⟩:=h;cases d;rcases l with l|l
 .have⟨j,r,t,c⟩:=I.list l;erw[SeqAt.notIn_listAt (eqU x) t.isList (λw z=>WK m g r fs w (by simpa using z)) ⟨.bl _,H,I,rfl,?_⟩]
  rw[show j.toArray.any (eqU x)=j.any (eqU x) by simp,WJ r fs]
  erw[q]
 .have⟨j,r,t,c⟩:=I.tuple l;erw[SeqAt.notIn_tupleAt (eqU x) t (λw z=>WK m g r fs w (by simpa using z)) ⟨.bl _,H,I,rfl,?_⟩]
  rw[show j.toArray.any (eqU x)=j.any (eqU x) by simp,WJ r fs]
  erw[q]
def Dt:Yw X (.builtin "len") (fun m H Q=>∃p l,m=[.ref p]/\(SqL X.K H p l\/SqT X.K H p l)/\Q (.int l.length) H):=by
 intro c s f H m e Q I r h;have⟨p,l,rfl,t,q⟩:=h;have⟨u,rfl,g⟩:=_H r;cases g;have L:=VG;rcases t with t|t
 .have⟨w,y,z,d⟩:=I.list t;have j:=y.length;erw[Calls.call_len_list z.isList (by simp only[XJ]<;>lia) ⟨.int l.length,H,I.tok _,⟨s.toks+1,by rw[XJ,j]⟩,q⟩]
 .have⟨w,y,z,d⟩:=I.tuple t;have j:=y.length;erw[len_tuple z (by simp only[XJ]<;>lia) ⟨.int l.length,H,I.tok _,⟨s.toks+1,by rw[XJ,j]⟩,q⟩]
def Rj:Yw X (.builtin "len") (fun j H Q=>∃z,j=[.str z]/\z.length<=sizeLine/\Q (.int z.length) H):=by
 intro l s w H j y Q I r h;have⟨z,rfl,m,q⟩:=h;have⟨u,rfl,t,rfl⟩:=_H r;have g:=VG;erw[len_str (by lia) ⟨.int z.length,H,I.tok _,⟨_,rfl⟩,q⟩]
def GJ:Yw X (.type "list") (fun P H Q=>∃p w,P=[.ref p]/\(SqL X.K H p w\/SqT X.K H p w)/\∀l,H l=we->Q (.ref l) (upd H l (.lst w))):=by
 intro T s U H P Y Q I r h;have⟨p,w,rfl,m,q⟩:=h;have⟨u,rfl,W⟩:=_H r;cases W;have g:∀(j:List Value),Vals w j->w.length<=sizeLine->∀(t:Heap)(y:Nat),(∀b R,s.heap.get? b=wc R->t.get? b=wc R)->
   t.get? s.heap.objs.size=wc {cls:=.type "list",dict:=we,data:=.seq j.toArray y,slots:=#[]}->EP X T U Q (.ref s.heap.objs.size) {s with heap:=t}:=fun j z d t y c e=>
  ⟨.ref s.heap.objs.size,_,I.laid (t':=s.toks) c (Xc _) (show ObjOk X.prog X.w _ t _ (.lst w)from⟨d,j,y,z,e⟩),rfl,q _ (I.hok.fresh (Xc _))⟩
 rcases m with m|m
 .have⟨j,z,L,d⟩:=I.list m;have f:=z.length;have⟨o,N,O,n,hd⟩:=L.isList;erw[call_list_seq p (.inl rfl) N O hd (λt y c e=>g j z d t y c e) (by simp only[XJ]<;>lia)]
 .have⟨j,z,L,d⟩:=I.tuple m;have f:=z.length;have⟨o,N,O,n,hd⟩:=L;erw[call_list_seq p (.inr rfl) N O hd (λt y c e=>g j z d t y c e) (by simp only[XJ]<;>lia)]
def Rk:Yw X (.type "tuple") (fun g H Q=>∃p t,g=[.ref p]/\((SqL X.K H p t/\∀l,H l=we->Q (.ref l) (upd H l (.tup t)))\/(SqT X.K H p t/\Q (.ref p) H))):=by
 intro d s c H g T Q I r h;have⟨p,t,rfl,h⟩:=h;have⟨u,rfl,O⟩:=_H r;cases O;rcases h with⟨y,q⟩|⟨y,q⟩
 .have⟨j,z,m,f⟩:=I.list y;have L:=z.length;erw[call_tuple_list m.isList (λw P=>?_) (by simp only[XJ]<;>lia)]
  have N:Inv X d c H {s with heap:=w}:=I.kept (t':=s.toks) P;have R:Inv X d c (upd H w.objs.size (.tup t)) {s with heap:=w.push {cls:=.type "tuple",data:=.seq j.toArray} }:=
   N.laid (t':=s.toks) (λb o e=>Xw _ e) (Xc _) (show ObjOk X.prog X.w _ _ _ (.tup t)from⟨f,j,z,IsTup.new _ _,_,XS _ rfl,rfl⟩)
  erw[⟨.ref w.objs.size,_,R,rfl,q _ (N.hok.fresh (Xc _))⟩]
 .have⟨j,z,m,f⟩:=I.tuple y;erw[call_tuple_same m ⟨.ref p,H,I,rfl,q⟩]
def tyV(K:X1)(T:String)(x:V)(H:Hp):Prop:=match x with
 |.str _=>T="str"
 |.int _=>T="int"
 |.ref p=>(T="list"/\∃l,SqL K H p l)\/(T="tuple"/\∃o,K.lookup p=wc o/\o.cls=.type "tuple"/\o.dict=we)\/
   (T="dict"/\((∃j,H p=wc (.dK j))\/∃j,H p=wc (.dT j)))\/(T="set"/\∃S n,H p=wc (.set S n))
 |_=>False
def GK{s:X0}(I:Inv X pj σ H s)(r:RelV x v)(ty:tyV X.K T x H):
  s.TypeIs v T/\∀a,v=.ref a->∃y,s.heap.get? a=wc y/\y.dict=we:=by
 cases x with
 |str z=>
  have⟨t,rfl⟩:=r;cases(show T="str" from ty);erw[⟨typeIs_str s z t,λ_ e=>nomatch e⟩]
 |int i=>
  have⟨t,rfl⟩:=r;cases(show T="int" from ty);erw[⟨typeIs_int s i t,λ_ e=>nomatch e⟩]
 |ref p=>
  cases r;rcases ty with⟨rfl,L,g⟩|⟨rfl,o,j,d,hd⟩|⟨rfl,j⟩|⟨rfl,S,n,j⟩
  .have⟨f,_,m,_⟩:=I.list g;erw[⟨m.isList.typeIs,λa e=>?_⟩];cases e;have⟨o,n,e,c,hd,_⟩:=m;erw[⟨o,e,hd⟩]
  .erw[⟨⟨o,I.kIn p o j,d⟩,λa e=>?_⟩];cases e;erw[⟨o,I.kIn _ o j,hd⟩]
  .have z:∃o,s.heap.get? p=wc o/\o.ExactDict:=by
    rcases j with⟨u,j⟩|⟨u,j⟩
    .have⟨_,_,_,_,o,_,_,e,l,_⟩:=I.hok p _ j;erw[⟨o,e,l⟩]
    .have⟨_,_,_,_,o,_,_,e,l,_⟩:=I.hok p _ j;erw[⟨o,e,l⟩]
   have⟨o,e,l⟩:=z;erw[⟨⟨o,e,l.1⟩,λa w=>?_⟩];cases w;erw[⟨o,e,l.2.1⟩]
  .have⟨o,_,_,_,e,l,_⟩:=I.hok p _ j;erw[⟨⟨o,e,l.1⟩,λa w=>?_⟩];cases w;erw[⟨o,e,l.2.1⟩]
 |_=>erw[XN ty]
def tBM0(K:X1)(T:String)(r:V->List V->Hp->VK->Prop)(to:TE):TE:=λl H Q=>to l H λx j=>tyV K T x j/\r x [] j Q
def tBM(K:X1)(T:String)(r:V->List V->Hp->VK->Prop)(to:TE)(t:TA):TE:=λj H Q=>to j H λx l=>tyV K T x l/\t j l λu w=>r x u w Q
variable{o e:Expr}{es:List Expr}{to:TE}{t:TA}{name:Str}{apos cpos:Pos}{T id:String}{r:V->List V->Hp->VK->Prop}
def Rm(g:PlainAttrs T)(u:Slot T name id)(w:typeOf (.builtin id)=pure (.type "method_descriptor"))(d:MtR X id r)(c:PE X o to)
  (j:Ui o name X.env (eval o X.env)=eval o X.env:=by rfl)(l:(apos.endLine==cpos.line)=wf:=by rfl):PE X (.Call (.Attribute o name apos) [] [] cpos) (tBM0 X.K T r to):=by
 intro y s z H Q I h;erw[wpAny_Call_method0_late j l (thn (c y s z H _ I h) λv f p=>?_)];have⟨x,L,m,r1,ty,N⟩:=p;have⟨O,P⟩:=GK m r1 ty;erw[⟨T,id,g,u,w,O,P,FW rfl (PySem.evalArgs_none (d y f z L x [] v [] Q m r1 .nil N))⟩]
def Rn(f:PlainAttrs T)(w:Slot T name id)(z:typeOf (.builtin id)=pure (.type "method_descriptor"))(p:MtR X id r)(L:PE X o to)(N:PA X (e::es) t)
  (l:Ui o name X.env (eval o X.env)=eval o X.env:=by rfl)
  (y:((XV cpos (Xm (e::es) X.env)).all (λx=>!x.1)&&(Zl cpos (Zm [] X.env)).all (λx=>x.1.isSome)
   &&decide ((e::es).length+([]:List YW).length+(if([]:List YW).isEmpty then 0 else 1)<30))=wf:=by rfl)
  (u:(apos.endLine==cpos.line)=wf:=by rfl)(O:Xm (e::es) X.env=(wg,eval e X.env)::Xm es X.env:=by rfl)(j:(XV cpos (Xm es X.env)).any (·.1)=wg:=by rfl):
  PE X (.Call (.Attribute o name apos) (e::es) [] cpos) (tBM X.K T r to t):=by
 intro m s g H Q I h;erw[wpAny_Call_method_late l y u rfl (thn (L m s g H _ I h) λv P R=>?_)];have⟨x,U,d,r1,ty,W⟩:=R;have⟨Y,Z⟩:=GK d r1 ty;erw[⟨T,id,f,w,z,Y,Z,?_⟩];have c:=N cpos m P g U _ d W;rw[O]at c ⊢;erw[FW (by show(wg||(XV cpos (Xm es X.env)).any (·.1))=wg;rw[j]<;>rfl) (Calls.evalArgs_plain ?_)]
 erw[thn c λA B ⟨C,D,E,F,G⟩=>p m B g D x C v A Q E r1 F G]
/- xs.append(e),list.index on a module's tuple .. are MtR facts of 06m -/
end
def MtM(X:Cx)(id:String)(r:V->List V->Hp->VK->Prop):Prop:=
 ∀(j:List (Addr×Obj))(s:X0)(l:St)(H:Hp)(x:V)(t:List V)(v:Value)(u:List Value)(Q:VK),Inv X j l H s->RelV x v->Vals t u->r x t H Q->
  X3 (X4 X.prog X.w) X.A (call (.builtin id) (v::u)) (EP X j l Q) X.xe s
def Vals.one:∀{x:V} {us:List Value},Vals [x] us->∃u,us=[u]/\RelV x u
 |_,_,.cons r .nil=>⟨_,rfl,r⟩
theorem Vals.rep(h:Vals xs us):∀k:Nat,Vals (Xg k xs).flatten (Xg k us).flatten
 |0=>.nil
 |k+1=>by
  rw[Zc,Zc,Zo,Zo];erw[Vals.append h (Vals.rep h k)]
theorem Du(j:List Value):∀(k:Nat)(l:List Value),
  Vr (λt u=>t++u) l.toArray (Xg k j.toArray)=(l++(Xg k j).flatten).toArray
 |0,l=>by simp
 |k+1,l=>by
  have e:l.toArray++j.toArray=(l++j).toArray:=by simp
  have w:(l++j)++(Xg k j).flatten=l++(Xg (k+1) j).flatten:=by
   rw[Zc,Zo,UP]
  rw[<-w,<-Du j k (l++j),<-e,Zc,Vp]
section
variable{X:Cx}{pj:List (Addr×Obj)}{σ:St}{H:Hp}{s:X0}{l b:Addr}{xs ys zs:List V}
def Inv.lset{t j:List Value}{n:Nat}{f:Array Value->Array Value}{w:Nat}(I:Inv X pj σ H s)(y:H l=wc (.lst xs))
  (e:s.heap.get? l=wc {cls:=.type "list",data:=.seq t.toArray n})(z:f t.toArray=j.toArray)(m:Vals ys j)(g:ys.length<=sizeLine):
  Inv X pj σ (upd H l (.lst ys)) {s with heap:=s.heap.update l (U5 f),toks:=w}:=by
 have q:=PySem.IsL.update e f;rw[z]at q;erw[I.write (x:=l) (e:=l) (by rw[y];erw[trivial]) (.inl rfl) (λr u d c=>(AU s.heap (U5 f) (XT d)).trans c) ⟨_,q⟩ ?_]
 erw[⟨g,j,_,m,q⟩]
def Inv.lnew(I:Inv X pj σ H s)(j:Vals ys its)(t:ys.length<=sizeLine):
  Inv X pj σ (upd H s.heap.objs.size (.lst ys)) {s with heap:=s.heap.push {cls:=.type "list",data:=.seq its.toArray},toks:=t'}:=
 I.laid (λ_ _ q=>Xw _ q) (Xc _) ⟨t,its,0,j,XS _ rfl⟩
theorem Inv.fresh(I:Inv X pj σ H s):H s.heap.objs.size=we:=I.hok.fresh (Xc _)
def Inv.lstM(I:Inv X pj σ H s)(t:H l=wc (.lst xs)):xs.length<=sizeLine/\∃(j:List Value) (n:Nat),Vals xs j/\xs.length=j.length/\s.heap.get? l=wc {cls:=.type "list",data:=.seq j.toArray n}:=by
 have⟨z,j,n,r,e⟩:=I.hok l _ t;erw[⟨z,j,n,r,r.length,e⟩]
def GM(h:n<=sizeLine):Bn n=wg:=by
 unfold Bn;erw[decide_eq_false (by lia)]
end
section
variable{X:Cx}
def Ro:V->List V->Hp->VK->Prop:=λx t H Q=>∃l j y,x=.ref l/\t=[y]/\H l=wc (.lst j)/\j.length<sizeLine/\Q .non (upd H l (.lst (j++[y])))
def GN:MtM X "list.append" Ro:=by
 intro d s c H x f v p Q I w m h;have⟨l,L,y,rfl,rfl,t,N,q⟩:=h;cases w;have⟨u,rfl,g⟩:=m.one;have⟨z,j,n,r,O,e⟩:=I.lstM t;erw[Uj F.slot_list_append ⟨_,e,rfl⟩ F.entry_list_append (F.args_list_append_2 _ _) (PySem.list_append l j.toArray n u (by rw[XJ];lia)) ⟨e,?_⟩]
 erw[⟨.non,_,I.lset (j:=j++[u]) t e (by simp) (r.append (.cons g .nil)) ?_,rfl,q⟩]
 rw[Yf,CH];lia
def Rp:V->List V->Hp->VK->Prop:=λx u H Q=>∃l b j t,x=.ref l/\u=[.ref b]/\H l=wc (.lst j)/\H b=wc (.lst t)/\j.length+t.length<=sizeLine/\Q .non (upd H l (.lst (j++t)))
def Rq:MtM X "list.extend" Rp:=by
 intro P s R H x T v U Q I g d h;have⟨l,b,W,Y,rfl,rfl,m,c,Z,q⟩:=h;cases g;have⟨u,rfl,f⟩:=d.one;cases f;have⟨z,t,n,r,A,e⟩:=I.lstM m;have⟨B,j,p,L,N,O⟩:=I.lstM c;have y:t.toArray.size+j.toArray.size<=sizeLine:=by rw[XJ,XJ];lia
 have w:¬(!t.toArray.isEmpty&&Bn (t.toArray.size+j.toArray.size))=wf:=by
  rw[GM y,Ba];erw[Xx]
 erw[Uj F.slot_list_extend ⟨_,e,rfl⟩ F.entry_list_extend (F.args_list_extend_2 _ _)
  (AutoSeq1.list_extend_list_list_0 l t.toArray n b j.toArray p w (by rw[XJ];lia) (by lia)) ⟨e,O,?_⟩]
 erw[⟨.non,_,I.lset (j:=t++j) m e (by simp) (r.append L) ?_,rfl,q⟩]
 rw[Yf];lia
def rCat:R2:=λx y H Q=>∃l b j t,x=.ref l/\y=.ref b/\H l=wc (.lst j)/\H b=wc (.lst t)/\j.length+t.length<=sizeLine/\∀p,H p=we->Q (.ref p) (upd H p (.lst (j++t)))
def Rr:OpR X (Yh .Add) rCat:=by
 intro N s O H x y v u Q I w m h;have⟨l,b,P,R,rfl,rfl,g,d,T,q⟩:=h;cases w;cases m;have⟨z,t,n,r,U,e⟩:=I.lstM g;have⟨W,j,Y,c,f,p⟩:=I.lstM d;erw[PySem.P.add_list e p ?_ (by rw[XJ,XJ];lia)]
 have L:t.toArray++j.toArray=(t++j).toArray:=by simp
 rw[L];erw[⟨.ref _,_,I.lnew (t':=s.toks) (r.append c) (by rw[Yf];lia),rfl,q _ I.fresh⟩]
def rRep:R2:=λx y H Q=>∃l k j,x=.ref l/\y=.int k/\H l=wc (.lst j)/\ -(2^63)<=k/\k<2^63/\j.length*k.toNat<=sizeLine/\
 ∀p,H p=we->Q (.ref p) (upd H p (.lst (Xg k.toNat j).flatten))
def GO{l:Type}(j:List l)(k:Nat):(Xg k j).flatten.length=k*j.length:=by
 induction k with
 |zero=>simp
 |succ k t=>rw[Zc,Zo,Yf,t,Nat.succ_mul,UV]
def Rs:OpR X (Yh .Mult) rRep:=by
 intro B s C H x y v u Q I O P h;have⟨l,k,D,rfl,rfl,R,W,Y,N,q⟩:=h;cases O;have⟨t,rfl⟩:=P;have⟨z,j,n,r,Z,e⟩:=I.lstM R;have g:j.toArray.size*k.toNat<=sizeLine:=by rw[XJ,<-Z];erw[N]
 have d:¬j.toArray.size*k.toNat>(2^63 - 1)/8:=by
  have:(sizeLine:Nat)<=(2^63 - 1)/8:=by decide
  lia
 have c:¬(!Builtin.List.listFitsIndex k)=wf:=by
  rw[fitsIndex_both W Y];erw[Xx]
 have w:¬Bn (j.toArray.size*k.toNat)=wf:=by
  rw[GM g];erw[Xx]
 have f:Vr (λp L=>p++L) #[] (Xg (if j.toArray.isEmpty=wf then 0 else k.toNat) j.toArray)=(Xg k.toNat j).flatten.toArray:=by
  have f0:∀m:Nat,Vr (λp L=>p++L) #[] (Xg m j.toArray)=(Xg m j).flatten.toArray:=λm=>by
   have:=Du j m [];rw[Yj]at this;erw[this]
  rw[f0];cases j with
  |nil=>simp
  |cons a E=>rw[if_neg (by simp)]
 erw[wpAny_binaryOp_repeat_ref (T:="list") (U:="int") (by decide) ⟨_,e,rfl⟩ (fun A=>typeIs_int A k t) noFill_list_mul F.fills_int_mul F.slot_int_rmul repeat_list F.slot_int_index.lookup
  (Uj F.slot_int_rmul (typeIs_int s k t) F.entry_int_rmul (F.args_int_rmul_2 _ _) (int___rmul___int_list k t l j.toArray n)
   ⟨e,rfl,⟨_,e,rfl⟩,Uj F.slot_list_mul ⟨_,e,rfl⟩ F.entry_list_mul (F.args_list_mul_2 _ _) (AutoListH.list___mul___list_int_3 l j.toArray n k t c d w) ⟨e,?_⟩⟩)]
 rw[f];erw[⟨.ref _,_,I.lnew (t':=s.toks) (r.rep k.toNat) (by rw[GO,Nat.mul_comm];erw[N]),rfl,q _ I.fresh⟩]
end
section
variable{prog:Xk}{w:Xe}{A:Xp}{E:Value->X0->Prop}{s:X0}
set_option maxRecDepth 100000 in
end
section
variable{X:Cx}
end
section
variable{κ:Type} [DecidableEq κ]
noncomputable def valV(j:List (κ×V))(k:κ):Option V:=(j.find? λl=>decide (l.1=k)).map (·.2)
noncomputable def putK(j:List (κ×V))(k:κ)(v:V):List (κ×V):=
 if(j.any λl=>decide (l.1=k))=wf then j.map (λl=>if l.1=k then(l.1,v)else l)else j++[(k,v)]
def BC{k:κ}(e:p.1=k):valV (p::r) k=wc p.2:=by simp[valV,Vq,e]
def BD{k:κ}(e:¬p.1=k):valV (p::r) k=valV r k:=by simp[valV,Vq,e]
theorem GP(k:κ):∀j:List (κ×V),(j.any λl=>decide (l.1=k))=(valV j k).isSome
 |[]=>rfl
 |p::r=>by
  rw[ZB];by_cases e:p.1=k
  .simp only[BC e,decide_eq_true e,Bool.true_or,Option.isSome_some]
  .rw[BD e,decide_eq_false e,Bb];erw[GP k r]
def GQ(j:List (κ×V))(k:κ)(v:V):(putK j k v).length<=j.length+1:=by
 unfold putK;split
 .rw[X7];lia
 .rw[Yf,Yr,List.length_nil];lia
def RelO.isSome_eq(r:RelO o u):o.isSome=u.isSome:=by
 cases o with
 |none=>cases u with
  |none=>rfl
  |some _=>erw[(show False from r).elim]
 |some _=>cases u with
  |none=>erw[(show False from r).elim]
  |some _=>rfl
def KV.val(r:KV kvs vs)(k:κ):RelO (valV kvs k) (YY vs k):=by
 unfold KV at r
 induction r with
 |nil=>erw[YE]
 | @cons p q g j h t y=>
  have⟨u,m⟩:=h;by_cases e:p.1=k
  .have l:q.1=k:=u.symm.trans e;have b:YY (q::j) k=wc q.2:=by simp[YY,Vq,l]
   rw[BC e,b];erw[m]
  .have l:¬q.1=k:=λz=>e (u.trans z);have b:YY (q::j) k=YY j k:=by simp[YY,Vq,l]
   rw[BD e,b];erw[y]
theorem KV.any(r:KV kvs vs)(k:κ):(kvs.any λj=>decide (j.1=k))=vs.any λj=>decide (j.1=k):=by
 unfold KV at r
 induction r with
 |nil=>rfl
 |cons h t l=>rw[ZB,ZB,l,h.1]
def KV.repl(r:KV kvs vs)(k:κ)(m:RelV y u):
  KV (kvs.map λj=>if j.1=k then(j.1,y)else j) (vs.map λj=>if j.1=k then(j.1,u)else j):=by
 unfold KV at r ⊢
 induction r with
 |nil=>erw[.nil]
 | @cons p q c f h t g=>
  rw[Xy,Xy];erw[.cons ?_ g];have⟨l,d⟩:=h;by_cases e:p.1=k
  .rw[if_pos e,if_pos (l.symm.trans e)];erw[⟨l,m⟩]
  .rw[if_neg e,if_neg (λz=>e (l.trans z))];erw[⟨l,d⟩]
def KV.put(r:KV kvs vs)(k:κ)(j:RelV y u):KV (putK kvs k y) (stored vs k u):=by
 unfold putK stored;rw[r.any k];by_cases e:(vs.any λl=>decide (l.1=k))=wf
 .rw[if_pos e,if_pos e];erw[r.repl k j]
 .rw[if_neg e,if_neg e];erw[Paired.snoc r ⟨rfl,j⟩]
theorem KV.length(r:KV kvs vs):kvs.length=vs.length:=Paired.length r
end
def VH{k:Key}(r:RelV (kV k) u):(YS P w).is k u=wf:=by
 cases k with
 |inl i=>have⟨t,e⟩:=(show∃t,u=Vx i t from r);subst e;erw[Pv P w i t]
 |inr x=>have⟨t,e⟩:=(show∃t,u=YR x t from r);subst e;erw[Pw P w x t]
theorem GR:∀{j:List Key} {l:List Value},Vals (j.map kV) l->ItemsAre (YS P w) j l
 |[],_,r=>by rw[YD]at r;cases r;erw[.nil]
 |k::j,_,r=>by
  rw[Xy]at r;cases r with
  |cons h t=>erw[.cons (VH h) (GR t)]
abbrev KT(H:Hp):List (List Key×V)->List (List Key×Addr×Value)->Prop:=Paired λp q=>p.1=q.1/\H q.2.1=wc (.tup (p.1.map kV))/\RelV p.2 q.2.2
def KT.val(r:KT H kvs xs)(k:List Key):RelO (valV kvs k) ((atKey xs k).map (·.2)):=by
 induction r with
 |nil=>erw[YE]
 | @cons p q g j h t y=>
  have⟨u,_,m⟩:=h;by_cases e:p.1=k
  .have l:q.1=k:=u.symm.trans e;have b:atKey (q::j) k=wc q.2:=by simp[atKey,Vq,l]
   rw[BC e,b];erw[m]
  .have l:¬q.1=k:=λz=>e (u.trans z);have b:atKey (q::j) k=atKey j k:=by simp[atKey,Vq,l]
   rw[BD e,b];erw[y]
def KT.repl(r:KT H kvs xs)(k:List Key)(g:RelV y u):
  KT H (kvs.map λl=>if l.1=k then(l.1,y)else l) (xs.map (putAt k u)):=by
 induction r with
 |nil=>erw[.nil]
 | @cons p q f L h t d=>
  rw[Xy,Xy];erw[.cons ?_ d];have⟨j,m,c⟩:=h;unfold putAt;by_cases e:p.1=k
  .rw[if_pos e,if_pos (j.symm.trans e)];erw[⟨j,m,g⟩]
  .rw[if_neg e,if_neg (λz=>e (j.trans z))];erw[⟨j,m,c⟩]
def KT.put(r:KT H kvs xs)(k:List Key)(l:H b=wc (.tup (k.map kV)))(j:RelV y u):
  KT H (putK kvs k y) (storedH xs k b u):=by
 have e:(kvs.any λt=>decide (t.1=k))=(atKey xs k).isSome:=by
  rw[GP,(r.val k).isSome_eq,Db]
 unfold putK storedH;rw[e];by_cases q:(atKey xs k).isSome=wf
 .rw[if_pos q,if_pos q];erw[r.repl k j]
 .rw[if_neg q,if_neg q];erw[Paired.snoc r ⟨rfl,l,j⟩]
def KT.keeps{H l:Hp}{j:List (List Key×V)}{t:List (List Key×Addr×Value)}(r:KT H j t)(y:∀b u,H b=wc (.tup u)->l b=wc (.tup u)):KT l j t:=
 Paired.mapP r λ_ _ z=>⟨z.1,y _ _ z.2.1,z.2.2⟩
section
variable{P:Xk}{w:Xe}{H:Hp}{h:Heap}{a:Addr}
def GS(ok:HOk P w H h)(e:Rd H a u):ObjOk P w H h a u:=e.ok ok
def V4(ok:HOk P w H h)(e:Rd H a (.dK kvs)):kvs.length<=sizeLine/\(a==YN)=wg/\∃j,KV kvs j/\h.DictOf (YS P w) a j:=
 show ObjOk P w H h a (.dK kvs)from GS ok e
def Dv(ok:HOk P w H h)(e:H a=wc (.dK kvs)):kvs.length<=sizeLine/\(a==YN)=wg/\∃j,KV kvs j/\h.DictOf (YS P w) a j:=V4 ok (.inl e)
def WL(ok:HOk P w H h)(e:H a=wc (.tup (ks.map kV))):(tupleKind (YS P w)).is h ks a:=by
 have⟨_,j,r,⟨o,l,t,n,u⟩,_⟩:=(show ObjOk P w H h a (.tup (ks.map kV))from ok a _ e);erw[⟨o,j.toArray,n,l,t,u,by simpa using GR r⟩]
def WM(ok:HOk P w H h)(e:Rd H a (.dT kvs)):kvs.length<=sizeLine/\(a==YN)=wg/\
  ∃u,KT H kvs u/\h.DictOfH (tupleKind (YS P w)) a u:=by
 have⟨z,y,u,r,o,d,c,f,L,N,O,R⟩:=(show ObjOk P w H h a (.dT kvs)from GS ok e);erw[⟨z,y,u,r,o,d,c,f,L,N,O,λx j=>?_,R⟩];have all:∀{l:List (List Key×V)} {m:List (List Key×Addr×Value)},KT H l m->∀x∈m,(tupleKind (YS P w)).is h x.1 x.2.1:=by
  intro l m q
  induction q with
  |nil=>intro x j;erw[nomatch j]
  | @cons p q U W g t T=>
   intro x j;rcases Xh.mp j with e|j
   .subst e;erw[WL ok (by rw[<-g.1];erw[g.2.1])]
   .erw[T x j]
 erw[all r x j]
def Rt(ok:HOk P w H h)(e:H a=wc (.dT kvs)):kvs.length<=sizeLine/\(a==YN)=wg/\
  ∃j,KT H kvs j/\h.DictOfH (tupleKind (YS P w)) a j:=WM ok (.inl e)
end
def DGet(H:Hp)(a:Addr)(y:V)(r:Option V):Prop:=
 (∃j k,Rd H a (.dK j)/\y=kV k/\r=valV j k)\/∃j k b,Rd H a (.dT j)/\y=.ref b/\H b=wc (.tup (k.map kV))/\r=valV j k
def DPut(H:Hp)(a:Addr)(y v:V)(l:Hp):Prop:=
 (∃j k,H a=wc (.dK j)/\y=kV k/\j.length<sizeLine/\l=upd H a (.dK (putK j k v)))\/
 ∃j k b,H a=wc (.dT j)/\y=.ref b/\H b=wc (.tup (k.map kV))/\j.length<sizeLine/\l=upd H a (.dT (putK j k v))
theorem DGet.k{k:Key}(e:H a=wc (.dK kvs)):DGet H a (kV k) (valV kvs k):=.inl ⟨kvs,k,.inl e,rfl,rfl⟩
theorem DPut.k{k:Key}(e:H a=wc (.dK kvs))(j:kvs.length<sizeLine):DPut H a (kV k) v (upd H a (.dK (putK kvs k v))):=.inl ⟨kvs,k,e,rfl,j,rfl⟩
section
variable{X:Cx}{pj:List (Addr×Obj)}{σ:St}{H:Hp}{s:X0}{a:Addr}{y v:V}{u r:Value}{o:Option V}{A:Xp}{E:Value->X0->Prop}
def Inv.big(I:Inv X pj σ H s):YN<s.heap.objs.size:=by
 have h:Xi<s.heap.objs.size:=(I.mod.glob.keeps I.bk).lt;erw[B5 (by decide) h]
def Ru(R:A.units+1<cLine)(I:Inv X pj σ H s)(g:DGet H a y (wc v))(O:RelV y u)(h:∀m P,Inv X pj σ H P->RelV v m->Q m P):
  X3 (X4 X.prog X.w) A (getItem (.ref a) u) Q E s:=by
 rcases g with⟨d,k,e,c,l⟩|⟨d,k,b,e,c,T,l⟩
 .subst c;have⟨z,hd,U,j,f⟩:=V4 I.hok e;have⟨m,L,t⟩:=RelO.some_of (v:=v) (o:=YY U k) (by rw[l];erw[j.val k])
  erw[wpAny_getItem_of (VH O) f.mapOf L (h m _ (I.tok _) t)]
 .subst c;cases(show u=Xt b from O);have⟨z,hd,W,j,f⟩:=WM I.hok e;have⟨m,L,t⟩:=RelO.some_of (v:=v) (o:=(atKey W k).map (·.2)) (by rw[l];erw[j.val k])
  have⟨p,Y,N⟩:=UZ.mp L;erw[wpAny_getItem_heap (Au R) (WL I.hok T) f Y ?_];rw[N];erw[h m _ (I.tok _) t]
def d_in(p:A.units+1<cLine)(I:Inv X pj σ H s)(g:DGet H a y o)(c:RelV y u)(h:∀f,Inv X pj σ H f->Q (.bool o.isSome) f):
  X3 (X4 X.prog X.w) A (Y1 .In u (.ref a)) Q E s:=by
 rcases g with⟨t,k,e,m,l⟩|⟨t,k,b,e,m,L,l⟩
 .subst m;have⟨z,hd,N,j,d⟩:=V4 I.hok e;erw[wpAny_in_of (VH c) hd d.mapOf ?_];rw[<-(j.val k).isSome_eq,<-l];erw[h _ (I.tok _)]
 .subst m;cases(show u=Xt b from c);have⟨z,hd,O,j,d⟩:=WM I.hok e;erw[wpAny_in_heap (Au p) (WL I.hok L) hd d ?_];have q:=(j.val k).isSome_eq;rw[Db]at q;rw[<-q,<-l];erw[h _ (I.tok _)]
def Rv(p:A.units+1<cLine)(I:Inv X pj σ H s)(g:DGet H a y o)(c:RelV y u)(h:∀f,Inv X pj σ H f->Q (.bool (!o.isSome)) f):
  X3 (X4 X.prog X.w) A (Y1 .NotIn u (.ref a)) Q E s:=by
 rcases g with⟨t,k,e,m,l⟩|⟨t,k,b,e,m,L,l⟩
 .subst m;have⟨z,hd,N,j,d⟩:=V4 I.hok e;erw[wpAny_notIn_of (VH c) hd d.mapOf ?_];rw[<-(j.val k).isSome_eq,<-l];erw[h _ (I.tok _)]
 .subst m;cases(show u=Xt b from c);have⟨z,hd,O,j,d⟩:=WM I.hok e;erw[wpAny_notIn_heap (Au p) (WL I.hok L) hd d ?_];have q:=(j.val k).isSome_eq;rw[Db]at q;rw[<-q,<-l];erw[h _ (I.tok _)]
def GT(I:Inv X pj σ H s)(j:Mut (H a))(l:ZD a s.heap h')(t:∃q,h'.get? a=wc q)(new:ObjOk X.prog X.w (upd H a ob) h' a ob):
  Inv X pj σ (upd H a ob) {s with heap:=h',toks:=t'}:=
 I.write (x:=a) (e:=a) j (.inl rfl) (λb q m z=>(l.2 b m).trans z) t new
def Dw(z:kvs.length<=sizeLine)(hd:(a==YN)=wg)(j:KV kvs vs)(l:h'.DictOf (YS P w) a vs):
  ObjOk P w H' h' a (.dK kvs):=⟨z,hd,vs,j,l⟩
def Rw{R:Hp}{Q:Unit->X0->Prop}(C:A.units+1<cLine)(I:Inv X pj σ H s)(g:DPut H a y v R)(T:RelV y u)(U:RelV v r)(h:∀W,Inv X pj σ R W->Q () W):
  X3 (X4 X.prog X.w) A (setItem (.ref a) u r) Q E s:=by
 rcases g with⟨j,k,e,f,l,p⟩|⟨j,k,b,e,f,Y,l,p⟩
 .subst f p;have⟨z,hd,D,t,L⟩:=Dv I.hok e;have N:D.length<=sizeLine:=by rw[<-t.length];erw[z]
  have O:(putK j k v).length<=sizeLine:=by have:=GQ j k v;lia
  erw[wpAny_setItem_pairs (hsz:=N) (VH T) L λZ m P=>h _ ?_];have F:∃q,Z.get? a=wc q:=let⟨q,_,_,d,_⟩:=m;⟨q,d⟩
  erw[GT I (by rw[e];erw[YE]) P F (Dw O hd (t.put k U) m)]
 .subst f p;cases(show u=Xt b from T);have⟨z,hd,G,t,L⟩:=Rt I.hok e;have N:G.length<=sizeLine:=by rw[<-Paired.length t];erw[z]
  have O:(putK j k v).length<=sizeLine:=by have:=GQ j k v;lia
  erw[wpAny_setItem_heap (hsz:=N) (Au C) (WL I.hok Y) L λZ m P=>h _ ?_];have⟨q,J,M,d,S,i,n,_,x⟩:=m;erw[GT I (by rw[e];erw[YE]) P ⟨q,d⟩ ⟨O,hd,_,(t.put k Y U).keeps λc ys B=>?_,q,J,M,d,S,i,n,x⟩]
  rw[XQ (G2 B e (λz=>nomatch z))];erw[B]
end
section
variable{X:Cx}{pj:List (Addr×Obj)}{σ:St}{H:Hp}{s:X0}{a:Addr}{kvs:List (Key×V)}{k:Key}{u:Value}{A:Xp}{E:Value->X0->Prop}
def Rx(I:Inv X pj σ H s)(e:Rd H a (.dK kvs))(h:∀t l,Inv X pj σ H l->Q (.int kvs.length t) l):X3 (X4 X.prog X.w) A (call (.builtin "len") [.ref a]) Q E s:=by
 have⟨z,hd,m,j,y⟩:=V4 I.hok e;erw[call_len_dict hd y (by rw[<-j.length];rw[sizeLine_eq]at z;lia) ?_]
 rw[<-j.length];erw[h _ _ (I.tok _)]
end
def Ry{s:X0}(I:Inv X pj σ H s)(g:DGet H a y o):s.TypeIs (.ref a) "dict":=by
 rcases g with⟨j,k,e,_,_⟩|⟨j,k,b,e,_,_,_⟩
 .have⟨_,_,t,_,l⟩:=V4 I.hok e;erw[l.typeIs]
 .have⟨_,_,u,_,l⟩:=WM I.hok e;erw[l.typeIs]
section
variable{X:Cx}{o i e value:Expr}{pos pos' tpos:Pos}{td ty tv:TE}
end
section
variable{X:Cx}{pos:Pos}
end
def GU:List (TE×TE)->St->Hp->(List (V×V)->Hp->Prop)->Prop
 |[],_,H,Q=>Q [] H
 |(tk,tv)::r,σ,H,Q=>tk σ H λx j=>tv σ j λy l=>GU r σ l λt u=>Q ((x,y)::t) u
abbrev VV:List (V×V)->List (Value×Value)->Prop:=Paired λp q=>RelV p.1 q.1/\RelV p.2 q.2
def PPs(X:Cx)(t:Pos)(l:List (Option Expr))(j:List Expr)(u:List (TE×TE)):Prop:=
 ∀(z:List (Addr×Obj))(s:X0)(y:St)(H:Hp)(Q:List (V×V)->Hp->Prop),Inv X z y H s->GU u y H Q->
  X3 (X4 X.prog X.w) X.A (evalPairs (pairTrees l j X.env t)) (λd c=>∃m g,Inv X z y g c/\VV m d/\Q m g) X.xe s
def Rz:PPs X pos [] [] []:=λj s l H Q I h=>pairTrees_nil_walk ⟨[],H,I,.nil,h⟩
def RA{X:Cx}{j:Pos}{k v:Expr}{g:List (Option Expr)}{d:List Expr}{c f:TE}{l:List (TE×TE)}(r:PE X k c)(p:PE X v f)(e:PPs X j g d l):
  PPs X j (wc k::g) (v::d) ((c,f)::l):=λt s z H Q I h=>
 pairTrees_cons_walk (thn (r t s z H _ I h) λu L ⟨x,N,O,P,R⟩=>thn (p t L z N _ O R) λG T ⟨y,U,W,Y,Z⟩=>
  thn (e t T z U _ W Z) λJ M ⟨B,C,D,m,F⟩=>⟨(x,y)::B,C,D,.cons ⟨P,Y⟩ m,F⟩)
structure M1 (X:Cx)(o:Expr)(m:Str)(apos:Pos)(e:Expr)(cpos:Pos):Prop where
 base:Ui o m X.env (eval o X.env)=eval o X.env
 few:((XV cpos (Xm [e] X.env)).all (λx=>!x.1)&&(Zl cpos (Zm [] X.env)).all (λx=>x.1.isSome)
  &&decide (([e]:List Expr).length+([]:List YW).length+(if([]:List YW).isEmpty then 0 else 1)<30))=wf
 line:(apos.endLine==cpos.line)=wf
 trees:XV cpos (Xm [e] X.env)=[(wg,eval e X.env)]
structure M2 (X:Cx)(o:Expr)(m:Str)(apos:Pos)(e f:Expr)(cpos:Pos):Prop where
 base:Ui o m X.env (eval o X.env)=eval o X.env
 few:((XV cpos (Xm [e,f] X.env)).all (λx=>!x.1)&&(Zl cpos (Zm [] X.env)).all (λx=>x.1.isSome)
  &&decide (([e,f]:List Expr).length+([]:List YW).length+(if([]:List YW).isEmpty then 0 else 1)<30))=wf
 line:(apos.endLine==cpos.line)=wf
 trees:XV cpos (Xm [e,f] X.env)=[(wg,eval e X.env),(wg,eval f X.env)]
section
variable{X:Cx}{pj:List (Addr×Obj)}{σ:St}{H:Hp}{s:X0}{a:Addr}{y d:V}{u r:Value}{o:Option V}{A:Xp}{E:Value->X0->Prop}
end
section
variable{X:Cx}{o e f:Expr}{apos cpos:Pos}{td ty tx:TE}
end
section
variable{X:Cx}{pj:List (Addr×Obj)}{σ:St}{H:Hp}{s:X0}{a:Addr}{kvs:List (Key×V)}{A:Xp}{E:Value->X0->Prop}
def RB(I:Inv X pj σ H s)(e:Rd H a (.dK kvs))(h:∀p t,H p=we->Inv X pj σ (upd H p (.dK kvs)) t->Q (.ref p) t):X3 (X4 X.prog X.w) A (call (.type "dict") [.ref a]) Q E s:=by
 have⟨z,hd,g,j,y⟩:=V4 I.hok e;erw[kt_call_dict hd y (by rw[<-j.length];erw[z]) λd l m=>?_]
 erw[h _ _ (I.hok.fresh (Xc _)) (I.laid (a:=s.heap.objs.size) (o:=.dK kvs) (t':=s.toks) (λb q u=>?_) (Xc _) (Dw z (beq_eq_false_iff_ne.mpr (XT (XE I.big))) j l))];erw[(m.2 b (XE (Xu u))).trans (Xw _ u)]
end
section
variable{X:Cx}{pj:List (Addr×Obj)}{σ:St}{H:Hp}{s:X0}{a:Addr}{y:V}{u:Value}{A:Xp}{E:Value->X0->Prop}
end
end L2
namespace Att
open PySem PySem.W PySem.Calls PyProof.Rows
def RC:∀(j:List Int)(l:List Value),WellAll P h l (j.map WData.int)->IntsAre l j:=by
 intro j
 induction j with
 |nil=>
  intro l w;rw[YD]at w;cases w;erw[.nil]
 |cons n j t=>
  intro l w;rw[Xy]at w;cases w with
  |cons a b=>
   cases a;erw[.cons _ _ (t _ b)]
def RD{l:OpenLaw}{n:Nat}(L:l.most=wc n){P:Params}{h:Heap}{j:List WData}{u:List Value}
  (w:l.row.toRowW.claim.pre j=wf)(c:WellAll P h u j):
  ∃a p t,u=[Xt a]/\j=[WData.list (t.map WData.int)]/\h.get? a=wc {cls:=.type "list",data:=.seq p.toArray}/\IntsAre p t/\t.length<=n:=by
 have f:WShape.hasAll [] j [.list .int]=wf:=(pre_splitW w).1;have e:l.pre.holds [] {args:=j}=wf:=(pre_splitW w).2;have⟨d,r,rfl,N,O⟩:=hasAllW_cons f;obtain rfl:=hasAllW_nil O;have⟨Z,rfl,R⟩:=hasW_list N;have⟨t,rfl⟩:=items_int R;have y:t.length<=n:=by
  unfold OpenLaw.pre at e;have m:(WTm.not (.lt (.lit (.int (n:Int))) (.len (.arg 0)))).holds [] {args:=[.list (t.map .int)]}=wf:=by
   have m:=(holds_andW e).1;rw[L]at m;erw[m]
  have g:=condW_of m (w_not (w_lt w_lit (w_len_list (w_arg rfl))));rw[X7]at g;erw[AX λq=>?_];have T:(n:Int)<((t.length:Nat):Int):=by lia
  first
   |(rw[decide_eq_true T]at g;erw[absurd g (by decide)])
   |(simp at g;lia)
 cases c with
 |cons U W=>
  cases W;cases U with
  |list Y z=>erw[⟨_,_,t,rfl,rfl,Y,RC t _ z,y⟩]
def RF(l:OpenLaw)(j:List WData):l.row.toRowW.claim.post j (.bool wf) j=wf:=
 postW_of (r:=l.row.toRowW) (X:=(wf==wf))
  (show WShape.has [] (.bool wf) .bool=wf by first|rfl|decide|simp[WShape.has,WShape.arms,WShape.armsAll])
  (show(WTm.eq .res (.lit (.bool wf))).value [] {args:=j,res:=wc (.bool wf),after:=j}=wc (.bool (wf==wf))from w_eq_bool (w_res rfl) w_lit) rfl
def attach_call{l:OpenLaw}{n:Nat}{q:Xk}{t:List Str}{B:(Str->Option Value)->Heap->Prop}{C:Xe->Heap->Prop}{d:DefRec}
  (J:l.most=wc n)(R:d.params.defaults=[])
  (call:∀(w:Xe)(u j:X0)(L T:Str->Option Value)(g:Addr)(o:Obj)(U N y:Value)(a:Addr)(m:List Value)(O:List Int),
   Ground q t [] B w u L T j.heap->C w j.heap->
   j.heap.get? g=wc o->o.data=.func (docDef d.name d.params d.body d.scope U N y)->j.heap.CodeRec N d.name->L d.name=wc (.ref g)->
   j.heap.get? a=wc {cls:=.type "list",data:=.seq m.toArray}->IntsAre m O->O.length<=n->j.gens=#[]->
   YJ (X4 l.prog w) callerA (.call (.ref g) ⟨[.ref a],[]⟩) (λr P=>r=.ok (.ret (.bool wf))/\OldK j.heap P.heap/\P.os=j.os/\AllBare P.gens) j):
  WalkO q t B C l.row.toRowW d [] (λf m=>PySem.call f m):=by
 intro w u j L T G Y g o U N y M kV Q hd W D Z S E F as c I X A H;obtain rfl:M=.none:=Dflts.none D R;obtain rfl:kV=.none:=Dflts.noKw D;have⟨a,m,O,rfl,rfl,p,z,e⟩:=RD J c A;erw[enter_call (UK (call w u j L T g o U N y a m O G Y Q (fd_plain hd) W Z p z e S) λr P v=>?_)];have⟨rfl,i,x,h⟩:=v;erw[⟨.inl ⟨.bool wf,.bool wf,[],rfl,λ_=>rfl,.bool wf,RF l _,λ_=>⟨List.Pairwise.nil,λ_ b=>(nomatch b)⟩⟩,i,x,h⟩]
section
variable{prog:Xk}{w:Xe}{A:Xp}{E:Value->X0->Prop}{s:X0}{K:Frag}
noncomputable def ledger(h:Heap)(L d:Addr):List (Addr×Obj):=(Xr h.objs.size).filterMap λa=>if a=L\/a=d then we else(h.get? a).map λo=>(a,o)
end
end Att
namespace L2
open PySem PySem.Spec PyProof.Rows
theorem GV:∀{j:List Value} {l:List Int},IntsAre j l->Vals (l.map V.int) j
 |_,_,.nil=>.nil
 |_,_,.cons n t h=>.cons ⟨t,rfl⟩ (GV h)
def Only(H:Hp):Prop:=∀b,H b=we\/∃o j,H b=wc (.frz o (.lst j))
def RG{K:X1}{k:Nat}
  (J:K.In s₁.heap)(p:s₁.heap.Ns Xi mg)(l:s₁.heap.Ns builtinsNs mb)(B:∀x:Str,x≠"__name__"->mb x=Ym x)(L:s₁.heap.NoLimit)(hg:s₁.gens=#[])
  (A:s₁.heap.get? a=wc {cls:=.type "list",data:=.seq vs.toArray})(M:IntsAre vs ns)(Q:ns.length<=sizeLine)(hr:Room k callerA)
  (F:∀t:Heap,K.In t->t.Ns Xi mg->FnOk P w K mg t CX k fa fd [x] sp)(f:∀(s:X0)(u:Value),BindsTo s fd ⟨[u],[]⟩ [(x,u)])
  (C:∀H:Hp,Only H->SqL K H a (ns.map V.int)->sp [.ref a] H (λv _=>v=.bl wf) λ_ _ _=>False)
  (D:∀H e y,CX [] H s₁ (λ_ _ _=>False) e y->False):
  YJ (X4 P w) callerA (.call (.ref fa) ⟨[.ref a],[]⟩) (λr y=>r=.ok (.ret (.bool wf))/\OldK s₁.heap y.heap/\y.os=s₁.os/\AllBare y.gens) s₁:=by
 have S:=GV M;have N:=M.length;have c:∀H:Hp,Only H->SqL K H a (ns.map V.int)->HOk P w H s₁.heap->(∀b,H b≠we->b=a)->(H a≠we->K.lookup a=we)->
   YJ (X4 P w) callerA (.call (.ref fa) ⟨[.ref a],[]⟩) (λr y=>r=.ok (.ret (.bool wf))/\OldK s₁.heap y.heap/\y.os=s₁.os/\AllBare y.gens) s₁:=by
  intro H X hS O i hK;have j:∀{b:Addr} {o:Obj},s₁.heap.get? b=wc o->H b=we->(hidT s₁.heap H).get? b=wc o:=λe n=>Py e n;have E:∀{b:Addr} {o:Obj} {R:Array DictEntry} {T:Nat},s₁.heap.get? b=wc o->o.data=.dict R T->H b=we:=fun{b o R T} e d=>by
   cases q:H b with
   |none=>rfl
   |some u=>
    have G:b=a:=i b (by rw[q];simp)
    subst G;rw[A]at e;cases e;have d':Data.seq vs.toArray _=Data.dict R T:=d;cases d'
  have g:∀{b:Addr} {m:Str->Option Value},s₁.heap.Ns b m->(hidT s₁.heap H).Ns b m:=fun{b m} ⟨o,R,T,e,d,r⟩=>⟨o,R,T,j e (E e d),d,r⟩;have U:K.In (hidT s₁.heap H):=λb o e=>j (J b o e) (by
   cases q:H b with
   |none=>rfl
   |some u=>
    have G:b=a:=i b (by rw[q];simp)
    subst G;rw[hK (by rw[q];simp)]at e;cases e)
  have hM:Mod K mg (hidT s₁.heap H):=⟨U,g p,⟨mb,g l,B⟩,let⟨mc,h1,h2⟩:=L;⟨mc,g h1,h2⟩⟩
  have e0:Env0 P w K mg (hidT s₁.heap H) callerA [] s₁ H:=⟨rfl,hM,λb o e=>Pz e,Uq (Px _ _),trivial,λb l=>absurd (show b∈([]:List Addr)from l) (by simp),O,.of_eq hg⟩
  erw[UK ((F _ U (g p)).run callerA [] s₁ H ⟨[.ref a],[]⟩ [.ref a] [.ref a] _ _ hr e0 (f s₁ (.ref a)) (.cons rfl .nil) (C H X hS)) λr y h=>?_];cases r with
  |error e=>erw[(D H e y h).elim]
  |ok fl=>
   cases fl with
   |next=>erw[XN h]
   |brk=>erw[XN h]
   |cont=>erw[XN h]
   |ret u=>
    have⟨v,H',os,W,un,Y,r',q⟩:=h;have q':v=.bl wf:=q;subst q';obtain rfl:u=Ut wf:=r';erw[⟨rfl,OldK.of_keep λb o e=>?_,os,W⟩];cases q:H b with
    |none=>erw[un.keep b o e q (by intro z;erw[absurd (show b∈([]:List Addr)from z) (by simp)]) (by simp)]
    |some u=>
     rcases X b with z|⟨ob,xs,z⟩
     .rw[q]at z;cases z
     .have z2:=un.frzs b ob _ z;have⟨e1,_⟩:=O b _ z;have⟨e2,_⟩:=Y b _ z2;rw[e]at e1;cases e1;erw[e2]
 cases I:K.lookup a with
 |some o=>
  have e:=J a o I;rw[A]at e;cases e;erw[c (λ_=>we) (λ_=>.inl rfl) (.inr ⟨_,vs.toArray,_,I,rfl,rfl,rfl,by rw[XJ,N];erw[Q],by simpa using S⟩) (λb u z=>by have Z:(we:Option HO)=wc u:=z;cases Z) (λb z=>absurd rfl z) λz=>absurd rfl z]
 |none=>
  erw[c (fun b=>if b=a then wc (.frz {cls:=.type "list",data:=.seq vs.toArray} (.lst (ns.map V.int)))else we) (fun b=>?_) (.inl (.inr ⟨{cls:=.type "list",data:=.seq vs.toArray},if_pos rfl⟩)) (fun b u z=>?_) (fun b z=>?_) fun _=>I]
  .by_cases l:b=a
   .erw[.inr ⟨_,_,if_pos l⟩]
   .erw[.inl (if_neg l)]
  .by_cases l:b=a
   .have Z:=(if_pos l).symm.trans z;cases Z;subst l;erw[⟨A,by rw[X7];erw[Q],vs,_,S,A⟩]
   .have Z:=(if_neg l).symm.trans z;cases Z
  .by_cases l:b=a
   .erw[l]
   .erw[absurd (if_neg l) z]
noncomputable abbrev KOf{K:X1}{h:Heap}(_:K.In h):X1:=K
def walk_of{l:D0}{n k:Nat}{q:Xk}{y:List Str}{E:(Str->Option Value)->Heap->Prop}{W:Xe->Heap->Prop}{d:DefRec}{K:Params->X1}{Z:Xe->CXT}{A:Xe->Sp}{x:Str}
  (I:l.most=wc n)(L:n<=sizeLine)(N:d.params.defaults=[])(J:Room k callerA)
  (M:∀(w:Xe)(h:Heap),W w h->(K w.params).In h)
  (F:∀(w:Xe)(m:Str->Option Value)(r:Addr)(h:Heap),(K w.params).In h->h.Ns Xi m->m d.name=wc (.ref r)->
   ∃O:YV,(∀(s:X0)(u:Value),BindsTo s O ⟨[u],[]⟩ [(x,u)])/\
    ∀j:Heap,(K w.params).In j->j.Ns Xi m->FnOk l.prog w (K w.params) m j (Z w) k r O [x] (A w))
  (P:∀(w:Xe)(H:Hp)(a:Addr)(p:List Int),p.length<=n->Only H->SqL (K w.params) H a (p.map V.int)->A w [.ref a] H (λv _=>v=.bl wf) λ_ _ _=>False)
  (R:∀(w:Xe)(H:Hp)(s:X0)(e:Value)(T:X0),Z w [] H s (λ_ _ _=>False) e T->False):
  PySem.W.WalkO q y E W l.row.toRowW d [] (λf B=>PySem.call f B):=by
 erw[Att.attach_call I N λw C g m mb r o pm cd Q a B p G Y ho hd S U c z t X=>?_];have D:=M w _ Y;have⟨O,i,b⟩:=F w m r _ D G.T.g U;erw[RG D G.T.g G.T.b G.T.builtins G.T.nolimit X c z (XA t L) J b i (λH hO hS=>P w H a p t hO hS) λH e T=>R w H g e T]
end L2
/- THE LAST THEOREM (shape;LID,My.*are yours):
  My.Adr:a structure of the addresses that your layer names (classes,functions);My.Txt K t:a structure(Prop) of the equations over K;
  My.txt_mk:{K} {implicit addresses ..} (e1:nsIn K Xi "law"=some (some (.ref f))) (e2:K.lookup f=some ⟨oc,od,.func (fnOf "law" "law" params body scope dV kV doc pm an cdv ct),sl⟩) (e3:codeIn K cdv "law"=true) ..:∃t,My.Txt K t
set_option maxRecDepth 100000 in
set_option maxHeartbeats 0 in
theorem PySem.Challenge.cw_LID_holds : PySem.Challenge.rw_LID.Holds := by
 w_on;o_law;k_head;(case hw=>w_witness2)
 k_fill
 refine L2.walk_of (l:=PySem.Challenge.rw_LID) (n:=63) (k:=40) (x:="script") (CX:=fun w=>..) (sp:=fun _=>My.sp_law) rfl (by decide) rfl ⟨rfl,by decide,by decide⟩ (fun w h Y=>PySem.W.kIn_of Y) ?F ?S ?C
 case F=>
  intro w mg fa h KX G hmg;have T:∃t,My.Txt (L2.KOf KX) t:=by
   dsimp only[L2.KOf] -- K must stand as «<heap const> w.params» for k_is
   refine' My.txt_mk ?e1 ?e2 ?e3 ..
   (case e1=>PySem.W.k_is) -- in the order:a name->its address->its object->its parts
   (case e2=>PySem.W.k_is)
   ..
  obtain⟨t,T⟩:=T;have e0:=hmg.symm.trans (D3 KX G T.law);cases e0 -- fa is the law's own address
  exact⟨_,λs u=>.of_eq rfl,λbase kb nb=>My.law_fn T kb nb⟩ -- if «.of_eq rfl» comes too early:refine' ⟨_,?b,λbase kb nb=>My.law_fn T kb nb⟩;exact λs u=>.of_eq rfl
 case S=>exact λw H a ns hl hO hS=>..
 case C=>exact ..
(the tactic k_is has no namespace:write k_is) -/
namespace L2
open PySem PySem.Spec PyProof.Rows
noncomputable def Yx(s:Stmt)(j:Nat):Stmt:=match s with
 |.ClassDef _ _ _ body _ _ _ _ _ _ _=>body.getD j (.Pass ⟨0,0,0,0⟩)
 |_=>.Pass ⟨0,0,0,0⟩
noncomputable def Uv(s:Stmt):Arguments:=match s with
 |.FunctionDef _ a _ _ _ _ _ _ _ _=>a
 |_=>{posonlyargs:=[],args:=[],vararg:=we,kwonlyargs:=[],kw_defaults:=[],kwarg:=we,defaults:=[]}
noncomputable def Y7(s:Stmt):List Stmt:=match s with
 |.FunctionDef _ _ b _ _ _ _ _ _ _=>b
 |_=>[]
noncomputable def Xz(s:Stmt):Scope:=match s with
 |.FunctionDef _ _ _ _ _ _ sc _ _ _=>sc
 |_=>{kind:=.function,names:=[],isGenerator:=wg,isCoroutine:=wg}
noncomputable abbrev CX0:CXT:=λ_ _ _ _ _ _=>False
noncomputable abbrev E0:XK:=λ_ _ _=>False
def BE{X:Cx}:U8 CX0 X E0:=λ_ _ _ _ _ _ _ h=>h.elim
structure Fun (K:X1)(x qual:Str)(st:Stmt)(f:Addr)(fd:YV):Prop where
 ex:∃(oc:Value) (od:Option Addr) (kV doc pm:Value) (an:Option Addr) (cdv ct:Value) (osl:Array (Option Value)),
  fd=ZC x qual (Uv st) (Y7 st) (Xz st) .none kV doc pm an cdv ct/\K.lookup f=wc ⟨oc,od,.func fd,osl⟩/\AR K cdv qual=wf
 kp:Yt K (.ref f)=wf
section
variable{P:Xk}{w:Xe}{K:X1}{mg:Str->Option Value}{base:Heap}
def Fun.ok{st:Stmt}{k:Nat}(F:Fun K x qual st f fd)(S:FnScope N ps (Xz st))(len:∀vs H Q E,sp vs H Q E->vs.length=ps.length)
  (u:∀(l:Value)(A:Xp)(j:List Env)(s:X0)(H:Hp)(vs:List V)(Q:VK)(E:XK),Room k (A.deeper (envOfC qual (Xz st) s.heap.objs.size f l))->sp vs H Q E->
   ∃t,PSs (cxOf CX0 P w K mg base N qual (Xz st) f l A j s H E).nox (Y7 st) t/\t {nx:=λ_ m=>Q .non m,rt:=Q} (ZI N vs) H):FnOk P w K mg base CX0 (k+1) f fd ps sp:=by
 have⟨p,e,kV,g,L,O,l,R,d,rfl,c,y⟩:=F.ex;erw[Gu c y S len λA j s H vs Q E r z=>?_];have⟨t,h,q⟩:=u l A j s H vs Q E r z;erw[⟨t,h.nox,q⟩]
def Fun.binds{st:Stmt}(F:Fun K x qual st f fd)
  (h:∀(kV j t:Value)(u:Option Addr)(l y:Value)(z:List Value),z.length=ps.length->bindArgs (ZC x qual (Uv st) (Y7 st) (Xz st) .none kV j t u l y) ⟨z,[]⟩=pure (ps.zip z)):Binds K fd ps []:=by
 have⟨d,c,kV,j,t,u,l,y,m,rfl,r,g⟩:=F.ex;erw[.all (h kV j t u l y)]
def fun_mk{st:Stmt}{kV:Value}(l:K.lookup f=wc ⟨oc,od,.func (ZC x qual (Uv st) (Y7 st) (Xz st) .none kV doc pm an cdv ct),osl⟩)
  (c:AR K cdv qual=wf)(k:Yt K (.ref f)=wf):Fun K x qual st f (ZC x qual (Uv st) (Y7 st) (Xz st) .none kV doc pm an cdv ct):=⟨⟨oc,od,kV,doc,pm,an,cdv,ct,osl,rfl,l,c⟩,k⟩
end
section
variable{X:Cx}
def pv(i:Nat)(l:X.N[i]?=wc x:=by rfl)(t:Vis X.env.scope x:=by first|erw[Or.inl rfl]|erw[Or.inr (Or.inl rfl)]|erw[Or.inr (Or.inr rfl)])(hd:(x==("__debug__":Str))=wg:=by decide)
  (j:(x==("__classdict__":Str))=wg:=by decide):PE X (.Name x pos) (tVar i):=Bw l t hd j
def RI:Yw X (.builtin "len") (fun l H Q=>∃a j,l=[V.ref a]/\H a=wc (.dK j)/\Q (.int j.length) H):=by
 intro m s g H l d Q I r h;have⟨a,j,rfl,w,q⟩:=h;have⟨u,rfl,y⟩:=_H r;cases y;erw[Rx I (.inl w) λt c z=>⟨.int j.length,H,z,⟨t,rfl⟩,q⟩]
end
section
variable{κ:Type} [DecidableEq κ]
theorem GW:∀{l:List κ} {k:κ},l.Nodup->¬k∈l->(l++[k]).Nodup
 |[],k,_,_=>by simp
 |a::r,k,h,hk=>by
  have⟨j,t⟩:=Yi.mp h;show(a::(r++[k])).Nodup;erw[Yi.mpr ⟨λm=>?_,GW t λm=>hk (Xh.mpr (Or.inr m))⟩];rcases Ya.mp m with q|q
  .erw[j q]
  .erw[hk (Xh.mpr (Or.inl (Y9.mp q).symm))]
end
def GY:Ym "isinstance"=wc (.builtin "isinstance"):=by decide+kernel
section
variable{X:Cx}
def WN(i j:Int):Prop:=0<j/\j<2^256
def RJ(h:WN i j):j.natAbs.log2<9000:=by
 have t:(0:Int)<j:=h.1;have u:j<2^256:=h.2;have l:j.natAbs≠0:=by lia
 have:j.natAbs<2^256:=by lia
 have:=(Nat.log2_lt l).mpr this;lia
def RK:OpR X (Yh .FloorDiv) (rI WN λi j=>.int (i/j)):=opI λi j _ _ _ _ _ l q=>by
 have t:(0:Int)<j:=l.1;erw[floordiv_int (by lia) (by rw[Int.fdiv_eq_ediv_of_nonneg i (by lia)];erw[q]) (.inl (PyProof.noPylong_of_log2 (RJ l)))]
def RL:Yw X (.builtin "isinstance") (fun l H Q=>∃x c t b,l=[x,.ty c]/\TyOf X.K H x t/\UR X.K t (.type c)=wc b/\Q (.bl b) H):=by
 intro z s m H l g Q I r h;have⟨x,c,t,b,rfl,ty,e,q⟩:=h;have⟨u,d,rfl,w,j⟩:=WH r;cases j;erw[QL I w ty e λy=>⟨.bl b,H,I.tok y,rfl,q⟩]
end
section
variable{X:Cx}{pj:List (Addr×Obj)}{σ:St}{H:Hp}{s:X0}
end
section
variable{X:Cx}
end
end L2
namespace L2
end L2
namespace L2
open PySem PySem.Spec PyProof.Rows
noncomputable def clOf(j:List (Str×Addr)):List (Str×Z9)->List (Str×Addr)->List (Str×Addr)
 |[],acc=>acc
 |(n,k)::r,acc=>if k=.free then(match j.lookup n with|wc a=>clOf j r ((n,a)::acc)|we=>clOf j r acc)else clOf j r acc
theorem WO(j:List (Str×Addr)):∀(t:List (Str×Z9))(l:List (Str×Addr))(x:Str)(c:Addr),(clOf j t l).lookup x=wc c->l.lookup x=wc c\/j.lookup x=wc c
 |[],l,x,c,h=>.inl h
 |(n,k)::r,l,x,c,h=>by
  unfold clOf at h;by_cases hk:k=.free
  .rw[if_pos hk]at h;cases u:j.lookup n with
   |none=>rw[u]at h;erw[WO j r l x c h]
   |some a=>
    rw[u]at h;rcases WO j r _ x c h with q|q
    .by_cases hx:x=n
     .subst hx;simp at q;subst q;erw[.inr u]
     .have w:(x==n)=wg:=beq_eq_false_iff_ne.mpr hx;simp only[Zp,w]at q;erw[.inl q]
    .erw[.inr q]
  .rw[if_neg hk]at h;erw[WO j r l x c h]
theorem BF(j:List (Str×Addr)):∀(t:List (Str×Z9))(l:List (Str×Addr))(x:Str)(c:Addr),j.lookup x=wc c->l.lookup x=wc c->(clOf j t l).lookup x=wc c
 |[],l,x,c,_,h=>h
 |(n,k)::r,l,x,c,h,ha=>by
  unfold clOf;by_cases hk:k=.free
  .rw[if_pos hk];cases u:j.lookup n with
   |none=>erw[BF j r l x c h ha]
   |some a=>
    erw[BF j r _ x c h ?_];by_cases hx:x=n
    .subst hx;rw[h]at u;cases u;simp
    .have w:(x==n)=wg:=beq_eq_false_iff_ne.mpr hx;simp only[Zp,w];erw[ha]
  .rw[if_neg hk];erw[BF j r l x c h ha]
theorem WP(j:List (Str×Addr)):∀(l:List (Str×Z9))(t:List (Str×Addr))(x:Str)(c:Addr),(x,Yk)∈l->j.lookup x=wc c->(clOf j l t).lookup x=wc c
 |[],t,x,c,h,_=>by cases h
 |(n,k)::r,t,x,c,h,ha=>by
  unfold clOf;rcases Xh.mp h with e|h
  .cases e;rw[if_pos rfl,ha];erw[BF j r _ _ c ha (by simp)]
  .by_cases hk:k=.free
   .rw[if_pos hk];cases u:j.lookup n with
    |none=>erw[WP j r t x c h ha]
    |some a=>erw[WP j r _ x c h ha]
   .rw[if_neg hk];erw[WP j r t x c h ha]
theorem Dx(f:Str×Z9->List (Str×Addr)->Sem (ForInStep (List (Str×Addr))))
  (u:∀n k r,f (n,k) r=if(k==Yk)=wf then(cellOf env n >>= λa=>pure (Br ((n,a)::r)))else pure (Br r)):
  ∀(j:List (Str×Z9))(l:List (Str×Addr)),(∀y∈j,y.2=.free->∃c,env.cells.lookup y.1=wc c)->(forIn j l f:Sem (List (Str×Addr)))=pure (clOf env.cells j l)
 |[],l,_=>by rw[List.forIn_nil];rfl
 |(n,k)::r,l,h=>by
  rw[List.forIn_cons,u];have w:∀y∈r,y.2=.free->∃c,env.cells.lookup y.1=wc c:=λy z=>h y (XD _ z);by_cases hk:k=.free
  .subst hk;have⟨c,m⟩:=h (n,.free) XZ rfl;have t:env.cells.lookup n=wc c:=m;have e:cellOf env n=pure c:=by unfold cellOf;rw[t]
   rw[if_pos (by decide),e,pure_bind,pure_bind]
   show forIn r ((n,c)::l) f=_;rw[Dx f u r _ w];simp only[clOf,if_pos,t]
  .have g:(k==Yk)=wg:=by simpa using hk
   rw[g,if_neg Xx,pure_bind];show forIn r l f=_;rw[Dx f u r _ w];simp only[clOf,if_neg hk]
def GZ(h:∀y∈scope.names,y.2=.free->∃c,env.cells.lookup y.1=wc c):closureFor scope env=pure (clOf env.cells scope.names []):=by
 unfold closureFor;simp only[bind_pure];erw[Dx _ (λn k r=>by
  by_cases hk:(k==Yk)=wf
  .simp only[hk,if_true]
  .simp only[hk,if_false]) scope.names [] h]
noncomputable def VI(l j:Scope)(N own:List Str)(fr:List Nat):Bool:=
 decide (j.kind=.function)&&j.names.all (λy=>decide (y.2≠.cell))&&j.names.all (λy=>decide (y.2=.local->j.names.lookup y.1=wc .local))&&
 j.names.all (λy=>decide (y.2=.free->l.names.lookup y.1=wc .cell\/l.names.lookup y.1=wc .free))&&
 fr.all (λi=>match N[i]? with|wc x=>decide ((x,Yk)∈j.names/\j.names.lookup x=wc .free/\(l.names.lookup x=wc .cell\/l.names.lookup x=wc .free))|we=>wg)
structure CompOk (osc scope:Scope)(N:List Str)(fr:List Nat):Prop where
 kind:scope.kind=.function
 nocell:∀y∈scope.names,y.2≠.cell
 names:∀y∈scope.names,y.2=.local->scope.names.lookup y.1=wc .local
 has:∀y∈scope.names,y.2=.free->osc.names.lookup y.1=wc .cell\/osc.names.lookup y.1=wc .free
 frees:∀i∈fr,∃x,N[i]?=wc x/\(x,Yk)∈scope.names/\scope.names.lookup x=wc .free/\(osc.names.lookup x=wc .cell\/osc.names.lookup x=wc .free)
def VJ{l j:Scope}{N own:List Str}{fr:List Nat}(h:VI l j N own fr=wf):CompOk l j N fr:=by
 unfold VI at h;simp only[Xs,Ul,decide_eq_true_eq]at h;have⟨⟨⟨⟨t,u⟩,w⟩,y⟩,z⟩:=h;erw[⟨t,u,w,y,λi m=>?_⟩];have q:=z i m;cases e:N[i]? with
 |none=>rw[e]at q;simp at q
 |some x=>rw[e]at q;simp only[decide_eq_true_eq]at q;erw[⟨x,rfl,q⟩]
noncomputable def sC(own:List Str)(fr:List Nat)(j:St):St:=own.map (λ_=>we)++fr.map (λi=>j.getD i we)
noncomputable def nC(own:List Str)(fr:List Nat)(N:List Str):List Str:=own++fr.map (λi=>N.getD i V2)
def cxC(X:Cx)(j:Scope)(own:List Str)(fr:List Nat)(C:Addr)(u:List Addr)(l:X0)(t:Hp):Cx:=
 {X with N:=nC own fr X.N,s₀:=l,H₀:=t,env:=compEnvC j (clOf X.env.cells j.names []) C X.env,outer:=X.stack,ex:=u,fn:=λ_=>wg,xe:=λ_ _=>False}
def Keep(l j:St):Prop:=l.length=j.length/\∀(i:Nat)(v:V),l[i]?=wc (wc v)->j[i]?=wc (wc v)
def tAll:TT:=λ_ H Q=>Q wf H
def PTs(X:Cx)(j:List Expr)(t:TT):Prop:=(j=[]/\t=tAll)\/∃c,j=[c]/\PT X c t
section
variable{prog:Xk}{w:Xe}{A:Xp}{R:Result->X0->Prop}{s:X0}
def RN(I:Nat->X0->Prop)
  (turn:∀n s,I n s->X3 (X4 prog w) A (pyNext it) (λr j=>match r with
   |we=>R (.ok .next) j
   |wc v=>X3 (X4 prog w) A (Ar target it v) (λ_ l=>X3 (X4 prog w) A (assign target env v) (λ_ y=>
     X3 (X4 prog w) A (forIn ifs wf λc r=>if r=wf then do let ok<- isTrue c env (eval c env);pure (Br ok)else pure (Br r)) (λok t=>
      if ok=wf then X3 (X4 prog w) A (eval elt env) (λx z=>
       X3 (X4 prog w) A (call (.builtin "list.append") [acc,x]) (fun _ g=>∃m,m<n/\I m g) (fun _ _=>False) z) (fun _ _=>False) t
      else∃m,m<n/\I m t) (λ_ _=>False) y) (λ_ _=>False) l) (λ_ _=>False) j) (λ_ _=>False) s)
  (n:Nat)(h:I n s):
  YJ (X4 prog w) A (.compLoop (.ListComp elt [⟨target,iter,ifs,0⟩] scope pos) 0 it acc env) R s:=by
 erw[codeAny_loop rfl I (λn s O=>?_) n h];show X3 _ A ((compTurn (.ListComp elt [⟨target,iter,ifs,0⟩] scope pos) 0 it acc env).onRaise (λx=>do noteFrame x env;theTreesLotGoes x)) _ _ s
 erw[wpAny_noted ?_];rw[compTurn_list];erw[X2 (wpAny_standAt (X2 (Yd (turn n s O) (λr j d=>?_) λ_ _ u=>u.elim)))];cases r with
 |none=>erw[X8 d]
 |some v=>
  erw[X2 (Yd d (λ_ l p=>?_) λ_ _ u=>u.elim)];erw[X2 (Yd p (λ_ y e=>X2 (Yd e (λok t f=>?_) λ_ _ u=>u.elim)) λ_ _ u=>u.elim)];cases ok with
  |false=>erw[X8 ⟨rfl,f⟩]
  |true=>
   erw[X2 (X2 (Yd f (λx z L=>X2 (Yd L (λ_ g N=>X8 (X8 ⟨rfl,N⟩)) λ_ _ u=>u.elim)) λ_ _ u=>u.elim))]
end
def RP(h:Q wf H):tAll σ H Q:=h
section
variable{X:Cx}{pj:List (Addr×Obj)}{σ:St}{H1:Hp}{s2:X0}{tg elt iter:Expr}{ifs:List Expr}{scope:Scope}{pos:Pos}{own:List Str}{fr:List Nat}{g:TG}{tt:TT}{te:TE}
theorem Ha{scope:Scope}{j:Env}{x:Str}:∀{l:List (Str×Z9)},l.lookup x=wc .free->
  (l.map fun(n,k)=>if(k==Yk&&j.scope.kind==.function&&j.kindOf n==wc .cell)then(n,Vy)else(n,k)).lookup x=wc .cell\/
  (l.map fun(n,k)=>if(k==Yk&&j.scope.kind==.function&&j.kindOf n==wc .cell)then(n,Vy)else(n,k)).lookup x=wc .free
 |[],h=>by simp at h
 |(n,k)::r,h=>by
  have u:=@Ha scope j x r;show ZY x ((if(k==Yk&&j.scope.kind==.function&&j.kindOf n==wc .cell)=wf then(n,Vy)else(n,k))::_)=_\/ZY x ((if(k==Yk&&j.scope.kind==.function&&j.kindOf n==wc .cell)=wf then(n,Vy)else(n,k))::_)=_;cases t:x==n with
  |true=>
   simp only[Zp,t]at h;cases h;by_cases hc:(Yk==Yk&&j.scope.kind==.function&&j.kindOf n==wc .cell)=wf
   .rw[if_pos hc];simp only[Zp,t];erw[.inl trivial]
   .rw[if_neg hc];simp only[Zp,t];erw[.inr trivial]
  |false=>
   simp only[Zp,t]at h;by_cases hc:(k==Yk&&j.scope.kind==.function&&j.kindOf n==wc .cell)=wf
   .rw[if_pos hc];simp only[Zp,t];erw[u h]
   .rw[if_neg hc];simp only[Zp,t];erw[u h]
theorem Hb{scope:Scope}{j:Env}(w:∀y∈scope.names,y.2≠.cell){x:Str}:∀{l:List (Str×Z9)},(∀y∈l,y.2≠.cell)->
  ((l.map fun(n,k)=>if(k==Yk&&j.scope.kind==.function&&j.kindOf n==wc .cell)then(n,Vy)else(n,k)).lookup x=wc .cell\/
  (l.map fun(n,k)=>if(k==Yk&&j.scope.kind==.function&&j.kindOf n==wc .cell)then(n,Vy)else(n,k)).lookup x=wc .free)->(x,Yk)∈l
 |[],_,h=>by simp at h
 |(n,k)::r,hnc,h=>by
  have u:=@Hb scope j w x r (λy z=>hnc y (XD _ z));have m:k≠.cell:=hnc (n,k) XZ;simp only[Xy]at h;cases t:x==n with
  |true=>
   have e:x=n:=eq_of_beq t;subst e;by_cases hc:(k==Yk&&j.scope.kind==.function&&j.kindOf x==wc .cell)=wf
   .have:k=.free:=by
     simp only[Xs,beq_iff_eq]at hc;erw[hc.1.1]
    subst this;erw[XZ]
   .rw[if_neg hc]at h;simp at h;rcases h with h|h
    .erw[absurd h m]
    .subst h;erw[XZ]
  |false=>
   by_cases hc:(k==Yk&&j.scope.kind==.function&&j.kindOf n==wc .cell)=wf
   .rw[if_pos hc]at h;simp only[Zp,t]at h;erw[XD _ (u h)]
   .rw[if_neg hc]at h;simp only[Zp,t]at h;erw[XD _ (u h)]
def RQ(ok:CompOk X.env.scope scope X.N fr)(w:Inv X pj σ H3 s3)(P:C=s3.heap.objs.size)(R:∀b∈fp,FpOk X pj H3 b)(U:∀b∈fp,∃o,s3.heap.get? b=wc o)
  (E:h4.Ns C m)(N:∀b o,s3.heap.get? b=wc o->h4.get? b=wc o):
  Inv (cxC X scope own fr C fp s3 H3) pj (sC own fr σ) H3 {s3 with heap:=h4,toks:=tk}:=by
 have l:∀x c,(clOf X.env.cells scope.names []).lookup x=wc c->X.env.cells.lookup x=wc c:=λx c h=>(WO _ _ _ _ _ h).elim (λz=>by simp at z) id
 have W:∀x c,X.env.cells.lookup x=wc c->c<s3.heap.objs.size:=λx c e=>by have⟨v,q⟩:=w.cell x c e;erw[q.lt]
 have O:∀b∈fp,b<s3.heap.objs.size:=λb r=>by have⟨o,e⟩:=U b r;erw[Xu e]
 have f:∀x,(X.env.scope.names.lookup x=wc .cell\/X.env.scope.names.lookup x=wc .free)->∃c,X.env.cells.lookup x=wc c:=λx h=>w.ok.has x h;erw[⟨⟨w.ok.mod,ok.kind,w.ok.glob,w.ok.blt,Uq P.symm,λx y c F G=>w.ok.inj x y c (l x c F) (l y c G),λx I=>?_,λx c z=>?_,w.ok.hd,w.ok.frames,.inl rfl,λb r=>⟨?_,λx c e=>?_⟩,λb o e=>w.bs b o e,XA w.ok.bsz w.sz,λb o e r=>?_,λb r J=>?_,w.stack,λb r=>w.stkFree b r⟩,
  rfl,w.bare,Un.kept N,⟨m,E,λi x v M Q e3=>?_⟩,λx c e=>?_,?_,λx c e=>w.freeC x c (l x c e),λp S=>?_,w.hok.kept N,?_⟩]
 . -- has
  have T:(x,Yk)∈scope.names:=Hb (scope:=scope) (j:=X.env) ok.nocell ok.nocell I;have⟨c,Y⟩:=f x (ok.has _ T rfl);erw[⟨c,WP _ _ _ _ _ T Y⟩]
 .erw[absurd z Xx]
 .erw[XE (by rw[P];erw[O b r])]
 .erw[(R b r).2.2.2.2.1 x c (l x c e)]
 .rcases(R b r).2.2.2.1 with z|z
  .erw[w.ok.noex b o e z]
  .erw[absurd (Yu (Xu e) (XA w.ok.bsz z)) (U1 _)]
 .rcases Xh.mp (w.stkSub b J)with z|z
  .erw[(R b r).2.1 z]
  .erw[(R b r).2.2.1 z]
 . -- a free name's value
  have t:(own.map (λ_=>(we:Option V))++fr.map (λi=>σ.getD i we))[i]?=wc (wc v):=Q;have L:(own++fr.map (λi=>X.N.getD i V2))[i]?=wc x:=M;by_cases hi:i<own.length
  .rw[ZV (by simpa using hi),Xl]at t
   cases q:own[i]? with
   |none=>rw[q]at t;cases t
   |some z=>rw[q]at t;cases t
  .rw[ZU (by simpa using hi)]at t
   rw[ZU (by simpa using hi)]at L
   simp only[X7]at t;rw[Xl]at L t;cases q:fr[i - own.length]? with
   |none=>rw[q]at t;cases t
   |some j=>
    rw[q]at L t;have⟨y,D,T,H,Z⟩:=ok.frees j (Xv q);have a:x=y:=by
     have:X.N.getD j V2=y:=by rw[YK,D];rfl
     simp only[Bg,this,Be]at L;erw[L.symm]
    subst a;have ev:σ[j]?=wc (wc v):=by
     simp only[Bg,Be]at t;rw[YK]at t;cases z:σ[j]? with
     |none=>rw[z]at t;cases t
     |some o=>rw[z]at t;cases t;rfl
    have⟨m0,hn0,A⟩:=w.loc;have⟨u,ru,lk⟩:=A j x v D ev (.inr Z);erw[⟨u,ru,.inr ⟨Ha (scope:=scope) H,?_⟩⟩];rcases lk with⟨k1,_⟩|⟨_,c,Y,z⟩
    .have B:X.env.scope.names.lookup x=wc .local:=k1;rw[B]at Z;rcases Z with z|z<;>cases z
    .erw[⟨c,WP _ _ _ _ _ T Y,z.keeps N⟩]
 .have⟨v,z⟩:=w.cell x c (l x c e);erw[⟨v,z.keeps N⟩]
 .show H3 C=we;erw[w.hok.fresh (Uq P.symm)]
 .have⟨e,n,ne,nf,d⟩:=w.pin p S;erw[⟨N _ _ e,n,XE (by rw[P];erw[Xu e]),λz=>?_,d⟩]
  rcases Xh.mp (w.stkSub p.1 z)with z|z
  .erw[ne z]
  .erw[nf z]
 .show(own.map (λ_=>(we:Option V))++fr.map (λi=>σ.getD i we)).length=(own++fr.map (λi=>X.N.getD i V2)).length;simp
end
section
variable{X:Cx}
end
def Hc(j:List Int):(Xr j.length).map (λi=>j.getD i 0)=j:=by
 apply AG
 .simp
 .intro i t l;simp[l]
section
variable{X:Cx}
def RT(j:z.length<=16)(w:-1000<=i)(y:i<=1000):MulOk z i:=by
 erw[⟨?_,λl _=>?_,λl _=>?_⟩]
 .rw[decide_eq_false (by lia),decide_eq_false (by lia)];rfl
 .have m:1<=i:=by lia
  have:(16:Int)<=(2^63 - 1)/i:=by
   rw[Int.le_ediv_iff_mul_le (by lia)]
   lia
  lia
 .have:z.length*i.toNat<=16*1000:=Nat.mul_le_mul j (by lia)
  have t:z.length*i.toNat<2^20:=by lia
  generalize z.length*i.toNat=n at t;revert n;intro n g;have u:sizeLine=16777216:=by decide
  show decide (n>sizeLine)=wg;rw[u];erw[decide_eq_false (by lia)]
def RU:OpR X (Yh .Mult) (λx y H Q=>∃z i,x=.str z/\y=.int i/\z.length<=16/\ -1000<=i/\i<=1000/\Q (.str (Txt.mul z i)) H):=by
 intro c s f H x y v u Q I j l h;have⟨z,i,rfl,rfl,w,m,g,q⟩:=h;have⟨t,rfl⟩:=j;have⟨d,rfl⟩:=l;erw[SB.mul (RT w m g) (λd k=>⟨.str (Txt.mul z i),H,I.tok _,⟨_,rfl⟩,q⟩)]
theorem Hd(x:Array Nat):∀(k:Nat)(j:Array Nat),((Xg k x).foldl (·++·) j).size=j.size+k*x.size
 |0,j=>by simp
 |k+1,j=>by
  rw[Zc,Vp,Hd x k,Array.size_append,Nat.succ_mul];lia
def RV(z:Str)(i:Int):(Txt.mul z i).length=i.toNat*z.length:=by
 unfold Txt.mul;by_cases h:i<1
 .rw[if_pos h];have:i.toNat=0:=by lia
  rw[this,Nat.zero_mul]
  rfl
 rw[if_neg h];by_cases h2:(i==1||z.length==0)=wf
 .rw[if_pos h2];rcases(B8 _ _).mp h2 with e|e
  .have:i=1:=by simpa using e
   subst this;simp
  .have:z.length=0:=by simpa using e
   rw[this,Nat.mul_zero]
 .rw[if_neg h2];have e:=Hd z.cps i.toNat #[];show((Xg i.toNat z.cps).foldl (·++·) #[]).size=_;rw[e];show 0+_=_;rw[Nat.zero_add]
  rfl
def BG{z:Str}{i:Int}(m:Nat)(h:i<=m)(j:z.length<=1):(Txt.mul z i).length<=m:=by
 rw[RV];have:i.toNat*z.length<=i.toNat*1:=Nat.mul_le_mul_left _ j;lia
def RW(g:X.A.units<cLine):OpR X (Y1 .Eq) (λx y H Q=>∃a b w,x=.ref a/\y=.ref b/\SqL X.K H a w/\SqL X.K H b []/\Q (.bl w.isEmpty) H):=by
 intro U s W H x y v u Q I p L h;have⟨a,b,w,rfl,rfl,N,O,q⟩:=h;cases p;cases L;have⟨l,d,c,Y⟩:=I.list N;have⟨z,m,t,_⟩:=I.list O;have P:z=[]:=Ax m.length.symm;subst P;cases w with
 |nil=>
  have R:l=[]:=Ax d.length.symm;subst R;erw[SeqAt.eq_listAt (e:=λ_=>wf) c.isList t.isList rfl g (λj T _=>absurd T (AZ j)) (XG I q rfl)]
 |cons x r=>
  have f:l.length=r.length+1:=by rw[<-d.length];rfl
  erw[SeqAt.eq_list_lengthsAt c.isList t.isList (by simp;intro e;rw[e]at f;simp at f) g (XG I q rfl)]
def RX(g:X.A.units<cLine):OpR X (Y1 .NotEq) (λx y H Q=>∃a b w,x=.ref a/\y=.ref b/\SqL X.K H a w/\SqL X.K H b []/\Q (.bl (!w.isEmpty)) H):=by
 intro U s W H x y v u Q I p L h;have⟨a,b,w,rfl,rfl,N,O,q⟩:=h;cases p;cases L;have⟨l,d,c,Y⟩:=I.list N;have⟨z,m,t,_⟩:=I.list O;have P:z=[]:=Ax m.length.symm;subst P;cases w with
 |nil=>
  have R:l=[]:=Ax d.length.symm;subst R;erw[SeqAt.RcNeAt.lists (e:=λ_=>wf) c.isList t.isList rfl g (λj T _=>absurd T (AZ j)) X.prog X.w _ _ (XG I q rfl)]
 |cons x r=>
  have f:l.length=r.length+1:=by rw[<-d.length];rfl
  erw[SeqAt.RcNeAt.lists_lengths c.isList t.isList (by simp;intro e;rw[e]at f;simp at f) g X.prog X.w _ _ (XG I q rfl)]
end
open AutoSeq1 (wpAny_loadPart')
open MeetsSeq MeetsSeq2 MeetsSeq3 SeqRoads2
def AliP(P:Xk)(w:Xe)(A:Xp)(s:X0)(y x:Value):Prop:=∀(E:Value->X0->Prop)(Q:Bool->X0->Prop),Q wf s->X3 (X4 P w) A (eqBool y x) Q E s
def RcP(P:Xk)(w:Xe)(A:Xp)(s:X0)(y x:Value):Prop:=∀(E Q:Value->X0->Prop),Q (.bool wf) s->X3 (X4 P w) A (richCompare .Eq y x) Q E s
def RnP(P:Xk)(w:Xe)(A:Xp)(s:X0)(y x:Value):Prop:=∀(E Q:Value->X0->Prop),Q (.bool wg) s->X3 (X4 P w) A (richCompare .NotEq y x) Q E s
section
variable{P:Xk}{w:Xe}{A:Xp}{s:X0}{a b:Addr}{xs ys:Array Value}
def AliP.of_at(h:SeqAt.EqAt A s y x wf):AliP P w A s y x:=λE Q q=>h P w E Q q
def AliP.refs(h:RcP P w A s (.ref a) (.ref b)):AliP P w A s (.ref a) (.ref b):=by
 intro E Q q;by_cases e:a=b
 .subst e;erw[SeqAt.EqAt.same _ P w E Q q]
 .unfold eqBool;erw[YI (wpAny_ite_split (λz=>absurd (by injection (eq_of_beq z)) e) λ_=>?_)]
  erw[X2 (h E _ (Zx q))]
def RY(R:s.heap.IsTuple a xs)(T:s.heap.IsTuple b ys)(U:xs.size=ys.size)(W:A.units<cLine)(Y:∀p∈xs.toList.zip ys.toList,AliP P w A.in1 s p.1 p.2):RcP P w A s (.ref a) (.ref b):=by
 intro E Q q;have⟨⟨C,D,G,I⟩,j,u,J,g⟩:=id R;have⟨⟨M,S,X,H⟩,d,c,v,f⟩:=id T;dsimp only at u g c f;subst u g c f;erw[Vi (op:=.Eq) ⟨_,j,rfl⟩ ⟨_,d,rfl⟩ F.slot_tuple_eq (Zn F.slot_tuple_eq ⟨_,j,rfl⟩ F.entry_tuple_eq ?_ (F.args_tuple_eq_2 _ _)) W];have⟨e,L,N,O,os⟩:=s;have o:=Fz
 wp_walk using Ye j,Ye d,wpAny_forIn_list _ (λrest r l=>r.1=we/\l=⟨e,L,N,O,os⟩/\∀p∈rest,AliP P w A.in1 ⟨e,L,N,O,os⟩ p.1 p.2) _
 case turn=>
  rintro⟨y,x⟩ rest r l ⟨t,rfl,m⟩;erw[X2 (m (y,x) XZ _ _ ?_)]
  wp_walk
  erw[⟨rfl,rfl,λp Z=>m p (XD _ Z)⟩]
 case fin=>
  rintro⟨r1,i⟩ l ⟨t,rfl,-⟩;dsimp only at t;subst t
  wp_walk
  have B:Bh .Eq xs.size ys.size=.bool wf:=by simp[Bh,U]
  rw[B];erw[⟨_,rfl,(λz=>nomatch z),q⟩]
 case h=>erw[⟨rfl,rfl,Y⟩]
def RZ(m:xs.size=ys.size)
  (t:s.heap.get? a=wc {cls:=.type "list",dict:=d1,data:=.seq xs n1,slots:=l1})(u:s.heap.get? b=wc {cls:=.type "list",dict:=d2,data:=.seq ys n2,slots:=l2})
  (g:∀j (y:j<xs.size)(z:j<ys.size),AliP P w A.in1 s xs[j] ys[j])(q:R (.ok (.ret (.bool wf))) s):∀k i:Nat,xs.size - i=k->
  X3 (X4 P w) A.in1 (Builtin.«list.__eq__.loop» ⟨[.ref a,.ref b,Y3 i,Y3 2],[]⟩) (λfin l=>match fin with|.done f=>R (.ok f) l|.again c'=>c'.quiet=wf/\YJ (X4 P w) A c' R l) (λe l=>R (.error e) l) s:=by
 have⟨r,p,L,N,os⟩:=s;intro k
 induction k with
 |zero=>
  intro i d
  wp_walk using Ye t,Ye u
  rw[show xs[((i:Nat):Int).toNat]?=we by simp;lia,show ys[((i:Nat):Int).toNat]?=we by simp;lia]
  wp_walk using Ye t,Ye u
  show R (.ok (.ret (.bool (xs.size==ys.size)))) _
  simpa [m]using q
 |succ k c=>
  intro i d;have y:i<xs.size:=by lia
  have z:i<ys.size:=by lia
  wp_walk using Ye t,Ye u
  rw[show xs[((i:Nat):Int).toNat]?=wc xs[i] by simp[y],show ys[((i:Nat):Int).toNat]?=wc ys[i] by simp[z]]
  erw[X2 (g i y z _ _ ?_)]
  wp_walk
  rw[show((i:Int)+1)=((i+1:Nat):Int) by push_cast;rfl]
  erw[⟨ZA plain_eq_loop _,YZ entry_eq_loop ?_⟩];rw[Zt plain_eq_loop _];erw[c (i+1) (by lia)]
def S0(f:s.heap.IsList a xs)(r:s.heap.IsList b ys)(y:xs.size=ys.size)(p:A.units<cLine)(e:∀j (N:j<xs.size)(O:j<ys.size),AliP P w A.in1 s xs[j] ys[j]):RcP P w A s (.ref a) (.ref b):=by
 intro E Q q;have⟨⟨T,U,l,W⟩,t,m,Y,g⟩:=id f;have⟨⟨Z,B,C,D⟩,u,d,G,c⟩:=id r;dsimp only at m g d c;subst m g d c;have l:s.TypeIs (.ref a) "list":=⟨_,t,rfl⟩;erw[Vi (op:=.Eq) l ⟨_,u,rfl⟩ Df (Vh (We Df.plain F.entry_list_eq (Df.check _ _ _ _ _ _ _ _ l (F.args_list_eq_2 _ _) ?_))) p];have⟨I,J,M,S,os⟩:=s;have X:=FA;have H:¬(xs.size != ys.size)=wf:=by simp[y]
 wp_walk using Ye t,Ye u
 erw[⟨ZA plain_eq_loop _,YZ entry_eq_loop ?_⟩];rw[Zt plain_eq_loop _];erw[RZ (R:=wants (λv L=>v≠.notImplemented/\Q v L) E) y t u e (show Ut wf≠.notImplemented/\Q (.bool wf) _ from⟨(λz=>nomatch z),q⟩) _ 0 rfl]
def S1(R:s.heap.IsTuple a xs)(T:s.heap.IsTuple b ys)(U:xs.size=ys.size)(W:A.units<cLine)(Y:∀p∈xs.toList.zip ys.toList,AliP P w A.in1 s p.1 p.2):RnP P w A s (.ref a) (.ref b):=by
 intro E Q q;have⟨⟨C,D,G,I⟩,j,u,J,g⟩:=id R;have⟨⟨M,S,X,H⟩,d,c,v,f⟩:=id T;dsimp only at u g c f;subst u g c f;erw[Vi (op:=.NotEq) ⟨_,j,rfl⟩ ⟨_,d,rfl⟩ F.slot_tuple_ne (Zn F.slot_tuple_ne ⟨_,j,rfl⟩ F.entry_tuple_ne ?_ (F.args_tuple_ne_2 _ _)) W];have⟨e,L,N,O,os⟩:=s;have o:=Fz
 wp_walk using Ye j,Ye d,wpAny_forIn_list _ (λrest r l=>r.1=we/\l=⟨e,L,N,O,os⟩/\∀p∈rest,AliP P w A.in1 ⟨e,L,N,O,os⟩ p.1 p.2) _
 case turn=>
  rintro⟨y,x⟩ rest r l ⟨t,rfl,m⟩;erw[X2 (m (y,x) XZ _ _ ?_)]
  wp_walk
  erw[⟨rfl,rfl,λp Z=>m p (XD _ Z)⟩]
 case fin=>
  rintro⟨r1,i⟩ l ⟨t,rfl,-⟩;dsimp only at t;subst t
  wp_walk
  have B:Bh .NotEq xs.size ys.size=.bool wg:=by simp[Bh,U]
  rw[B];erw[⟨_,rfl,(λz=>nomatch z),q⟩]
 case h=>erw[⟨rfl,rfl,Y⟩]
def S2(m:xs.size=ys.size)
  (t:s.heap.get? a=wc {cls:=.type "list",dict:=d1,data:=.seq xs n1,slots:=l1})(u:s.heap.get? b=wc {cls:=.type "list",dict:=d2,data:=.seq ys n2,slots:=l2})
  (g:∀j (y:j<xs.size)(z:j<ys.size),AliP P w A.in1 s xs[j] ys[j])(q:R (.ok (.ret (.bool wg))) s):∀k i:Nat,xs.size - i=k->
  X3 (X4 P w) A.in1 (Builtin.«list.__eq__.loop» ⟨[.ref a,.ref b,Y3 i,Y3 3],[]⟩) (λfin l=>match fin with|.done f=>R (.ok f) l|.again c'=>c'.quiet=wf/\YJ (X4 P w) A c' R l) (λe l=>R (.error e) l) s:=by
 have⟨r,p,L,N,os⟩:=s;intro k
 induction k with
 |zero=>
  intro i d
  wp_walk using Ye t,Ye u
  rw[show xs[((i:Nat):Int).toNat]?=we by simp;lia,show ys[((i:Nat):Int).toNat]?=we by simp;lia]
  wp_walk using Ye t,Ye u
  show R (.ok (.ret (.bool (xs.size != ys.size)))) _
  simpa [m]using q
 |succ k c=>
  intro i d;have y:i<xs.size:=by lia
  have z:i<ys.size:=by lia
  wp_walk using Ye t,Ye u
  rw[show xs[((i:Nat):Int).toNat]?=wc xs[i] by simp[y],show ys[((i:Nat):Int).toNat]?=wc ys[i] by simp[z]]
  erw[X2 (g i y z _ _ ?_)]
  wp_walk
  rw[show((i:Int)+1)=((i+1:Nat):Int) by push_cast;rfl]
  erw[⟨ZA plain_eq_loop _,YZ entry_eq_loop ?_⟩];rw[Zt plain_eq_loop _];erw[c (i+1) (by lia)]
def S3(f:s.heap.IsList a xs)(r:s.heap.IsList b ys)(y:xs.size=ys.size)(p:A.units<cLine)(e:∀j (N:j<xs.size)(O:j<ys.size),AliP P w A.in1 s xs[j] ys[j]):RnP P w A s (.ref a) (.ref b):=by
 intro E Q q;have⟨⟨T,U,l,W⟩,t,m,Y,g⟩:=id f;have⟨⟨Z,B,C,D⟩,u,d,G,c⟩:=id r;dsimp only at m g d c;subst m g d c;have l:s.TypeIs (.ref a) "list":=⟨_,t,rfl⟩;erw[Vi (op:=.NotEq) l ⟨_,u,rfl⟩ Dg (Vh (We Dg.plain F.entry_list_ne (Dg.check _ _ _ _ _ _ _ _ l (F.args_list_ne_2 _ _) ?_))) p];have⟨I,J,M,S,os⟩:=s;have X:=FA;have H:¬(xs.size != ys.size)=wf:=by simp[y]
 wp_walk using Ye t,Ye u
 erw[⟨ZA plain_eq_loop _,YZ entry_eq_loop ?_⟩];rw[Zt plain_eq_loop _];erw[S2 (R:=wants (λv L=>v≠.notImplemented/\Q v L) E) y t u e (show Ut wg≠.notImplemented/\Q (.bool wg) _ from⟨(λz=>nomatch z),q⟩) _ 0 rfl]
def He{K:Type} [DecidableEq K] {t:KeyKind P w K}{nm:String}{g f:List (K×Value)}{E:Value->X0->Prop}{Q:Bool->X0->Prop}(G:(a==YN)=wg)(I:(b==YN)=wg)
  (J:s.heap.DictOf t a g)(M:s.heap.DictOf t b f)(Z:g.length=f.length)(S:∀p∈g,∃y,YY f p.1=wc y/\AliP P w A s p.2 y)(q:Q wf s):
  X3 (X4 P w) A (FE nm a b) Q E s:=by
 have⟨oa,d,pa,N,_,O,X,B,_⟩:=J;have⟨ob,c,pb,R,_,T,C,U,_⟩:=M;have za:g.length=d.size:=B.length.symm.trans Yb;have H:f.length=c.size:=U.length.symm.trans Yb;have o:∀k,findBy t.is c k=YY f k:=by
  intro k;rw[<-U.find k];clear H U C T R;have⟨l⟩:=c;simp[findBy]
 have n:d.size=c.size:=by lia
 unfold FE Builtin.Dict.showsAll;rw[G,I];erw[X2 (X8 (X2 (X8 (X2 (Av N O ?_)))))];dsimp only;erw[X2 (Av R T ?_)];rw[if_neg (by simp[n])]
 erw[X2 (wpAny_dictEpoch N O (X2 ?_))];rw[Std.Legacy.Range.forIn_eq_forIn_range'];simp only[Std.Legacy.Range.size,Nat.sub_zero,Nat.add_sub_cancel,Nat.div_one];erw[wpAny_forIn_list _ (λrest r W=>W=s/\r=(we,())/\∀i∈rest,i<d.size) _ ?_ ?_ _ _ ⟨rfl,rfl,λi x=>by simpa using x⟩]
 .rintro i rest r W ⟨rfl,rfl,m⟩;have lt:i<d.size:=m i XZ;have lt':i<g.length:=by lia
  erw[X2 (Av N O ?_)];rw[UW lt];have⟨L,val⟩:=B.get? (i:=i) (e:=d[i]) (k:=g[i].1) (v:=g[i].2) (by rw[Ft];erw[UW lt]) (Xb lt')
  have⟨h,i',hh⟩:=X d[i] (Array.getElem_mem lt);obtain rfl:h=g[i].1:=t.inj _ _ _ i' L;have⟨y,fy,D⟩:=S g[i] (XW lt');show X3 _ _ (Z8 [d[i].key,d[i].val] _ >>= _) _ _ _;rw[hh];erw[X2 (YI (X2 (wpAny_dictFind_of L R T C ?_)))];have u:=fy;rw[<-o,findBy_of_findIdx?]at u;cases Y:c.findIdx? λe=>t.is g[i].1 e.key with
  |none=>rw[Y]at u;cases u
  |some j=>
   rw[Y]at u;have⟨F,_,_⟩:=Array.findIdx?_eq_some_iff_getElem.mp Y;erw[X2 (Av R T ?_)];rw[UW F];have ey:c[j].val=y:=by simpa [UW F]using u
   rw[<-ey,<-val]at D;erw[YI (D _ _ ?_)];show X3 _ _ (if(!wf)=wf then _ else _) _ _ _;rw[if_neg (show¬(!wf)=wf from Xx)];erw[X2 (wpAny_dictEpoch N O ?_)];rw[if_neg (by simp)]
   erw[X8 ⟨rfl,rfl,λz Z=>m z (XD _ Z)⟩]
 .rintro r W ⟨rfl,rfl,-⟩;erw[X8 q]
def S4{K:Type} [DecidableEq K] {j:KeyKind P w K}{t u:List (K×Value)}(g:(a==YN)=wg)(d:(b==YN)=wg)
  (l:s.heap.DictOf j a t)(m:s.heap.DictOf j b u)(c:A.units<cLine)(f:t.length=u.length)(r:∀p∈t,∃y,YY u p.1=wc y/\AliP P w A.in1 s p.2 y):RcP P w A s (.ref a) (.ref b):=by
 intro E Q q;erw[Vi (op:=.Eq) l.typeIs m.typeIs FT (Zn FT l.typeIs PySem.F.entry_dict_eq ?_ (PySem.F.args_dict_eq_2 _ _)) c];show X3 _ _ (Bm "__eq__" ⟨[.ref a,.ref b],[]⟩>>= _) _ _ s;erw[X2 ?_];unfold Bm;erw[X2 (wpAny_notOrdered_dict l.typeIs (X8 (X2 (Vj (T:="dict") m.typeIs FR ?_))))];rw[if_neg (by decide)]
 erw[X2 (X8 (X2 (X8 (X2 (He g d l m f r ?_)))))];erw[X8 ⟨_,rfl,(λz=>nomatch z),q⟩]
def S5{K:Type} [DecidableEq K] {j:KeyKind P w K}{t u:List (K×Value)}(g:(a==YN)=wg)(d:(b==YN)=wg)
  (l:s.heap.DictOf j a t)(m:s.heap.DictOf j b u)(c:A.units<cLine)(f:t.length=u.length)(r:∀p∈t,∃y,YY u p.1=wc y/\AliP P w A.in1 s p.2 y):RnP P w A s (.ref a) (.ref b):=by
 intro E Q q;erw[Vi (op:=.NotEq) l.typeIs m.typeIs FU (Zn FU l.typeIs PySem.F.entry_dict_ne ?_ (PySem.F.args_dict_ne_2 _ _)) c];show X3 _ _ (Bm "__ne__" ⟨[.ref a,.ref b],[]⟩>>= _) _ _ s;erw[X2 ?_];unfold Bm;erw[X2 (wpAny_notOrdered_dict l.typeIs (X8 (X2 (Vj (T:="dict") m.typeIs FR ?_))))];rw[if_neg (by decide)]
 erw[X2 (X8 (X2 (X8 (X2 (He g d l m f r ?_)))))];erw[X8 ⟨_,rfl,(λz=>nomatch z),q⟩]
end
section
variable{X:Cx}
end
end L2
namespace L2
open PySem PySem.Spec PyProof.Rows
def S6:fillsNumberSlot (.type "tuple") "mul"=pure wg:=
 PySem.fillsNumberSlot_seq (id:="tuple.__mul__") (r:=wc (.builtin "tuple.__rmul__")) Bp.lookup (by decide+kernel) FN.lookup (by decide+kernel)
def S7:seqRepeat? (.type "tuple")=pure (wc (.builtin "tuple.__mul__")):=by
 unfold seqRepeat?;rw[PySem.seqSlot_of (T:="tuple") (name:="__mul__") (id:="tuple.__mul__") Bp.lookup (by decide+kernel),PySem.seqSlot_of (T:="tuple") (name:="__rmul__") (id:="tuple.__rmul__") FN.lookup (by decide+kernel)]
 rfl
def S8(a:Int)(t:Tok)(l:Addr)(items:Array Value)(n:Nat)(u:Option Addr)(y:Array (Option Value)):
  Meets (Builtin.«int.__rmul__» ⟨[.int a t,.ref l],[]⟩) (fun _ R s=>s.heap.get? l=wc {cls:=.type "tuple",dict:=u,data:=.seq items n,slots:=y}/\R (.ok (.ret Value.notImplemented)) s):=
 .of_wp λj w A R s h=>by have⟨z,g,d,m,os⟩:=s;have⟨c,h⟩:=h;wp_walk;erw[⟨_,rfl,h⟩]
def S9(l:Addr)(items:Array Value)(n:Nat)(t:Option Addr)(y:Array (Option Value))(u:Tok):
  Meets (Builtin.«tuple.__mul__» ⟨[.ref l,.int 1 u],[]⟩) (fun _ R s=>s.heap.get? l=wc {cls:=.type "tuple",dict:=t,data:=.seq items n,slots:=y}/\R (.ok (.ret (Xt l))) s):=
 .of_wp λj w A R s h=>by
  have⟨m,g,d,f,os⟩:=s;have⟨z,h⟩:=h;have r:=FB;have c:(items.isEmpty||(1:Int)==1)=wf:=by simp
  wp_walk using Bj z;erw[⟨_,rfl,h⟩]
def Sa(l:Addr)(items:Array Value)(n:Nat)(r:Option Addr)(p:Array (Option Value))(k:Int)(u:Tok)(P:2<=k)(c:items.size≠0)(T:items.size*k.toNat<=1000000):
  Meets (Builtin.«tuple.__mul__» ⟨[.ref l,.int k u],[]⟩) (fun _ R s=>s.heap.get? l=wc {cls:=.type "tuple",dict:=r,data:=.seq items n,slots:=p}/\
   R (.ok (.ret (Xt s.heap.objs.size))) {s with heap:=s.heap.push {cls:=Zg "tuple",data:=Data.seq (Vr (fun j t=>j++t) #[] (Xg k.toNat items))},toks:=s.toks}):=
 .of_wp λf w A R s h=>by
  have⟨U,g,d,W,os⟩:=s;have⟨y,h⟩:=h;have Y:=FB;have Z:k<=1000000:=by
   have:1*k.toNat<=items.size*k.toNat:=Nat.mul_le_mul_right _ (by lia)
   lia
  have B:(items.size:Int)*k<=1000000:=by
   have e:(items.size:Int)*k=((items.size*k.toNat:Nat):Int):=by rw[Int.natCast_mul,UY (by lia)]
   rw[e];lia
  have L:¬(decide (k< -(2^63))||decide (k >= 2^63))=wf:=by simp;lia
  have C:¬(items.isEmpty||k==1)=wf:=by
   simp;erw[⟨λz=>c (by rw[z];rfl),by lia⟩]
  have D:¬(decide (k<=0)||items.isEmpty)=wf:=by
   simp;erw[⟨by lia,λz=>c (by rw[z];rfl)⟩]
  have N:¬((items.size:Int)*k>(2^63 - 1)/8):=by lia
  have E:¬(Fx ((items.size:Int)*k)=wf):=by
   unfold Fx;have m:sizeLine=16777216:=by decide
   rw[m];simp;lia
  have O:(Vr (λj t=>j++t) #[] (Xg k.toNat items)).size<=sizeLine:=by
   have m:sizeLine=16777216:=by decide
   rw[PySem.AutoListH.size_joined,m,Nat.mul_comm];simp;lia
  wp_walk using Bj y
  erw[wpAny_ite_false (decide_eq_false L) ?_]
  wp_walk using Bj y
  erw[wpAny_ite_false (decide_eq_false N) ?_]
  wp_walk using Bj y
  erw[⟨_,rfl,h⟩]
section
variable{X:Cx}
def Sb:OpR X (Yh .Mult) (λx y H Q=>∃a k l,x=.ref a/\y=.int k/\SqT X.K H a l/\l≠ []/\1<=k/\l.length*k.toNat<=1000000/\(k=1->Q (.ref a) H)/\
  (k≠1->∀p,H p=we->Q (.ref p) (upd H p (.tup (Xg k.toNat l).flatten)))):=by
 intro E s F H x y v u Q I e L h;have⟨a,k,l,rfl,rfl,N,O,G,P,R,W⟩:=h;obtain rfl:v=Xt a:=e;have⟨w,rfl⟩:=L;have⟨j,r,Y,_⟩:=I.tuple N;have⟨⟨Z,m,d,g⟩,t,c,n,hd⟩:=id Y;simp only at c hd;subst c hd;have f:j.toArray.size=l.length:=by rw[XJ,<-r.length]
 erw[wpAny_binaryOp_repeat_ref (T:="tuple") (U:="int") (by decide) ⟨_,t,rfl⟩ (fun A=>typeIs_int A k w) S6 PySem.F.fills_int_mul FS S7 PySem.F.slot_int_index.lookup
  (Uj FS (typeIs_int s k w) PySem.F.entry_int_rmul (PySem.F.args_int_rmul_2 _ _) (S8 k w a j.toArray n m g) ⟨t,rfl,⟨_,t,rfl⟩,?_⟩)]
 by_cases e1:k=1
 .subst e1;erw[Uj Bp ⟨_,t,rfl⟩ FP (FJ _ _) (S9 a j.toArray n m g w) ⟨t,.ref a,H,I,rfl,R rfl⟩]
 .erw[Uj Bp ⟨_,t,rfl⟩ FP (FJ _ _) (Sa a j.toArray n m g k w (by lia) (by rw[f];erw[λz=>O (Ay.mp z)]) (by rw[f];erw[P])) ⟨t,?_⟩]
  have f0:Vr (λB C=>B++C) #[] (Xg k.toNat j.toArray)=(Xg k.toNat j).flatten.toArray:=by
   have:=Du j k.toNat [];rw[Yj]at this;erw[this]
  rw[f0];erw[⟨.ref s.heap.objs.size,_,I.laid (t':=s.toks) (o:=.tup (Xg k.toNat l).flatten) (λb J q=>Xw _ q) (Xc _) ?_,rfl,W e1 _ (I.hok.fresh (Xc _))⟩];erw[⟨?_,_,r.rep k.toNat,IsTup.new _ _,_,XS _ rfl,rfl⟩];have D:sizeLine=16777216:=by decide
  rw[GO,D,Nat.mul_comm];lia
end
section
variable{X:Cx}{pj:List (Addr×Obj)}{σ:St}{H:Hp}{s:X0}
def Thw(X:Cx)(H j:Hp):Prop:=j=H\/∃a o u,H a=wc (.frz o u)/\Mut (wc u)/\(∀l t,X.H₀ a≠wc (.frz l t))/\j=upd H a u
def Inv.thaw(I:Inv X pj σ H s)(t:Thw X H H'):Inv X pj σ H' s:=by
 rcases t with rfl|⟨a,o,u,e,T,f,rfl⟩
 .erw[I]
 have j:∀{b:Addr} {y:HO},H b=wc y->y≠.frz o u->b≠a:=fun{b y} q n z=>by subst z;rw[e]at q;cases q;erw[n rfl]
 have nn:∀b,H b=we->b≠a:=λb n z=>by subst z;rw[e]at n;cases n
 have st:∀{c:Addr} {y:HO},ObjOk X.prog X.w H s.heap c y->ObjOk X.prog X.w (upd H a u) s.heap c y:=λx=>
  x.stay (λc v _ q=>q) (λc q=>by rw[XQ (j q (λz=>by cases z))];erw[q]) λc l q=>by rw[XQ (j q (λz=>by cases z))];erw[q]
 erw[⟨I.ok,I.os,I.bare,⟨I.base.keep,I.base.slot,λb r q n L=>?_,I.base.there,λb l q=>?_,λb w g q=>?_,λb N q=>?_⟩,I.loc,I.cell,?_,λx c q=>?_,λp O=>?_,λb v q=>?_,I.len⟩]
 .have:=I.base.free b r q n L;rw[XQ (nn b this)];erw[this]
 .have:=I.base.tups b l q;rw[XQ (j this (λz=>by cases z))];erw[this]
 .rw[XQ (λz=>by subst z;erw[f w g q])]
  erw[I.base.frzs b w g q]
 .have⟨m,h⟩:=I.base.tbls b N q;erw[⟨m,by rw[XQ (j h (λz=>by cases z))];erw[h]⟩]
 .rw[XQ (nn _ I.free)];erw[I.free]
 .rw[XQ (nn _ (I.freeC x c q))];erw[I.freeC x c q]
 .have⟨P,d,R⟩:=I.pin p O;erw[⟨P,by rw[XQ (nn _ d)];erw[d],R⟩]
 .by_cases hb:b=a
  .subst hb;rw[_G]at q;cases q;erw[st (I.hok b _ e).2]
  .rw[XQ hb]at q;erw[st (I.hok b v q)]
def thwD(X:Cx)(D:Ends):Ends where
 nx:=λσ H=>∃j,Thw X H j/\D.nx σ j
 rt:=λv H=>∃j,Thw X H j/\D.rt v j
 bk:=λσ H=>∃j,Thw X H j/\D.bk σ j
 ct:=λσ H=>∃j,Thw X H j/\D.ct σ j
theorem PS.thaw{st:Stmt}{t:TS}(h:PS X st t):PS X st (λD σ H=>t (thwD X D) σ H):=by
 intro pj s σ H D I q;erw[thn (h pj s σ H _ I q) λf g z=>?_];cases f with
 |next=>have⟨j,m,l,w,y,d⟩:=z;erw[⟨j,w,l.thaw y,d⟩]
 |brk=>have⟨j,m,l,w,y,d⟩:=z;erw[⟨j,w,l.thaw y,d⟩]
 |cont=>have⟨j,m,l,w,y,d⟩:=z;erw[⟨j,w,l.thaw y,d⟩]
 |ret u=>have⟨v,j,m,l,r,w,y,d⟩:=z;erw[⟨v,j,w,l.thaw y,r,d⟩]
theorem PE.thaw{e:Expr}{t:TE}(h:PE X e t):PE X e (λσ H Q=>t σ H λv l=>∃j,Thw X l j/\Q v j):=by
 intro pj s σ H Q I q;erw[thn (h pj s σ H _ I q) λu z ⟨v,l,w,r,j,y,d⟩=>⟨v,j,w.thaw y,r,d⟩]
end
section
variable{prog:Xk}{w:Xe}{A:Xp}{E:Value->X0->Prop}{s:X0}{a₀:Array Keyed}
end
section
variable{X:Cx}
end
structure Mrk (t t':Yq):Prop where
 led:t'.led=t.led
 plain:t.plain=wg->t'.plain=wg
def Mrk.refl(t:Yq):Mrk t t:=⟨rfl,id⟩
theorem Mrk.trans(x:Mrk a b)(y:Mrk b c):Mrk a c:=⟨y.led.trans x.led,λh=>y.plain (x.plain h)⟩
theorem Mrk.standIn(t:Yq)(n:Nat):Mrk t (t.standIn n):=⟨rfl,λ_=>rfl⟩
theorem Mrk.orStandIn(t:Yq)(n:Nat):Mrk t (t.orStandIn n):=by
 unfold SetTable.orStandIn;split
 .erw[.refl t]
 .erw[.standIn t n]
def Mrk.lay(t:Yq)(j:Array (Int×Value))(k:Int)(x:Value):Mrk t (layNew t j k x).2.1:=by
 unfold layNew;split
 .erw[Mrk.trans (b:=(t.put _).1) ⟨rfl,id⟩ (.orStandIn _ _)]
 .erw[.standIn t _]
theorem Mrk.relaid{t:Yq}(h:t.relaid hs n=wc (t',od)):Mrk t t':=by
 unfold SetTable.relaid SetTable.laid at h;cases j:SetTable.layClean (SetTable.sizeAbove n - 1) hs with
 |none=>rw[j]at h;simp at h
 |some l=>
  rw[j]at h;simp only[Option.bind_eq_bind,Option.bind_some,Option.pure_def,Be,Prod.mk.injEq]at h;have⟨rfl,_⟩:=h;erw[⟨rfl,id⟩]
set_option tactic.hygienic true in
def Mrk.relay(t:Yq)(j:Array (Int×Value))(n:Nat):Mrk t (relayAll t j n).2.1:=by
 unfold relayAll;split
 .rename_i l
  dsimp only;split
  .erw[.relaid l]
  .erw[.standIn t _]
 .erw[.standIn t _]
noncomputable def txt:Value->Str
 |.str x _=>x
 |_=>⟨#[]⟩
noncomputable def met1(j:List Str)(x:Str):List Str:=if x∈j then j else j++[x]
def met(f:Nat->Str):Nat->List Str
 |0=>[]
 |i+1=>met1 (met f i) (f i)
set_option tactic.hygienic true in
def Sc(h:zs.Nodup)(x:Str):(met1 zs x).Nodup:=by
 unfold met1;split
 .erw[h]
 .rename_i n
  rw[YO];erw[⟨h,by simp,λa l b j=>by rw[Y9]at j;subst j;erw[λe=>n (e▸l)]⟩]
theorem Hf(f:Nat->Str):∀i,(met f i).Nodup
 |0=>.nil
 |i+1=>Sc (Hf f i) _
set_option tactic.hygienic true in
def Sd:y∈met1 zs x↔y∈zs\/y=x:=by
 unfold met1;split
 .rename_i h
  erw[⟨.inl,λz=>z.elim id λe=>e▸h⟩]
 .simp
theorem Hg:∀i,y∈met f i↔∃j,j<i/\f j=y
 |0=>by simp[met]
 |i+1=>by
  unfold met;rw[Sd,Hg i];constructor
  .rintro(⟨j,l,e⟩|e)
   .erw[⟨j,by lia,e⟩]
   .erw[⟨i,by lia,e.symm⟩]
  .rintro⟨j,l,e⟩;by_cases z:j=i
   .subst z;erw[.inr e.symm]
   .erw[.inl ⟨j,by lia,e⟩]
theorem Hh(f:Nat->Str):∀i,(met f i).length<=i
 |0=>Xc _
 |i+1=>by
  have:=Hh f i;unfold met met1;split
  .lia
  .rw[Yf];simp;lia
section
variable{prog:Xk}{w:Xe}{A:Xp}{E:Value->X0->Prop}{s:X0}
def WSet(prog:Xk)(w:Xe)(o:Obj)(l:List Str):Prop:=
 o.ExactSet/\∃j u t,o.data=.set j u t/\ElemsOf (strKind prog w) j.toList/\(j.toList.map λe=>txt e.2).Perm l/\j.size<scanBound/\t.fits j.size=wf
  /\t.led=(!w.params.followText "set-order")/\(l≠ []->t.plain=wg)
theorem WSet.fresh:WSet prog w {cls:=.type "set",dict:=we,data:=.set #[] 0 (.fresh 0 0 (!w.params.followText "set-order"))} []:=
 ⟨⟨rfl,rfl,rfl⟩,#[],0,_,rfl,λe j=>by simp at j,by simp,by decide,by rfl,rfl,λh=>absurd rfl h⟩
def isT{k:Str}:(strKind prog w).is k v=wf↔∃t,v=.str k t:=by
 constructor
 .erw[λh=>Value.isStrOf_shape h]
 .rintro⟨t,rfl⟩;erw[strKind_is prog w k t]
def WSet.mem{es:Array (Int×Value)}{zs:List Str}(u:ElemsOf (strKind prog w) es.toList)(y:(es.toList.map λe=>txt e.2).Perm zs)(k:Str):
  k∈zs↔∃e∈es.toList,(strKind prog w).is k e.2=wf:=by
 rw[<-y.mem_iff,XR];constructor
 .rintro⟨e,j,q⟩;erw[⟨e,j,isT.mpr ?_⟩];have⟨⟨m,z,_⟩,_⟩:=u e j;have⟨t,l⟩:=isT.mp z;rw[l]at q ⊢;erw[⟨t,by rw[<-q];rfl⟩]
 .rintro⟨e,j,q⟩;have⟨t,l⟩:=isT.mp q;erw[⟨e,j,by rw[l];rfl⟩]
def Hi{h:Heap}{a:Addr}{o:Obj}{y:Array (Int×Value)}{u:Nat}{t:Yq}(m:h.get? a=wc o)(hd:o.data=.set y u t)(j:Array (Int×Value))(l:Yq):
  (h.update a (Obj.putSet j l)).get? a=wc {o with data:=.set j (u+1) l}:=by
 have z:=Wt (Obj.putSet j l) m (by rw[putSet_of j l hd];rfl)
 rwa [putSet_of j l hd]at z
def Hj{g:Bool->Sem Unit}(C:∀(b:Bool)(y:X0)(P:Unit->X0->Prop),P () y->X3 (X4 prog w) A (g b) P E y)
  {a:Addr} {o:Obj} {D:Array (Int×Value)} {F:Nat} {t:Yq} (T:s.heap.get? a=wc o)(f:o.ExactSet)(hd:o.data=.set D F t)
  {j:Array (Int×Value)} {l:Yq} {U:List Str} (r:ElemsOf (strKind prog w) j.toList)(W:(j.toList.map λe=>txt e.2).Perm U)(Y:j.size<scanBound)
  (G:l.fits j.size=wf)(z:l.led=(!w.params.followText "set-order"))(p:l.plain=wg){N:Bool} {R:Option Bool->X0->Prop}
  (h:∀O Z,ZD a s.heap O->O.get? a=wc Z->WSet prog w Z U->R (wc wf) {s with heap:=O}):
  X3 (X4 prog w) A (do
    storeSet a j l
    if(!N&&l.tooFull)=wf then do
      g (relayAll l j (V0 j.size)).2.2
      storeSet a (relayAll l j (V0 j.size)).1 (relayAll l j (V0 j.size)).2.1
      pure (wc wf)
     else pure (wc wf)) R E s:=by
 erw[X2 (wpAny_storeSet_of T hd ?_ (fits_of_scanBound Y))];have m:=Hi T hd j l;split
 .have u:=relayAll_perm l j (V0 j.size);have d:=relayAll_fits l j (V0 j.size);have L:=Mrk.relay l j (V0 j.size);generalize relayAll l j (V0 j.size)=Rl at u d L ⊢;have⟨c,B,I⟩:=Rl;dsimp only at u d L ⊢;have J:c.size=j.size:=by rw[<-Yb,u.length_eq,Yb]
  erw[X2 (C _ _ _ ?_)];erw[X2 (wpAny_storeSet_of m rfl ?_ (fits_of_scanBound (by lia)))]
  erw[X8 (h _ _ ((U4 _ a _).trans (U4 _ a _)) (Hi m rfl c B)
   ⟨f,c,_,B,rfl,r.perm u,(u.map _).trans W,by lia,d,L.led.trans z,λ_=>L.plain p⟩)]
 .erw[X8 (h _ _ (U4 _ a _) m ⟨f,j,_,l,rfl,r,W,Y,G,z,λ_=>p⟩)]
set_option tactic.hygienic true in
def Se{a:Addr}{o:Obj}{m:List Str}{x:Str}{g:Tok}{Q:Bool->X0->Prop}(T:s.heap.get? a=wc o)(H:WSet prog w o m)(G:m.length+1<scanBound)
  (h:∀b l u,ZD a s.heap l->l.get? a=wc u->WSet prog w u (met1 m x)->Q b {s with heap:=l}):
  X3 (X4 prog w) A (setAddHashed a (.str x g) ((strKind prog w).hash x)) Q E s:=by
 have⟨U,P,ep,t,hd,d,I,hb,v,f,hpl⟩:=id H;have r:(strKind prog w).is x (.str x g)=wf:=strKind_is prog w x g;have i:P.size=m.length:=by rw[<-I.length_eq,X7,Yb]
 unfold setAddHashed setAddHashedIn;erw[YI (X2 (Wf T hd v ?_))];dsimp only;rw[byScan_of (x:=.str x g) rfl hb d];simp only[↓reduceIte];unfold setAddByScan;erw[X2 (X2 (Vk (X2 (wpAny_setScan_of r T hd v d ?_))))];have p:=WSet.mem d I x;cases n:List.findIdx? (λe=>(strKind prog w).is x e.2) P.toList with
 |some j=>
  dsimp only;have⟨hj,J,_⟩:=List.findIdx?_eq_some_iff_getElem.mp n;have M:x∈m:=p.mpr ⟨_,XW hj,J⟩;erw[X8 (X8 ?_)];have:=h wg s.heap o (Heap.SameBut.refl a s.heap) T (by unfold met1;rw[if_pos M];erw[H])
  cases s;erw[this]
 |none=>
  dsimp only;have M:x∉m:=λz=>by
   have⟨e,he,q⟩:=p.mp z;have:=List.findIdx?_eq_none_iff.mp n e he;rw[q]at this;erw[Bool.noConfusion this]
  have hz:met1 m x=m++[x]:=by unfold met1;rw[if_neg M]
  have R:=layNew_perm t P ((strKind prog w).hash x) (.str x g);have c:=layNew_fits t P ((strKind prog w).hash x) (.str x g);have F:=Mrk.lay t P ((strKind prog w).hash x) (.str x g);generalize layNew t P ((strKind prog w).hash x) (.str x g)=L at R c F ⊢;have⟨O,t1,was,gave⟩:=L;dsimp only at R c F ⊢;rw[Array.toList_push]at R;have N:ElemsOf (strKind prog w) O.toList:=(d.push r rfl).perm R;have W:(O.toList.map λe=>txt e.2).Perm (met1 m x):=by
   rw[hz];erw[(R.map _).trans ?_];rw[XX];erw[I.append (.refl _)]
  have Y:O.size<scanBound:=by rw[<-Yb,R.length_eq,Yf,Yb];simp;lia
  have S:∀(b:Bool)(y:X0)(X:Unit->X0->Prop),X () y->X3 (X4 prog w) A (match b with|wf=>rule "set.scan.the-table-gave-way"|wg=>pure ()) X E y:=
   λb y X hq=>by cases b<;>first|erw[X8 hq]|erw[Vk hq]
  erw[X2 (S _ _ _ ?_)];have Z:∀l u,ZD a s.heap l->l.get? a=wc u->WSet prog w u (met1 m x)->Q wf {s with heap:=l}:=λl u B C D=>h wf l u B C D;split
  .rw[hashByValue_scannable 8 (x:=.str x g) rfl];erw[X2 (X8 ?_)];erw[Hj S T U hd N W Y (l:={t1 with plain:=wg}) (SetTable.fits_plain_off c) (F.led.trans f) rfl ?_];intro l u B C D;erw[X8 (Z l u B C D)]
  .rename_i np
   erw[X2 (X8 ?_)];simp only[↓reduceIte];erw[Hj S T U hd N W Y c (F.led.trans f) (by simpa using np) ?_]
   intro l u B C D;erw[X8 (Z l u B C D)]
def Sf{St:Nat->X0->Prop}
  (W:WalksS prog w A.in1 I fp wr G n P St)(S:Addr)(m:S∉fp)(f:Nat->Str)(g:∀i v,P i v->∃t,v=.str (f i) t)(y:n+1<scanBound):
  ∀(k i:Nat)(s:X0)(o:Obj),n - i=k->i<=n->St i s->s.heap.get? S=wc o->WSet prog w o (met f i)->
   (∀j U,Moved (S::wr) G s j->j.heap.get? S=wc U->WSet prog w U (met f n)->R (.ok (.ret .none)) j)->
   YJ (X4 prog w) A (.builtin "set.update.loop" ⟨[.ref S,.ref I],[]⟩) R s:=by
 have d:S∉wr:=λh=>m (W.sub _ h);have l:∀b∈wr,b∈S::wr:=λb y=>XD _ y;intro k
 induction k with
 |zero=>
  intro i s o H x u Y Z B;have C:i=n:=by lia
  subst C;erw[YZ F.entry_set_update_loop ?_];rw[Zt F.plain_set_update_loop _];show X3 _ A.in1 (pyNext (.ref I)>>= _) _ _ s;erw[X2 (W.done s _ _ u λj c=>?_)];erw[X8 (B j o (c.mono l) (c.heap S _ d Y) Z)]
 |succ k a=>
  intro i s o H x u Y Z B;have r:i<n:=by lia
  erw[YZ F.entry_set_update_loop ?_];rw[Zt F.plain_set_update_loop _];show X3 _ A.in1 (pyNext (.ref I)>>= _) _ _ s;erw[X2 (W.item i s _ _ r u λv j hP p c=>?_)];have⟨t,rfl⟩:=g i v hP;have D:=c.heap S _ d Y;show X3 _ A.in1 (Z8 [YR (f i) t] (setAdd S (.str (f i) t))>>= _) _ _ j;erw[X2 (YI ?_)];unfold setAdd;erw[YI (X2 ((strKind prog w).pyHash (k:=f i) (strKind_is prog w _ _) ?_))];erw[Se (s:={j with toks:=j.toks+1}) D Z (by have:=Hh f i;lia) λb h' U L J M=>?_]
  erw[X8 ⟨ZA F.plain_set_update_loop _,a (i+1) _ U (by lia) r (W.frame _ j _ _ p (Ur _) λb y o e=>?_) J M λQ X N O T=>?_⟩]
  .rw[L.2 b (λz:b=S=>m (by rw[<-z];erw[y]))];erw[e]
  .erw[B Q X (Moved.trans W.gtrans ((c.mono l).then_heap (Ur _) λb o y e=>?_) N) O T];rw[L.2 b (λz:b=S=>y (by rw[z];erw[XZ]))];erw[e]
noncomputable def ZK(w:Xe):Obj:={cls:=.type "set",dict:=we,data:=.set #[] 0 (.fresh 0 0 (!w.params.followText "set-order"))}
def Sg(a:Value)(h:Q₁ (.ref s.heap.objs.size) {s with heap:=s.heap.push (ZK w)}):
  YJ (X4 prog w) A (.call (.builtin "set.__new__") ⟨[.type "set",a],[]⟩) (wants Q₁ E) s:=by
 erw[codeAny_of_tree ?_];show X3 _ A.in1 (do checkBuiltinCall "set.__new__" ⟨[.type "set",a],[]⟩;again (.builtin "set.__new__" ⟨[.type "set",a],[]⟩)) _ _ s
 erw[X2 (wpAny_of_eq (F.newCall_set_1 a) (X8 ⟨ZA F.plain_set_new _,YZ F.entry_set_new ?_⟩))];rw[Zt F.plain_set_new _];unfold Builtin.«set.__new__» Builtin.Frozenset.newClass;have j:=sub_set_self;have⟨l,g,d,t,os⟩:=s;dsimp only
 wp_walk
 erw[Wg (X8 ?_)];dsimp only;simp only[newObj];erw[X2 (wpAny_alloc (X8 ?_))];erw[X8 h]
def Sh{items:Array Value}
  (hh:A.handled=we)(hl:s.heap.IsList l items)(hi:∀(i:Nat)(v:Value),items[i]?=wc v->∃t,v=YR (f i) t)(C:items.size+1<scanBound)
  (h:∀(u:Heap)(D:Nat)(o:Obj),u.get? s.heap.objs.size=wc o->WSet prog w o (met f items.size)->
   (∀b o,b<s.heap.objs.size->s.heap.get? b=wc o->u.get? b=wc o)->Q (.ref s.heap.objs.size) {s with heap:=u,toks:=D}):
  X3 (X4 prog w) A (call (.type "set") [.ref l]) Q E s:=by
 have⟨c,tl,x⟩:=Uu.mro;have I:=Uu.made;have a:=Uu.sub;erw[Vh (codeAny_of_tree ?_)];show X3 _ _ (callAny (.type "set") _) _ _ _;erw[X8 ⟨Code.quiet_builtin _ (by decide+kernel),YZ F.entry_type_call ?_⟩]
 rw[Around.under_plain (weight_type_call_type "set" [.ref l] []) rfl];have h1:=Uu.notType;have h2:=Uu.canCreate;have hct:=F.typeCall_set_1 (.ref l)
 repeat (any_goals (first|assumption|wp_step))
 erw[UK (Sg (.ref l) (E:=E) (Q₁:=λN z=>N=.ref s.heap.objs.size/\z={s with heap:=s.heap.push (ZK w)}) ⟨rfl,rfl⟩) λr z J=>?_];cases r with
 |error e=>erw[J]
 |ok fl=>
  cases fl with
  |ret N=>
   have⟨rfl,rfl⟩:=J;have hS:(s.heap.push (ZK w)).get? s.heap.objs.size=wc (ZK w):=XS _ rfl;have hT:Bu {s with heap:=s.heap.push (ZK w)} (.ref s.heap.objs.size) "set":=⟨_,hS,rfl⟩;have hli:=Uu.init.lookup;have hbi:=Uu.init.bind (.ref s.heap.objs.size)
   repeat (any_goals (first|assumption|wp_step))
   erw[UK (We (R:=wants (λr m=>r=.none/\∃u D o,m={s with heap:=u,toks:=D}/\
     u.get? s.heap.objs.size=wc o/\WSet prog w o (met f items.size)/\
     (∀b o,b<s.heap.objs.size->s.heap.get? b=wc o->u.get? b=wc o)) E) Uu.init.plain F.entry_set_init (check_set_init_1 hT ?_)) λO m j=>?_]
   .have⟨ol,P,T,nl,U⟩:=hl;have⟨ocls,g,M,y⟩:=ol;simp only at T U;subst T;subst U;have W:(s.heap.push (ZK w)).get? l=wc {cls:=.type "list",dict:=g,data:=.seq items nl,slots:=y}:=Xw _ P;have hsls:=F.sub_list_set;have hslf:=F.sub_list_frozenset;have hne:(Zg "list"==Zg "dict")=wg:=by decide
    have Y:(s.heap.push (ZK w)).IsList l items:=⟨_,W,rfl,nl,rfl⟩;unfold Builtin.«set.__init__» noKeywords Builtin.Frozenset.updateFrom;generalize hPI:pyIter=PI
    wp_walk
    subst hPI;erw[Aw Y ?_];erw[X2 (wpAny_runValue ?_)];have Z:l<s.heap.objs.size:=Xu P;have B:l≠(s.heap.push (ZK w)).objs.size:=by
     rw[U0];erw[XE (US Z)]
    have S:s.heap.objs.size∉ [(s.heap.push (ZK w)).objs.size,l]:=by
     rw[U0];simp only[Xh,XM,or_false,not_or];erw[⟨XE (Wu _),B0 Z⟩]
    erw[Sf ((Walks.list (A:=A.in1.in1.in1) (by simp[hh]) _ l B items).toS) s.heap.objs.size
     S f hi C (items.size - 0) 0 _ (ZK w) (by lia) (YQ _)
     ⟨⟨_,XS _ rfl,rfl,rfl⟩,(Y.push _)⟩ (Xw _ hS) WSet.fresh ?_]
    intro s' o' G d p;have⟨u,g',d',X,H⟩:=s';have eg:g'=s.gens:=G.gens;have ed:d'=s.drawn:=G.drawn;have eo:H=s.os:=G.os;subst eg;subst ed;subst eo;erw[X8 (X8 ⟨rfl,u,X,o',rfl,d,p,λb o C e=>?_⟩)];erw[G.heap b o ?_ (Xw _ (Xw _ e))];simp only[Xh,XM,or_false,not_or];erw[⟨XE C,by rw[U0];erw[XE (US C)]⟩]
   .cases O with
    |error e=>erw[j]
    |ok L=>
     cases L with
     |ret r=>
      have⟨rfl,u,D,o',rfl,d,p,n⟩:=j
      repeat (any_goals (first|assumption|wp_step))
      erw[h _ _ _ d p n]
     |_=>erw[j.elim]
  |_=>erw[J.elim]
end
def slot_setiter_next:Slot "set_iterator" "__next__" "set_iterator.__next__":=
 .of (owner:="set_iterator") (n:="__next__") (by rw[typeLookup_type,builtinLookup_eq_fast];kernel_rfl) (by decide+kernel) (by decide+kernel) (by decide+kernel)
  (by first|erw[.inl (by decide+kernel)]|erw[.inr (by decide+kernel)]) (by rw[isSubtype_type];kernel_rfl)
def Hk:Slot "set_iterator" "__iter__" "set_iterator.__iter__":=
 .of (owner:="set_iterator") (n:="__iter__") (by rw[typeLookup_type,builtinLookup_eq_fast];kernel_rfl) (by decide+kernel) (by decide+kernel) (by decide+kernel)
  (by first|erw[.inl (by decide+kernel)]|erw[.inr (by decide+kernel)]) (by rw[isSubtype_type];kernel_rfl)
def Hl:entryFor table "set_iterator.__next__"=wc Builtin.«set_iterator.__next__»:=entryFor_of_fast (by kernel_rfl)
def Si:entryFor table "set_iterator.__iter__"=wc Builtin.«dict_keyiterator.__iter__»:=
 entryFor_alias (id':="dict_keyiterator.__iter__") (by kernel_rfl) rfl (by decide+kernel) (by kernel_rfl)
def Sj:entryFor table "set.__iter__"=wc Builtin.«frozenset.__iter__»:=
 entryFor_alias (id':="frozenset.__iter__") (by kernel_rfl) rfl (by decide+kernel) (by kernel_rfl)
def Hm(a:Value):argsOk "set_iterator.__next__" ⟨[a],[]⟩:=by unfold argsOk;kernel_rfl
def Sk(a:Value):argsOk "set_iterator.__iter__" ⟨[a],[]⟩:=by unfold argsOk;kernel_rfl
theorem ers{j:Type}:∀(l:List j)(i:Nat)(h:i<l.length),(l[i]::l.eraseIdx i).Perm l
 |[],_,h=>absurd h (by simp)
 |x::xs,0,_=>.refl _
 |x::xs,i+1,h=>(List.Perm.swap x _ _).trans ((ers xs i (by simpa using h)).cons x)
section
variable{prog:Xk}{w:Xe}{A:Xp}{E:Value->X0->Prop}{s:X0}
def Sl(j:n≠0)(h:∀i d,i<n->Q i {s with drawn:=d}):X3 M A (choose src n) Q E s:=λt p l=>by
 unfold choose;rw[Sem.wp_choose];erw[⟨j,by rw[Sem.wp_pure];erw[h _ _ (U2 _ (Nat.pos_of_ne_zero j))]⟩]
def Sn{y:Type}:∀(n:Nat)(j:List y)(s:X0)(Q:List y->X0->Prop),j.length=n->(∀l d,l.Perm j->Q l {s with drawn:=d})->X3 M A (drawOrder n j) Q E s:=by
 intro n
 induction n with
 |zero=>
  intro j s Q t h;unfold drawOrder;have:j=[]:=Ay.mp t;subst this;erw[X8 (h [] s.drawn (.refl _))]
 |succ n z=>
  intro j s Q t h;cases j with
  |nil=>simp at t
  |cons x j=>
   unfold drawOrder;erw[X2 (Sl (by simp) λi d u=>?_)]
   rw[Xb u];dsimp only;erw[X2 (z _ _ _ (by rw[Fj u];lia) λl m g=>X8 ?_)]
   have:(((x::j)[i])::l).Perm (x::j):=((List.Perm.cons _ g).trans (ers _ _ u));erw[h _ m this]
def So{t:Type}(next:Nat->Nat):∀(n k:Nat)(j:List t)(out:Array t),j.length=n->(pickOrder.go next n k j out).toList.Perm (out.toList++j):=by
 intro n
 induction n with
 |zero=>
  intro k j out u;have:j=[]:=Ay.mp u;subst this;unfold pickOrder.go;simp
 |succ n y=>
  intro k j out u;unfold pickOrder.go;have l:next k%j.length<j.length:=U2 _ (by lia)
  rw[Xb l];dsimp only;erw[(y _ _ _ (by rw[Fj l];lia)).trans ?_]
  rw[Array.toList_push,UP];erw[(List.Perm.refl _).append (by simpa using ers _ _ l)]
def Sq{l:Type}(next:Nat->Nat)(j:Array l):(pickOrder next j).toList.Perm j.toList:=by
 unfold pickOrder
 simpa using So next j.size 0 j.toList #[] (by simp)
def SIt(h:Heap)(l S:Addr)(j:Value)(i n t:Nat):Prop:=
 ∃o,h.get? l=wc o/\o.cls=.type "set_iterator"/\o.data=.fields #[j,.int i 0,.ref S,.int n 0,.int t 0]
def SIt.typeIs(x:SIt s.heap it S first i n ep):s.TypeIs (.ref it) "set_iterator":=let⟨o,ho,hc,_⟩:=x;⟨o,ho,hc⟩
def BH{h:Heap}{l:Addr}{o:Obj}{u:Array Value}(y:h.get? l=wc o)(hd:o.data=.fields u)(j:Nat)(v:Value):
  ∃t,(h.update l (Obj.mapFields (·.setIfInBounds j v))).get? l=wc t/\t.cls=o.cls/\t.data=.fields (u.setIfInBounds j v):=
 ⟨_,Wt _ y (Obj.isFreed_of_fields (Obj.data_mapFields hd _)),Obj.cls_mapFields ..,Obj.data_mapFields hd _⟩
noncomputable def Nx(w:Xe)(S:Addr)(u:Array (Int×Value))(y:Nat)(t:Yq)(l i:Nat):Option (Value×Nat):=
 if w.params.followText "set-order"=wf then(pickOrder (w.params.setOrder S y) u)[i]?.map fun e=>(e.2,l)
 else match u[Bo t.place l]?,t.place[Bo t.place l]? with
  |wc (_,x),wc j=>wc (x,j+1)
  |_,_=>we
def Sr{t:Yq}
  (j:s.heap.get? S=wc o)(l:o.data=.set es ep t)(y:t.fits es.size=wf)(hw:w.params.followText "set-order"=wf\/(es.size<=1/\t.led=wf))
  (h:Q (Nx w S es ep t slot i) s):X3 (X4 prog w) A (setNext S slot i ep) Q E s:=by
 unfold setNext;erw[X2 (Wf j l y ?_)];erw[X2 (m:=setsByText) (X2 (Wg (X8 ?_)))];show X3 _ _ (if w.params.followText "set-order"=wf then _ else _) _ _ _;unfold Nx at h;by_cases hb:w.params.followText "set-order"=wf
 .rw[if_pos hb];rw[if_pos hb]at h;simp only[bne_self_eq_false,Yv,if_false];erw[X2 ?_];unfold setWalk;erw[X2 (Wf j l y ?_)];erw[X2 (m:=setsByText) (X2 (Wg (X8 ?_)))];show X3 _ _ (if w.params.followText "set-order"=wf then _ else _) _ _ _;rw[if_pos hb];erw[X2 (Wg (X8 (X8 ?_)))];erw[h]
 .rw[if_neg hb];rw[if_neg hb]at h;have⟨g,z⟩:=hw.resolve_left hb;have u:(!t.plain&&decide (es.size>1))=wg:=by
   rw[decide_eq_false (by lia),Ba]
  show X3 _ _ (if(!t.plain&&decide (es.size>1))=wf then _ else _) _ _ _;rw[u,if_neg Xx];erw[X2 ?_];show X3 _ _ (if(!t.led&& !es.isEmpty)=wf then _ else _) _ _ _;rw[z];simp only[Vu,Wv,Yv,if_false];erw[X8 (X8 h)]
def Hn(t:A.handled=we)(u:AV it s.heap h₁)
  (y:∀l,AV it s.heap l->Q we {s with heap:=l}):
  X3 (X4 prog w) A.in1 (do let x<- newExc (.type "StopIteration") [];(raiseNew x:Sem Fin)) (fun fin j=>∃v,fin=Fin.done (Flow.ret v)/\X3 (X4 prog w) A (pure (wc v)) Q E j)
   (fun e j=>X3 (X4 prog w) A (do let b<- isInstance e (.type "StopIteration");if b=wf then pure we else throw e) Q E j) {s with heap:=h₁}:=by
 erw[X2 ?_];simp only[newExc,newTuple];erw[X2 (ZS ?_ (by size_fits))]
 erw[X2 (m:=firstArgMember _ _) (wpAny_of_eq (a:=Us) (by first|rfl|(simp only[firstArgMember];rfl)) ?_)]
 erw[ZS ?_ (by size_fits)]
 simp only[raiseNew];erw[X2 (wpAny_handled ?_)];rw[show A.in1.handled=we from t];erw[X2 (X8 (wpAny_throw ?_))];erw[X2 (Vj (T:="StopIteration") (b:=wf) ⟨_,XS _ rfl,rfl⟩ isSubtype_stop ?_)];erw[X8 (y _ ((u.push _).push _))]
def Ho{g S:Addr}{i n d j:Nat}{o:Obj}{y:Array (Int×Value)}{t:Yq}{Q:Option Value->X0->Prop}(W:A.handled=we)
  (z:SIt s.heap g S (.int j 0) i n d)(f:s.heap.get? S=wc o)(r:o.data=.set y d t)(T:t.fits y.size=wf)(Y:y.size=n)
  (hw:w.params.followText "set-order"=wf\/(y.size<=1/\t.led=wf))
  (Z:∀x e,Nx w S y d t j i=wc (x,e)->∀c,SIt c g S (.int e 0) (i+1) n d->ZD g s.heap c->Q (wc x) {s with heap:=c})
  (B:Nx w S y d t j i=we->∀c,AV g s.heap c->Q we {s with heap:=c}):
  X3 (X4 prog w) A (pyNext (.ref g)) Q E s:=by
 have⟨oi,l,N,u⟩:=id z;unfold pyNext;erw[X2 (wpAny_attempt (At (name:=VC "__next__") z.typeIs slot_setiter_next
  (Zn slot_setiter_next z.typeIs Hl ?_ (Hm _))))]
 show X3 _ _ (fieldsOf (.ref g)>>= _) _ _ s;erw[X2 (wpAny_fieldsOf l u ?_)];show X3 _ _ (setEntries S >>= _) _ _ s;erw[X2 (wpAny_setEntries_of f r T ?_)];simp only[Y,bne_self_eq_false,Yv,if_false];erw[X2 (m:=setNext _ _ _ _) ?_];simp only[Z2];erw[Sr f r T hw ?_];cases U:Nx w S y d t j i with
 |none=>
  dsimp only;erw[X2 (Vl l u (by simp) ?_)]
  erw[Hn W (U4 ..).extBut (B U)]
 |some p=>
  have⟨x,e⟩:=p;dsimp only;have⟨D,L,O,hd1⟩:=BH l u 0 (Y3 e);erw[X2 (Vl l u (by simp) ?_)]
  erw[X2 (Vl L hd1 (by simp) ?_)]
  have⟨C,P,R,hd2⟩:=BH L hd1 1 (Y3 ((i:Int)+1));erw[X8 ⟨x,rfl,X8 (Z x e U _ ⟨C,P,R.trans (O.trans N),?_⟩ ((U4 ..).trans (U4 ..)))⟩];rw[hd2];simp[Y3]
def Hq{u S P:Addr}{i n N:Nat}{o U:Obj}{r:Array (Int×Value)}{t:Yq}{L:Array Value}{B:Nat}{Q:Option Value->X0->Prop}(C:A.handled=we)
  (y:SIt s.heap u S (.ref P) i n N)(d:s.heap.get? S=wc o)(c:o.data=.set r N t)(W:t.fits r.size=wf)(D:r.size=n)
  (O:s.heap.get? P=wc U)(R:U.data=.seq L B)
  (F:∀v,L[i]?=wc v->∃(p:Nat) (e:Int×Value),v=.int p 0/\r[p]?=wc e/\∀g,SIt g u S (.ref P) (i+1) n N->ZD u s.heap g->Q (wc e.2) {s with heap:=g})
  (G:L[i]?=we->∀g,AV u s.heap g->Q we {s with heap:=g}):
  X3 (X4 prog w) A (pyNext (.ref u)) Q E s:=by
 have⟨oi,j,T,l⟩:=id y;unfold pyNext;erw[X2 (wpAny_attempt (At (name:=VC "__next__") y.typeIs slot_setiter_next
  (Zn slot_setiter_next y.typeIs Hl ?_ (Hm _))))]
 show X3 _ _ (fieldsOf (.ref u)>>= _) _ _ s;erw[X2 (wpAny_fieldsOf j l ?_)];show X3 _ _ (setEntries S >>= _) _ _ s;erw[X2 (wpAny_setEntries_of d c W ?_)];simp only[D,bne_self_eq_false,Yv,if_false];erw[X2 (m:=seqItems? _) (wpAny_seqItems O R ?_)];simp only[Z2];cases Y:L[i]? with
 |none=>
  dsimp only;have⟨Z,z,f,hd1⟩:=BH j l 0 (Y3 0);erw[X2 (Vl j l (by simp) ?_)]
  erw[X2 (Vl z hd1 (by simp) ?_)]
  erw[Hn (s:=s) (it:=u) C ?_ (G Y)];erw[Heap.SameBut.extBut (Heap.SameBut.trans (U4 _ _ _) (U4 _ _ _))]
 |some v=>
  have⟨p,e,rfl,I,J⟩:=F v Y;dsimp only;erw[X2 ?_];unfold setNextDrawn;erw[X2 (Wf d c W ?_)];simp only[Z2,bne_self_eq_false,Yv,if_false,I];have⟨k,x⟩:=e;erw[X8 ?_];have⟨Z,z,f,hd1⟩:=BH j l 1 (Y3 ((i:Int)+1));erw[X2 (Vl j l (by simp) ?_)]
  erw[X8 ⟨x,rfl,X8 (J _ ⟨Z,z,f.trans T,?_⟩ (U4 ..))⟩];rw[hd1];simp[Y3]
def Hr(j:SIt s.heap it S first i n ep)(h:Q (.ref it) s):
  X3 (X4 prog w) A (pyIter (.ref it)) Q E s:=by
 erw[wpAny_pyIter_slot j.typeIs Hk (Zn Hk j.typeIs Si ?_ (Sk _))];show X3 _ _ (ret (.ref it)) _ _ s;erw[X8 ⟨_,rfl,"set_iterator",_,j.typeIs,slot_setiter_next.lookup,h⟩]
def SIt.at(x:SIt h it S first i n ep)(e:∀o,h.get? it=wc o->h'.get? it=wc o):SIt h' it S first i n ep:=
 let⟨o,ho,r⟩:=x;⟨o,e _ ho,r⟩
def Su(R:A.handled=we){I S:Addr}{n f:Nat}{o:Obj}{y:Array (Int×Value)}{t:Yq}{T:List Value}{Good:Nat->Nat->Prop}(L:S≠I)
  (d:o.data=.set y f t)(U:t.fits y.size=wf)(W:y.size=n)(hw:w.params.followText "set-order"=wf\/(y.size<=1/\t.led=wf))
  (Y:∀i u,Good i u->(i<n->∃x N,Nx w S y f t u i=wc (x,N)/\T[i]?=wc x/\Good (i+1) N)/\(i=n->Nx w S y f t u i=we)):
  Walks prog w A I [I,S] [I] n (λi v=>T[i]?=wc v) (λi h=>∃u,Good i u/\SIt h I S (.int (u:Nat) 0) i n f/\h.get? S=wc o)where
 sub:=λb m=>by simp at m;simp[m]
 frame:=λ_ _ _ st Z=>let⟨u,g,j,l⟩:=st;⟨u,g,j.at λo e=>Z I (by simp) o e,Z S (by simp) _ l⟩
 item:=λi s Q E C st c=>by
  have⟨u,g,j,l⟩:=st;have⟨x,N,r,D,F⟩:=(Y i u g).1 C;erw[Ho R j l d U W hw (λG O q p B P=>?_) (λq=>by rw[r]at q;simp at q)]
  rw[r]at q;simp only[Be,Prod.mk.injEq]at q;have⟨rfl,rfl⟩:=q;erw[c _ p s.toks D ⟨_,F,B,(P.2 S L).trans l⟩ λb o m e=>(P.2 b (λz=>m (by simp[z]))).trans e]
 done:=λs Q E st c=>by
  have⟨u,g,j,l⟩:=st;have r:=(Y n u g).2 rfl;erw[Ho R j l d U W hw (λG O q p B P=>by rw[r]at q;simp at q) (λ_ p a=>c p s.toks λb o m e=>a b o (λz=>m (by simp[z])) e)]
 self:=λ_ _ _ _ st c=>let⟨_,_,j,_⟩:=st;Hr j c
def Sv(R:A.handled=we){I S P:Addr}{n T B:Nat}{o U:Obj}{c:Array (Int×Value)}{t:Yq}{f:List Nat}{W:List Value}(r:S≠I)(p:P≠I)
  (m:o.data=.set c T t)(Y:t.fits c.size=wf)(Z:c.size=n)(g:U.data=.seq (f.map λi:Nat=>Y3 i).toArray B)
  (G:f.length=n)(C:∀(i:Nat)(j:Nat),f[i]?=wc j->∃e,c[j]?=wc e/\W[i]?=wc e.2):
  Walks prog w A I [I,S,P] [I] n (λi v=>W[i]?=wc v) (λi h=>SIt h I S (.ref P) i n T/\h.get? S=wc o/\h.get? P=wc U)where
 sub:=λb y=>by simp at y;simp[y]
 frame:=λ_ _ _ st L=>⟨st.1.at λo e=>L I (by simp) o e,L S (by simp) _ st.2.1,L P (by simp) _ st.2.2⟩
 item:=λi s Q E J st d=>by
  erw[Hq R st.1 st.2.1 m Y Z st.2.2 g (λv u=>?_) (λq=>?_)]
  .simp only[CI,Xl,UZ]at u;have⟨j,l,rfl⟩:=u;have⟨e,D,u⟩:=C i j l;erw[⟨j,e,rfl,D,λN F O=>d _ N s.toks u ⟨F,(O.2 S r).trans st.2.1,(O.2 P p).trans st.2.2⟩ λb o y e=>(O.2 b (λz=>y (by simp[z]))).trans e⟩]
  .simp at q;lia
 done:=λs Q E st d=>by
  erw[Hq R st.1 st.2.1 m Y Z st.2.2 g (λv u=>?_) (λ_ N a=>d N s.toks λb o y e=>a b o (λz=>y (by simp[z])) e)]
  simp only[CI,Xl,UZ]at u;have⟨j,l,rfl⟩:=u;rw[Zb (by lia)]at l
  simp at l
 self:=λ_ _ _ _ st d=>Hr st.1 d
def Sw{g:Type}(l:Array g){t:List Nat}(z:t.Perm (Xr l.size)):
  ∃m:List g,m.Perm l.toList/\m.length=t.length/\∀(i:Nat)(j:Nat),t[i]?=wc j->∃e,l[j]?=wc e/\m[i]?=wc e:=by
 have u:∀j∈t,j<l.size:=λj y=>Zf.mp (z.mem_iff.mp y);erw[⟨t.filterMap λj=>l[j]?,(z.filterMap _).trans (by rw[filterMap_getElem?_range]),?_⟩]
 clear z
 induction t with
 |nil=>erw[⟨rfl,λi j h=>by simp at h⟩]
 |cons j t d=>
  have y:=u j XZ;have⟨c,f⟩:=d λk r=>u k (XD _ r);rw[List.filterMap_cons_some (b:=l[j]) (by simp[y])]
  erw[⟨by simp[c],λi k h=>?_⟩]
  cases i with
  |zero=>
   simp at h;subst h;erw[⟨l[j],by simp[y],rfl⟩]
  |succ i=>
   simp at h;have⟨e,p,L⟩:=f i k h;erw[⟨e,p,by simpa using L⟩]
def Sx(prog:Xk)(w:Xe)(z:List Str)(j:Heap)(S I:Addr)(m:Heap):Prop:=
 ∃(u:List Addr) (n:Nat) (l:List Value) (St:Nat->Heap->Prop),
  (∀y:Xp,y.handled=we->Walks prog w y I u [I] n (λi v=>l[i]?=wc v) St)/\St 0 m/\l.length=n/\(l.map txt).Perm z/\(∀v∈l,∃t,v=YR (txt v) t)/\
  (∀b∈u,b=S\/j.objs.size<=b)/\j.objs.size<=I
def Hs(h:p.size=1)(j:Nat):Bo p j=if p[0]'(by lia)<j then 1 else 0:=by
 have⟨l⟩:=p
 match l,h with
 |[a],_=>
  show(if 0<1 then(if(#[a]:Array Nat).getD ((0+1)/2) j<j then G1 #[a] j 0 ((0+1)/2+1) 1 else G1 #[a] j 0 0 ((0+1)/2))else 0)=if a<j then 1 else 0;rw[if_pos (by lia)]
  rfl
def Sy{S:Addr}{o:Obj}{D:List Str}{Q:Value->X0->Prop}(L:s.heap.get? S=wc o)(hS:WSet prog w o D)
  (hQ:∀(I:Addr)(h':Heap)d,Sx prog w D s.heap S I h'->(∀b o,s.heap.get? b=wc o->h'.get? b=wc o)->Q (.ref I) {s with heap:=h',drawn:=d}):
  X3 (X4 prog w) A (pyIter (.ref S)) Q E s:=by
 have⟨hex,u,Y,t,hd,hel,hp,Z,O,G,hpl⟩:=id hS;have hT:s.TypeIs (.ref S) "set":=⟨o,L,hex.1⟩;have J:S<s.heap.objs.size:=Xu L;have hsz:u.size=D.length:=by rw[<-hp.length_eq,X7,Yb]
 have T:∀e∈u.toList,∃t,e.2=YR (txt e.2) t:=λe c=>by
  have⟨⟨k,hk,_⟩,_⟩:=hel e c;have⟨t,ht⟩:=isT.mp hk;erw[⟨t,by rw[ht];rfl⟩]
 have hsl:sizeLine=16777216:=by decide
 have hsb:scanBound=4096:=rfl;erw[wpAny_pyIter_slot hT F.slot_set_iter (Zn F.slot_set_iter hT Sj ?_ (F.args_set_iter_1 _))];show X3 _ _ (FX S >>= _) _ _ s;erw[X2 (m:=FX S) (X2 (wpAny_setEntries_of L hd O (X8 ?_)))];erw[X2 (m:=setDrawn S) ?_];unfold setDrawn;erw[X2 (Wf L hd O ?_)];erw[X2 (m:=setsByText) (X2 (Wg (X8 (X8 ?_))))];show X3 _ _ (if(!w.params.followText "set-order"&&(!t.plain&&decide (u.size>1)))=wf then _ else _) _ _ _;have rest:∀(y:Value)(l:X0)(R:Fin->X0->Prop),l.heap.get? S=wc o->
   R (.done (.ret (.ref l.heap.objs.size))) {l with heap:=l.heap.push {cls:=.type "set_iterator",data:=.fields #[y,.int 0 0,.ref S,.int (u.size:Nat) 0,.int Y 0]} }->
   X3 (X4 prog w) A.in1 (do let e<- setEpoch S;let v<- newFields "set_iterator" [y,Y3 0,.ref S,Y3 (u.size:Nat),Y3 e];ret v) R E l:=by
  intro y l R U h
  erw[X2 (wpAny_setEpoch_of U hd O ?_)];erw[X2 (ZS (X8 h))]
 have g:∀(Good:Nat->Nat->Prop)(B:List Value),Good 0 0->B.length=u.size->(B.map txt).Perm D->(∀v∈B,∃t,v=YR (txt v) t)->
   (w.params.followText "set-order"=wf\/(u.size<=1/\t.led=wf))->
   (∀i f,Good i f->(i<u.size->∃x nx,Nx w S u Y t f i=wc (x,nx)/\B[i]?=wc x/\Good (i+1) nx)/\(i=u.size->Nx w S u Y t f i=we))->
   ∀(l:X0),l=s->X3 (X4 prog w) A.in1 (do let e<- setEpoch S;let v<- newFields "set_iterator" [Y3 0,Y3 0,.ref S,Y3 (u.size:Nat),Y3 e];ret v)
    (fun fin s'=>∃v,fin=Fin.done (Flow.ret v)/\∃T' r,s'.TypeIs v T'/\typeLookup (.type T') "__next__"=pure (wc r)/\Q v s') E l:=by
  intro Good B g0 hlv hpv hsv hw hg l M;subst M;erw[rest _ _ _ L ⟨_,rfl,"set_iterator",_,⟨_,XS _ rfl,rfl⟩,slot_setiter_next.lookup,?_⟩];erw[hQ _ _ l.drawn ⟨[l.heap.objs.size,S],u.size,B,_,λA' hh=>Su hh (XE J) hd O rfl hw hg,⟨0,g0,⟨_,XS _ rfl,rfl,rfl⟩,Xw _ L⟩,hlv,hpv,hsv,λb Z=>?_,Xc _⟩ λb o e=>Xw _ e];simp only[Xh,XM,or_false]at Z;rcases Z with rfl|rfl
  .erw[.inr (Xc _)]
  .erw[.inl rfl]
 by_cases hbt:w.params.followText "set-order"=wf
 .rw[hbt];simp only[Vu,Wv,Yv,if_false];erw[X2 (X8 ?_)];have p:=Sq (w.params.setOrder S Y) u;erw[g (λ_ _=>True) ((pickOrder (w.params.setOrder S Y) u).toList.map (·.2)) trivial ?_ ?_ ?_ (.inl hbt) ?_ s rfl]
  .rw[X7,p.length_eq,Yb]
  .rw[Y5];erw[(p.map _).trans hp]
  .intro v X;have⟨e,c,rfl⟩:=XR.mp X;erw[T e (p.mem_iff.mp c)]
  .intro i f _;have hps:(pickOrder (w.params.setOrder S Y) u).size=u.size:=by rw[<-Yb,p.length_eq,Yb]
   unfold Nx;rw[if_pos hbt];erw[⟨λhi=>?_,λhi=>?_⟩]
   .rw[UW (by lia)]
    erw[⟨_,_,rfl,by simp[hps,hi],trivial⟩]
   .rw[D8 (by lia)]
    rfl
 .have H:w.params.followText "set-order"=wg:=by simpa using hbt
  have hlt:t.led=wf:=by rw[G,H];rfl
  rw[H];simp only[D7,Ww];by_cases h1:u.size>1
  .have hz:D≠ []:=λz=>by rw[z,List.length_nil]at hsz;lia
   rw[hpl hz,decide_eq_true h1];simp only[D7,Bool.and_self,if_true];erw[X2 (Sn _ _ _ _ (by simp) λC d hj=>?_)]
   have⟨ys,n,hy2,hy3⟩:=Sw u hj;have a:C.length=u.size:=by rw[hj.length_eq,ZW]
   erw[X2 (wpAny_newTuple ?_ (by rw[X7];lia))]
   erw[rest _ _ _ (Xw _ L) ⟨_,rfl,"set_iterator",_,⟨_,XS _ rfl,rfl⟩,slot_setiter_next.lookup,?_⟩];have hPne:s.heap.objs.size≠(s.heap.push {cls:=.type "tuple",data:=.seq (C.map fun i:Nat=>Y3 i).toArray}).objs.size:=by rw[U0];lia
   have hSne:S≠(s.heap.push {cls:=.type "tuple",data:=.seq (C.map fun i:Nat=>Y3 i).toArray}).objs.size:=by rw[U0];erw[XE (US J)]
   have N:s.heap.objs.size<=(s.heap.push {cls:=.type "tuple",data:=.seq (C.map fun i:Nat=>Y3 i).toArray}).objs.size:=by rw[U0];lia
   erw[hQ _ _ d ⟨[_,S,s.heap.objs.size],u.size,ys.map (·.2),_,λA' hh=>Sv hh (S:=S) (P:=s.heap.objs.size) (o:=o) (f:=C)
    (U:={cls:=.type "tuple",data:=.seq (C.map fun i:Nat=>Y3 i).toArray}) hSne hPne hd O rfl rfl a ?_,
    ⟨⟨_,XS _ rfl,rfl,rfl⟩,Xw _ (Xw _ L),Xw _ (XS _ rfl)⟩,?_,?_,?_,λb Z=>?_,?_⟩
    λb o e=>Xw _ (Xw _ e)]
   .intro i j hij;have⟨e,c,hy⟩:=hy3 i j hij;erw[⟨e,c,by rw[Xl,hy];rfl⟩]
   .rw[X7,hy2,a]
   .rw[Y5];erw[(n.map _).trans hp]
   .intro v X;have⟨e,c,rfl⟩:=XR.mp X;erw[T e (n.mem_iff.mp c)]
   .simp only[Xh,XM,or_false]at Z;rcases Z with rfl|rfl|rfl
    .erw[.inr N]
    .erw[.inl rfl]
    .erw[.inr (Xc _)]
   .erw[N]
  .rw[decide_eq_false h1];simp only[Ba,Yv,if_false];erw[X2 (X8 ?_)];have hfp:t.place.size=u.size:=by
    simp only[SetTable.fits,Xs,beq_iff_eq,decide_eq_true_eq]at O;erw[O.1]
   erw[g (λi f=>(i=0->f=0)/\(i=1->∃h:0<t.place.size,f=t.place[0]+1)) (u.toList.map (·.2)) ⟨λ_=>rfl,λz=>absurd z (by lia)⟩ (by simp) ?_ ?_ (.inr ⟨by lia,hlt⟩) ?_ s rfl]
   .rw[Y5];erw[hp]
   .intro v X;have⟨e,c,rfl⟩:=XR.mp X;erw[T e c]
   .intro i f ⟨g0,g1⟩;unfold Nx;rw[if_neg hbt];erw[⟨λhi=>?_,λhi=>?_⟩]
    .have hs1:u.size=1:=by lia
     have hi0:i=0:=by lia
     subst hi0;have hpz:t.place.size=1:=by lia
     rw[g0 rfl,Hs hpz,if_neg (by lia),UW (by lia),UW (by lia)]
     erw[⟨_,_,rfl,?_,λz=>absurd z (by lia),λ_=>⟨by lia,rfl⟩⟩]
     simp[hs1]
    .have W:u[Bo t.place f]?=we:=by
      by_cases h0:u.size=0
      .erw[D8 (by lia)]
      .have hs1:u.size=1:=by lia
       have⟨hq,e⟩:=g1 (by lia)
       rw[e,Hs (by lia),if_pos (by lia)]
       erw[D8 (by lia)]
     rw[W]
def Sz(hh:A.handled=we)(ho:s.heap.get? S=wc o)(hS:WSet prog w o zs)
  (hQ:∀(T:List Value)(U:Heap)(d:Drawn)(g:Array GenState)tk,(T.map txt).Perm zs->(∀v∈T,∃t,v=YR (txt v) t)->(∀b o,s.heap.get? b=wc o->U.get? b=wc o)->g=s.gens->s.heap.objs.size<=U.objs.size->
   Q T {s with heap:=U,drawn:=d,gens:=g,toks:=tk}):X3 (X4 prog w) A (collect (.ref S)) Q E s:=by
 have⟨Y,es,ep,t,hd,hel,hp,Z,hf,hled,hpl⟩:=id hS;have H:S<s.heap.objs.size:=Xu ho;have hsl:sizeLine=16777216:=by decide
 have hsb:scanBound=4096:=rfl;have hsz:es.size=zs.length:=by rw[<-hp.length_eq,X7,Yb]
 unfold collect;erw[X2 (wpAny_runValue (YZ F.entry_proto_collect ?_))];rw[Zt F.plain_proto_collect _];show X3 _ A.in1 (newList [] >>= fun l=>again (.builtin "list.__iadd__" ⟨[l,.ref S],[]⟩)) _ _ s;erw[X2 (ZS ?_)];erw[X8 ⟨ZA F.plain_list_iadd _,YZ F.entry_list_iadd ?_⟩];rw[Zt F.plain_list_iadd _];show X3 _ A.in1 (FF (.ref s.heap.objs.size) (.ref S) (.ref s.heap.objs.size)) _ _ _;have B:s.heap.objs.size≠S:=(XE H).symm;generalize hL:s.heap.objs.size=L at*;have x:(s.heap.push {cls:=.type "list",data:=.seq ([]:List Value).toArray}).get? L=wc {cls:=.type "list",data:=.seq ([]:List Value).toArray}:=by
  rw[<-hL];erw[XS _ rfl]
 have p:(s.heap.push {cls:=.type "list",data:=.seq ([]:List Value).toArray}).get? S=wc o:=Xw _ ho;have f:(s.heap.push {cls:=.type "list",data:=.seq ([]:List Value).toArray}).objs.size=L+1:=by rw[U0,hL]
 have C:∀b u,s.heap.get? b=wc u->b≠L/\(s.heap.push {cls:=.type "list",data:=.seq ([]:List Value).toArray}).get? b=wc u:=fun b u e=>
  ⟨by rw[<-hL];erw[XE (Xu e)],Xw _ e⟩
 generalize s.heap.push {cls:=.type "list",data:=.seq ([]:List Value).toArray}=h₁ at*;have hT:Bu {s with heap:=h₁} (.ref S) "set":=⟨o,p,Y.1⟩;unfold FF;erw[X2 (UL hT ?_)];have e1:FG (.ref L) (.ref S)=wg:=by simp[FG,B]
 have e2:(Zg "set"==Zg "list")=wg:=by decide
 have e3:(Zg "set"==Zg "tuple")=wg:=by decide
 simp only[e1,e2,e3,Bool.or_false,Yv,if_false];erw[X2 (Sy (s:={s with heap:=h₁}) p hS λI j d hW hk=>?_)];have⟨fp,n,T,St,h,a,hvn,D,hvs,hfp,hI⟩:=hW;have N:∀b u,h₁.get? b=wc u->j.get? b=wc u:=hk;have O:Bu {s with heap:=j,drawn:=d} (.ref S) "set":=⟨o,N _ _ p,Y.1⟩;erw[X2 (YI ?_)];unfold Builtin.List.listLengthHint;erw[X2 (wpAny_specialOf O F.slot_set_len.lookup ?_)];have hsp:splitId "set.__len__"=wc ("set","__len__"):=by decide+kernel
 extract_lets j1 j2
 dsimp -zeta only;rw[hsp];dsimp -zeta only;erw[X2 (Vj O sub_set_self ?_)];simp only[Vu,Yv,if_false];show X3 _ _ (ite (_=wf) _ _) _ _ _;split
 case isFalse hs=>erw[absurd (by rfl) hs]
 erw[X2 (UL O ?_)];erw[X8 ?_];split
 case isFalse hs=>erw[absurd (by rfl) hs]
 erw[X2 (Vk ?_)];erw[X2 ?_];have m:j.get? L=wc {cls:=.type "list",data:=.seq ([]:List Value).toArray}:=N _ _ x;show X3 _ A.in1 (updateSeq L (·.push .none)>>= λ_=>updateSeq L (·.pop)) _ _ _;erw[X2 (wpAny_updateSeq m rfl ?_)];have c:=Wt (U5 (·.push Us)) m rfl;erw[wpAny_updateSeq c rfl ?_];have P:=Wt (U5 (·.pop)) c rfl;have G:∀b o,b≠L->j.get? b=wc o->((j.update L (U5 (·.push Us))).update L (U5 (·.pop))).get? b=wc o:=
  λb o Z e=>(AU _ _ (XT Z)).trans ((AU _ _ (XT Z)).trans e)
 have J:L∉fp:=λz=>by
  rcases hfp L z with e|e
  .erw[B e]
  .have:L+1<=L:=f▸e;lia
 have hin:A.in1.handled=we:=by simp[hh]
 have W:=(h A.in1 hin).toS;have hn:n<=sizeLine:=by
  have:n=zs.length:=by rw[<-hvn,<-D.length_eq,X7]
  lia
 erw[X8 ⟨ZA F.plain_extend_loop _,codeAny_extend_loopS W hn L J _ n 0 _ _ _ rfl (YQ _)
  (W.frame 0 ({s with heap:=j,drawn:=d}:X0) _ s.toks a (Xc _) λb Z o e=>G b o (λz=>J (z▸Z)) e) P (ItemsOf.nil _) λs' y c' X M r=>?_⟩]
 show X3 _ A (load L >>= _) _ _ s';erw[X2 (wpAny_load M ?_)];have hav:y.toList=T:=by
  erw[AE λi=>?_];by_cases hi:i<y.size
  .have e:=r.2 i y[i] (by simp[hi])
   rw[e];simp[hi]
  .rw[Zb (by simp;lia),Zb (by have:=r.1;lia)]
 have⟨U,g',d',tk',os'⟩:=s';have eg:g'=s.gens:=X.gens;have ed:d'=d:=X.drawn;have eo:os'=s.os:=X.os;subst ed;subst eo;erw[X8 ?_];show Q y.toList _;rw[hav];erw[hQ T U _ g' tk' D hvs (λb u e=>?_) eg (UU (Xu M))];have R:=C b u e;erw[X.heap b u ?_ (G b u R.1 (N b u R.2))];simp only[Xh,XM,or_false,not_or];erw[⟨R.1,λz=>?_⟩];have h1:L+1<=I:=XA (Uq f.symm) hI;have h2:b<L:=by rw[<-hL];erw[Xu e]
 rw[z]at h2;erw[absurd h1 (Nat.not_le_of_lt (US h2))]
def SA(C:A.handled=we)(D:s.heap.get? S=wc o)(F:WSet prog w o zs)(G:zs.length<64)
  (h:∀(p:Addr)(L:Heap)(d:Drawn)r (out:List Value)(N:List Str)(e:Nat),s.heap.objs.size<=p->(∀b o,s.heap.get? b=wc o->L.get? b=wc o)->L.get? p=wc (seqObj "list" out.toArray e)->
   StrsAre out N->N.Perm zs->sortedS N=wf->Q (.ref p) {s with heap:=L,drawn:=d,toks:=r}):
  X3 (X4 prog w) A (call (.builtin "sorted") [.ref S]) Q E s:=by
 erw[Calls.call_function_entry kind_sorted plain_sorted entry_sorted (args_sorted1 _) ?_];unfold Builtin.«sorted»;erw[X2 (m:=checkCount "sorted" 1 1 _) (X8 ?_)];have I:sizeLine=16777216:=by decide
 erw[X2 (Sz (by simp[C]) D F λl j d g r U W J M O=>?_)]
 subst M;have hl:l.length=zs.length:=by rw[<-U.length_eq,X7]
 erw[X2 (wpAny_newList ?_ (by lia))]
 have u:(j.push (seqObj "list" l.toArray 0)).get? j.objs.size=wc (seqObj "list" l.toArray 0):=XS _ rfl;have y:StrsAre l (l.map strOf):=strsAre_map l λv P=>by have⟨t,e⟩:=W v P;erw[⟨_,t,e⟩]
 have R:l.map strOf=l.map txt:=List.map_congr_left λv P=>by have⟨t,e⟩:=W v P;rw[e];rfl
 show X3 _ _ _ _ _ {s with heap:=j.push (seqObj "list" l.toArray 0),drawn:=d,toks:=r};erw[X2 (YI (Zn slot_list_sort ⟨_,u,rfl⟩ entry_list_sort (list_sort_treeK strKind_oneLt u y.keysOf (λY Z rest e=>keyKind_strs (by rw[<-e];erw[y])) (by lia) λz X H=>⟨_,rfl,?_⟩) (args_list_sort _)))]
 have⟨T,i,B,n⟩:=sorted_out_str y X H;erw[X8 ⟨_,rfl,?_⟩];have⟨e,x⟩:=sortedHeap_at (out:=(arrOf z).map (·.2)) u;erw[h j.objs.size _ d r ((arrOf z).map (·.2)).toList T e O (λb o a=>?_) (by rw[Array.toArray_toList];erw[x]) i (by rw[R]at B;erw[B.trans U]) n]
 have c:=J b o a;have f:b<j.objs.size:=Xu c;rw[sortedHeap_old (XE f) (by rw[size_push'];erw[US f])]
 erw[Xw _ c]
end
def Inv.drew{s:X0}(I:Inv X pj σ H s)(d:Drawn):Inv X pj σ H {s with drawn:=d}:=
 ⟨I.ok,I.os,I.bare,I.base,I.loc,I.cell,I.free,I.freeC,I.pin,I.hok,I.len⟩
def few{j:List Str}(l:j.Nodup):∀(N:List Str),(∀z∈j,z∈N)->j.length<=N.length:=by
 induction j with
 |nil=>intro N _;erw[YQ _]
 |cons z j w=>
  intro N h;rw[Yi]at l;have m:=h z XZ;have t:=List.perm_cons_erase m;have:=w l.2 (N.erase z) λy u=>by
   have:=t.mem_iff.mp (h y (XD _ u));rcases Xh.mp this with e|e
   .erw[absurd (e▸u) l.1]
   .erw[e]
  have g:=t.length_eq;simp only[Yr]at g ⊢;lia
theorem Ht:∀{j:List Value} {l:List Str},StrsAre j l->Vals (l.map V.str) j
 |_,_,.nil=>.nil
 |_,_,.cons x t h=>.cons ⟨t,rfl⟩ (Ht h)
def WQ(X:Cx)(f g:Value)(r:V->Hp->VK->Prop):Prop:=
 ∀(j:List (Addr×Obj))(s:X0)(l:St)(H:Hp)(x:V)(u:Value)(Q:VK),Inv X j l H s->RelV x u->r x H Q->
  X3 (X4 X.prog X.w) X.A (call g [u]) (λv t=>X3 (X4 X.prog X.w) X.A (call f [v]) (EP X j l Q) X.xe t) X.xe s
section
variable{X:Cx}
def Dy{x y:Str}{id T:String}{r:V->Hp->VK->Prop}{e:Expr}{t:TE}{p N l j:Pos}(R:WQ X (.builtin id) (.type T) r)
  (U:Gl X x)(W:X.mg x=we)(Y:Ym x=wc (.builtin id))(m:Gl X y)(g:X.mg y=we)(d:Ym y=wc (.type T))(Z:PE X e t)
  (A:x≠"__name__")(c:(x==("__debug__":Str))=wg)(f:y≠"__name__")(w:(y==("__debug__":Str))=wg)
  (O:Xm [e] X.env=(wg,eval e X.env)::Xm [] X.env):
  PE X (.Call (.Name x p) [.Call (.Name y N) [e] [] j] [] l) (λz H Q=>t z H λv L=>r v L Q):=by
 intro P s z H Q I h;erw[ZR (U7 I U W Y ?_ A c)];erw[Fu ?_ rfl rfl];show X3 _ _ (spliced ((wg,eval (.Call (.Name y N) [e] [] j) X.env)::XV l (Xm [] X.env))) _ _ s;erw[WD ?_];erw[ZR (U7 I m g d ?_ f w)];erw[WC ?_ O rfl];rw[O];show X3 _ _ (spliced ((wg,eval e X.env)::XV j (Xm [] X.env))) _ _ s;erw[WD (thn (Z P s z H _ I h) λu B C=>?_)];have⟨v,L,D,r1,E⟩:=C;erw[WE ?_];erw[thn (R P B z L v u Q D r1 E) λG J F=>WE F]
def SC(c:X.calm=wf):WQ X (.builtin "sorted") (.type "set") (fun x H Q=>∃(a:Addr) (l N:List Str),x=.ref a/\SqL X.K H a (l.map V.str)/\l.length+1<scanBound/\(∀z∈l,z∈N)/\N.length<64/\
  ∀p (A:List Str),H p=we->A.Nodup->(∀y,y∈A↔y∈l)->sortedS A=wf->Q (.ref p) (upd H p (.lst (A.map V.str)))):=by
 intro pj s σ H x u Q I rx h;have⟨a,l,N,rfl,ha,O,S,P,q⟩:=h;cases rx;have⟨g,n,p,B⟩:=I.list ha;have hh:=I.ok.hd c;have R:g.length=l.length:=by rw[<-n.length,X7]
 have T:g.toArray.size=l.length:=by simp[R]
 have hi:∀(i:Nat)(v:Value),g.toArray[i]?=wc v->∃t,v=YR (l.getD i ⟨#[]⟩) t:=λi v hv=>by
  have U:g[i]?=wc v:=by simpa using hv
  have W:i<l.length:=by rw[<-R];erw[(XF.mp U).1]
  have⟨u,hu,ru⟩:=n.get (i:=i) (x:=V.str l[i]) (by simp[W])
  rw[U]at hu;cases hu;have⟨t,rfl⟩:=ru;erw[⟨t,by simp[Wq,W]⟩]
 have m:∀y,y∈met (λi=>l.getD i ⟨#[]⟩) l.length↔y∈l:=λy=>by
  rw[Hg,List.mem_iff_getElem];constructor
  .rintro⟨j,Y,rfl⟩;erw[⟨j,Y,by simp[Wq,Y]⟩]
  .rintro⟨j,Y,rfl⟩;erw[⟨j,Y,by simp[Wq,Y]⟩]
 erw[Sh (f:=λi=>l.getD i ⟨#[]⟩) hh p.isList hi (by rw[T];erw[O]) λh1 Z o ho hS hk=>?_]
 rw[T]at hS;have I1:Inv X pj σ H {s with heap:=h1,toks:=Z}:=I.kept λb u e=>hk b u (Xu e) e;have C:=Hf (λi=>l.getD i ⟨#[]⟩) l.length;erw[SA (s:={s with heap:=h1,toks:=Z}) hh ho hS (Nat.lt_of_le_of_lt (few C N λz B=>S z ((m z).mp B)) P) λD h2 d E out F e hp G J M w r=>?_];have L:F.length<=sizeLine:=by
  have hsl:sizeLine=16777216:=by decide
  have:=few C N λz B=>S z ((m z).mp B);rw[w.length_eq];lia
 have I2:=(I1.laid (a:=D) (t':=E) (h':=h2) (o:=.lst (F.map V.str)) (λb u e=>G b u e) hp
  ⟨by rw[X7];erw[L],out,e,Ht M,J⟩).drew d
 erw[⟨.ref D,_,I2,rfl,q D F (I1.hok.fresh hp) (w.nodup_iff.mpr C) (λy=>(w.mem_iff).trans (m y)) r⟩]
end
def SD{c:String}(N:c="list"\/c="tuple"){l:Xk}{w:Xe}{A:Xp}{E:Value->X0->Prop}{s:X0}{a:Addr}{j:Array Value}{n:Nat}{m:Array (Option Value)}{Q:Option Value->X0->Prop}(p:s.heap.get? a=wc ⟨.type c,we,.seq j n,m⟩)(O:A.handled=we)
  (P:∀y f,(∀b o,s.heap.get? b=wc o->y.get? b=wc o)->Q we {s with heap:=y,toks:=f}):X3 (X4 l w) A (getAttr? (.ref a) "keys") Q E s:=by
 obtain⟨id,r,T,U,W,Y⟩:∃id,Slot c "__getattribute__" id/\entryFor table id=wc Builtin.«object.__getattribute__»/\(∀b,argsOk id ⟨[.ref a,b],[]⟩)/\(∀u,Meets (Builtin.«object.__getattribute__» ⟨[.ref a,.str "keys" u],[]⟩) (fun A R s=>s.heap.get? a=wc ⟨.type c,we,.seq j n,m⟩/\raisesAttr (.ref a) "keys" A R s))/\typeLookup (.type c) "__getattr__"=pure we:=by
  rcases N with rfl|rfl
  .erw[⟨_,F.slot_list_getattribute,am_entry_list_getattribute,F.args_list_getattribute_2 _,fun u=>meets_getattribute_miss_list a j n m "keys" u (am_miss_of_fast (by kernel_rfl)) (by kernel_rfl),am_list_getattr_none⟩]
  .erw[⟨_,F.slot_tuple_getattribute,am_entry_tuple_getattribute,F.args_tuple_getattribute_2 _,fun u=>meets_getattribute_miss_tuple a j n m "keys" u (am_miss_of_fast (by kernel_rfl)) (by kernel_rfl),am_tuple_getattr_none⟩]
 have⟨h,g,d,t,os⟩:=s;unfold getAttr? getAttrBy? mkText;erw[X2 (X2 (wpAny_fresh (X8 ?_)))];erw[X2 (wpAny_attempt ?_)];have L:∀t,(⟨h,g,d,t,os⟩:X0).TypeIs (.ref a) c:=λ_=>⟨_,p,rfl⟩;have Z:=r.lookup;have B:=r.bind (.ref a)
 repeat (any_goals (first|assumption|erw[L _]|((with_reducible show X3 _ _ (call (Vw id) _ _) _ _ _);erw[Uj r (L _) T (U _) (W _) ⟨p,O,λy f e x=>?_⟩])|wp_step))
 have z:(⟨y,g,d,f,os⟩:X0).TypeIs (.ref e) "AttributeError":=by have⟨_,_,o⟩:=x.there;erw[⟨_,o,rfl⟩]
 show X3 _ _ (getattributeRaised _ _ _ _ _ _ _) _ _ _;unfold getattributeRaised;erw[X2 (Vj z sub_AttributeError ?_)];simp only[if_true];unfold hookBehind onTheHeap;simp only[Yv,if_false];rw[Y];erw[X2 (X8 ?_)];unfold hookOrError attributeErrorLeaves;simp only[D7,if_true];erw[X2 (wpAny_throw ?_)];erw[X2 (Vj z sub_AttributeError ?_)];simp only[if_true];erw[X8 (P y f x.keeps)]
def Hu:entryFor table "dict.update.loop"=wc Builtin.«dict.update.loop»:=entryFor_of_tree (by kernel_rfl)
def BJ:plainId "dict.update.loop"=wf:=by decide+kernel
section
variable{prog:Xk}{w:Xe}{A:Xp}{E:Value->X0->Prop}{s:X0}{K:Type} [DecidableEq K] {knd:KeyKind prog w K}
noncomputable def stTo(j:Nat->K)(l:Nat->Value):Nat->List (K×Value)
 |0=>[]
 |i+1=>stored (stTo j l i) (j i) (l i)
def SE(j:List (K×Value))(k:K)(v:Value):(stored j k v).length<=j.length+1:=by
 unfold stored;split<;>simp
theorem Dz(j:Nat->K)(l:Nat->Value):∀i,(stTo j l i).length<=i
 |0=>Xc _
 |i+1=>XA (SE _ _ _) (AY (Dz j l i))
def SF{St:Nat->X0->Prop}
  (W:WalksS prog w A.in1 I fp wr G n P St)(D:Addr)(L:D∉fp)(N:Nat->K)(u:Nat->Value)(f:n<=sizeLine):
  ∀(k i:Nat)(s:X0),n - i=k->i<=n->St i s->s.heap.DictOf knd D (stTo N u i)->
   (∀j v,P j v->∃q y F p,v=.ref q/\q≠D/\q∉wr/\s.heap.get? q=wc p/\p.cls=.type "tuple"/\p.data=.seq #[y,u j] F/\knd.is (N j) y=wf)->
   (∀l,Moved (D::wr) G s l->l.heap.DictOf knd D (stTo N u n)->R (.ok (.ret .none)) l)->
   YJ (X4 prog w) A (.builtin "dict.update.loop" ⟨[.ref D,.ref I,Y3 (i:Nat),.none],[]⟩) R s:=by
 have O:D∉wr:=λh=>L (W.sub _ h);have t:∀b∈wr,b∈D::wr:=λb f=>XD _ f;intro k
 induction k with
 |zero=>
  intro i s hk hi g hd J M;have Q:i=n:=by lia
  subst Q;erw[YZ Hu ?_];rw[Zt BJ _];show X3 _ A.in1 (pyNext (.ref I)>>= _) _ _ s;erw[X2 (W.done s _ _ g λl d=>?_)];erw[X2 (m:=Builtin.Dict.addKeywords D []) (X8 ?_)];erw[X8 (M l (d.mono t) ?_)];have⟨o,S,X,H,r⟩:=hd;erw[⟨o,S,X,d.heap D _ O H,r⟩]
 |succ k ih=>
  intro i s hk hi g hd J M;have T:i<n:=by lia
  erw[YZ Hu ?_];rw[Zt BJ _];show X3 _ A.in1 (pyNext (.ref I)>>= _) _ _ s;erw[X2 (W.item i s _ _ T g λv l hP U d=>?_)];have⟨q,y,F,p,rfl,hqD,x,hq,a,hqd,Y⟩:=J i v hP;have Z:=d.heap q _ x hq;have hd':l.heap.DictOf knd D (stTo N u i):=by
   have⟨o,S,X,H,r⟩:=hd;erw[⟨o,S,X,d.heap D _ O H,r⟩]
  have hT:l.TypeIs (.ref q) "tuple":=⟨_,Z,a⟩;show X3 _ A.in1 (Z8 [Xt q] _ >>= _) _ _ l;erw[X2 (YI ?_)];erw[X2 (wpAny_tryCatch ?_)];unfold Builtin.Dict.pairItems;erw[X2 (UL hT ?_)];have e2:(Zg "tuple"==Zg "tuple")=wf:=rfl;rw[e2,Vv,if_pos rfl];erw[X2 (wpAny_seqItems Z hqd (X8 ?_))];show X3 _ A.in1 (Z8 [y,u i] (dictSet D y (u i))) _ _ l;erw[YI ?_];have hl:=Dz N u i;erw[wpAny_dictSet_pairs (knd:=knd) Y hd' (λh' hd2 c=>?_) (by lia)]
  erw[X8 ⟨ZA BJ _,?_⟩];have:=ih (i+1) {l with heap:=h',toks:=l.toks+1} (by lia) T (W.frame _ l _ _ U (Ur _) λb f o e=>?_) hd2 (λj v hPj=>?_) λs'' B C=>?_
  .erw[this]
  .rw[c.2 b (λz:b=D=>L (by rw[<-z];erw[f]))];erw[e]
  .have⟨q,y,F,p,rfl,a1,a2,a3,a4⟩:=J j v hPj;erw[⟨q,y,F,p,rfl,a1,a2,(c.2 q a1).trans (d.heap q _ a2 a3),a4⟩]
  .erw[M s'' (Moved.trans W.gtrans ((d.mono t).then_heap (Ur _) λb o f e=>?_) B) C];rw[c.2 b (λz:b=D=>f (by rw[z];erw[XZ]))];erw[e]
def SG{l:Addr}{items:Array Value}{p:Nat}{Z:Array (Option Value)}{c:String}{B:Nat->K}{C:Nat->Value}{Q:Value->X0->Prop}(D:c="list"\/c="tuple")(G:A.handled=we)(H:s.heap.get? l=wc ⟨.type c,we,.seq items p,Z⟩)(hn:items.size<=sizeLine)
  (ht:∀(j:Nat)v,items[j]?=wc v->∃q U I L,v=.ref q/\s.heap.get? q=wc L/\L.cls=.type "tuple"/\L.data=.seq #[U,C j] I/\knd.is (B j) U=wf)
  (h:∀N tk,N.DictOf knd s.heap.objs.size (stTo B C items.size)->(∀b o,b<s.heap.objs.size->s.heap.get? b=wc o->N.get? b=wc o)->Q (.ref s.heap.objs.size) {s with heap:=N,toks:=tk}):
  X3 (X4 prog w) A (call (.type "dict") [.ref l]) Q E s:=by
 erw[callType_codes (Q₁:=fun O g=>O=.ref s.heap.objs.size/\g={s with heap:=s.heap.push {cls:=.type "dict",data:=.dict #[]} }) F.kt_called_dict (F.kt_typeCall_dict_1 _) F.entry_dict_init (kt_code_dict_new _ ⟨rfl,rfl⟩) ?_];rintro O g ⟨rfl,rfl⟩;have t:(s.heap.push {cls:=.type "dict",data:=.dict #[]}).DictOf knd s.heap.objs.size []:=Heap.DictOf.new s.heap;have f:(s.heap.push {cls:=.type "dict",data:=.dict #[]}).get? l=wc ⟨.type c,we,.seq items p,Z⟩:=Xw _ H;have hT:Bu {s with heap:=s.heap.push {cls:=.type "dict",data:=.dict #[]} } (.ref l) c:=⟨_,f,rfl⟩;erw[⟨t.typeIs,F.args_dict_init_2 _ _,?_⟩];unfold Builtin.«dict.__init__»;erw[X2 ?_];unfold Builtin.Dict.selfAndRest;erw[X2 (wpAny_notOrdered_dict t.typeIs ?_)];show X3 _ _ (pure (s.heap.objs.size,[Xt l])) _ _ _;erw[X8 ?_];show X3 _ _ (FD "dict.__init__" s.heap.objs.size (.ref l) [] .none) _ _ _;unfold FD;erw[X2 (UL hT ?_)];rw[if_pos (by rcases D with rfl|rfl<;>decide)]
 erw[X2 (SD D (s:={s with heap:=s.heap.push {cls:=.type "dict",data:=.dict #[]} }) f (by simp[G]) fun u W z=>?_)]
 simp only[Option.isNone_none,if_true];erw[X2 (Vk ?_)];have P:u.get? l=wc ⟨.type c,we,.seq items p,Z⟩:=z _ _ f;have R:l<s.heap.objs.size:=Xu H;have y:s.heap.objs.size<u.objs.size:=by
  have⟨o,x,a,J,_⟩:=t;erw[Xu (z _ _ J)]
 have d:l≠u.objs.size:=XE (B5 R y);obtain⟨M,St,k1,k2,k3⟩:∃(M:String) (St:Nat->Heap->Prop),(∀{Q:Value->X0->Prop} {E:Value->X0->Prop} {A:Xp},Q (.ref u.objs.size) {s with heap:=u.push {cls:=.type M,data:=.fields #[.ref l,.int 0 0]},toks:=W}->X3 (X4 prog w) A (pyIter (.ref l)) Q E {s with heap:=u,toks:=W})/\Walks prog w A.in1.in1 u.objs.size [u.objs.size,l] [u.objs.size] items.size (λi v=>items[i]?=wc v) St/\St 0 (u.push {cls:=.type M,data:=.fields #[.ref l,.int 0 0]}):=by
  rcases D with rfl|rfl
  .have m:u.IsList l items:=⟨_,P,rfl,p,rfl⟩;erw[⟨_,_,λq=>Aw (s:={s with heap:=u,toks:=W}) m q,Walks.list (by simp[G]) _ _ d items,⟨_,XS _ rfl,rfl,rfl⟩,m.push _⟩]
  .have m:u.IsTuple l items:=⟨_,P,rfl,p,rfl⟩;erw[⟨_,_,λq=>wpAny_pyIter_tuple (s:={s with heap:=u,toks:=W}) m q,Walks.tuple (by simp[G]) _ _ d items,⟨_,XS _ rfl,rfl,rfl⟩,m.push _⟩]
 erw[X2 (k1 ?_)];erw[X8 ⟨ZA BJ _,?_⟩];erw[SF (knd:=knd) (n:=items.size) k2.toS s.heap.objs.size ?_ B C hn items.size 0 _ rfl (YQ _) k3 ?_ ?_ ?_]
 .simp only[Xh,XM,or_false,not_or];erw[⟨XE y,B0 R⟩]
 .have⟨o,x,a,J,r⟩:=t;erw[⟨o,x,a,Xw _ (z _ _ J),r⟩]
 .intro j v hv;have⟨q,U,I,L,rfl,a1,a2⟩:=ht j v hv;have T:q<s.heap.objs.size:=Xu a1;erw[⟨q,U,I,L,rfl,XE T,?_,Xw _ (z _ _ (Xw _ a1)),a2⟩];simp only[Y9];erw[XE (B5 T y)]
 .intro s' Y hd;have⟨N,g',d',S,X⟩:=s';have eg:g'=s.gens:=Y.gens;have ed:d'=s.drawn:=Y.drawn;have eo:X=s.os:=Y.os;subst eg;subst ed;subst eo;erw[⟨rfl,h N S hd λb o hb e=>?_⟩];erw[Y.heap b o ?_ (Xw _ (z _ _ (Xw _ e)))];simp only[Xh,XM,or_false,not_or];erw[⟨XE hb,XE (B5 hb y)⟩]
end
def Hv(H:Hp):List (Key×V)->List V->Prop:=Paired fun(p:Key×V) (v:V)=>∃q,v=.ref q/\H q=wc (.tup [kV p.1,p.2])
def VL(j:List (Key×V)):List (Key×V):=j.foldl (λc z=>putK c z.1 z.2) []
def Paired.at{α β:Type}{R:α->β->Prop}{xs:List α}{j:List β}(h:Paired R xs j):∀(i:Nat)(y:β),j[i]?=wc y->∃x,xs[i]?=wc x/\R x y:=by
 induction h with
 |nil=>erw[λ_ _ h=>nomatch h]
 |cons r _ l=>
  intro i y h;cases i with
  |zero=>cases h;erw[⟨_,rfl,r⟩]
  |succ i=>erw[l i y h]
section
variable{X:Cx}
def Hw(d:X.calm=wf):Yw X (.type "dict") (fun xs H Q=>∃(a:Addr) (t:List (Key×V)) (m:List V),xs=[.ref a]/\(H a=wc (.lst m)\/H a=wc (.tup m))/\Hv H t m/\∀p,H p=we->Q (.ref p) (upd H p (.dK (VL t)))):=by
 intro pj s σ H xs us Q I r h;have⟨a,t,m,rfl,T,D,q⟩:=h;have⟨u,rfl,ru⟩:=_H r;cases ru;obtain⟨c,E,O,l,P,sl,f,R⟩:∃c,(c="list"\/c="tuple")/\m.length<=sizeLine/\∃(l:List Value) (P:Nat) (sl:Array (Option Value)),Vals m l/\s.heap.get? a=wc ⟨.type c,we,.seq l.toArray P,sl⟩:=by
  rcases T with T|T
  .have⟨O,l,P,f,R⟩:=(show ObjOk X.prog X.w H s.heap a (.lst m)from I.hok a _ T);erw[⟨_,.inl rfl,O,l,P,_,f,R⟩]
  .have⟨O,l,f,⟨⟨lc,ldc,ld,lsl⟩,R,F,P,G⟩,ol2,U,J⟩:=(show ObjOk X.prog X.w H s.heap a (.tup m)from I.hok a _ T);rw[R]at U;cases U;cases F;cases G;cases J;erw[⟨_,.inr rfl,O,l,P,_,f,R⟩]
 have hh:=I.ok.hd d;have W:l.length=t.length:=by rw[<-f.length,D.length]
 have⟨M,Y⟩:=Classical.axiomOfChoice (α:=Nat) (β:=fun _=>Value) (r:=fun j A=>∀v,l.toArray[j]?=wc v->∃q L B g,v=.ref q/\s.heap.get? q=wc g/\g.cls=.type "tuple"/\g.data=.seq #[L,A] B/\∃p,t[j]?=wc p/\RelV (kV p.1) L/\RelV p.2 A) fun j=>by
  rw[CI];cases e:l[j]? with
  |none=>erw[⟨.none,λv Z=>by cases Z⟩]
  |some v=>
   have⟨y,hy,ry⟩:=Paired.at f j v e;have⟨p,w,q,rfl,hq⟩:=Paired.at D j y hy;cases ry;have⟨_,ts,rt,ht⟩:=(show ObjOk X.prog X.w H s.heap q (.tup [kV p.1,p.2])from I.hok q _ hq);have⟨L,A,rfl,r1,C⟩:=WH rt;have⟨g,ho,E,n,hd⟩:=ht.1;erw[⟨A,λv Z=>by cases Z;erw[⟨q,L,n,g,rfl,ho,E,hd,p,w,r1,C⟩]⟩]
 erw[SG (knd:=YS X.prog X.w) (B:=λj=>(t.getD j (.inl 0,.non)).1) (C:=M) E hh R (by simpa [<-f.length]using O) (λj v Z=>?_) λh' tk hd hk=>?_]
 .have⟨q,L,B,g,e1,e2,e3,e4,p,w,r1,C⟩:=Y j v Z;erw[⟨q,L,B,g,e1,e2,e3,e4,VH ?_⟩];rw[YK,w];erw[r1]
 have kv:∀i,i<=t.length->KV ((t.take i).foldl (λc z=>putK c z.1 z.2) []) (stTo (λj=>(t.getD j (.inl 0,.non)).1) M i):=by
  intro i
  induction i with
  |zero=>intro _;erw[.nil]
  |succ i ih=>
   intro hi;have S:i<l.length:=by lia
   have⟨q,L,B,g,e1,e2,e3,e4,p,w,r1,C⟩:=Y i l[i] (by simp[S])
   rw[ZX,w,Option.toList_some,List.foldl_append];show KV (putK _ p.1 p.2) (stored _ (t.getD i (.inl 0,.non)).1 _);have ek:(t.getD i (.inl 0,.non)).1=p.1:=by rw[YK,w];rfl
   rw[ek];erw[(ih (by lia)).put p.1 C]
 have N:=kv t.length (Xc _);rw[CN]at N;have x:l.toArray.size=t.length:=by simp[W]
 rw[x]at hd;have hpl:t.length<=sizeLine:=by rw[D.length];erw[O]
 have zl:(VL t).length<=sizeLine:=by
  have:=N.length;have l2:=Dz (λj=>(t.getD j (.inl 0,.non)).1) M t.length;unfold VL;lia
 erw[⟨.ref s.heap.objs.size,_,I.laid (a:=s.heap.objs.size) (o:=.dK (VL t)) (t':=tk) (λb u e=>hk b u (Xu e) e) (Xc _) (Dw zl (beq_eq_false_iff_ne.mpr (XT (XE I.big))) N hd),rfl,q _ (I.hok.fresh (Xc _))⟩]
def SH:∀(bs:List Bool),((Xr bs.length).all λi=>bs.getD i wf)=bs.all id:=by
 intro bs;have e:(Xr bs.length).map (λi=>bs.getD i wf)=bs:=by
  erw[AG (by simp) λi l j=>?_]
  simp[Wq,j]
 conv=>rhs;rw[<-e]
 rw[List.all_map]
 rfl
def SI(l:X.calm=wf):Yw X (.builtin "all") (fun c H Q=>∃(a:Addr) (bs:List Bool),c=[.ref a]/\SqL X.K H a (bs.map V.bl)/\Q (.bl (bs.all id)) H):=by
 intro Y s Z H c A Q I r h;have⟨a,bs,rfl,N,q⟩:=h;have⟨u,rfl,z⟩:=_H r;cases z;have⟨j,f,p,B⟩:=I.list N;have O:=I.ok.hd l;have t:j.length=bs.length:=by rw[<-f.length,X7]
 have m:∀(i:Nat)(v:Value),j.toArray[i]?=wc v->v=.bool (bs.getD i wf):=λi v P=>by
  have w:j[i]?=wc v:=by simpa using P
  have y:i<bs.length:=by rw[<-t];erw[(XF.mp w).1]
  have⟨u,L,z⟩:=f.get (i:=i) (x:=V.bl bs[i]) (by simp[y])
  rw[w]at L;cases L;rw[show v=.bool bs[i]from z];simp[Wq,y]
 have g:a<s.heap.objs.size:=by have⟨o,n,e,_⟩:=p;erw[Xu e]
 erw[PySem.call_all_walk (Aw p.isList ⟨_,_,_,_,_,_,λi=>bs.getD i wf,rfl,Walks.list (by simp[O]) _ a (XE g) j.toArray,⟨⟨_,XS _ rfl,rfl,rfl⟩,p.isList.push _⟩,?_,λC R T=>?_⟩)]
 .intro i v s Q E U W;rw[m i v U];erw[Zx W]
 .have d:j.toArray.size=bs.length:=by simp[t]
  rw[d,SH];erw[⟨.bl _,H,I.kept (t':=R) λb o e=>?_,rfl,q⟩];erw[T b o (by simp only[Y9];erw[XE (Xu e)]) (Xw _ e)]
end
noncomputable def Its(x:Str):It:=⟨λi _=>i<x.cps.size,λi H v j=>j=H/\∃c,x.cps[i]?=wc c/\v=.str ⟨#[c]⟩,λi _=>x.cps.size<=i⟩
def SJ{K:X1}(l:Addr)(x:Str)(t:Tok):Turn P w K tg (Its x) [l] l (fun i h=>h.IsStrIter l "str_ascii_iterator" x t i)where
 mem:=by simp
 obj:=λi h st b u=>by
  have e:b=l:=by simpa using u
  subst e;have⟨o,e,c,d⟩:=st;erw[⟨o,e,λv z=>by rw[d]at z;cases z⟩]
 keep:=λi h m st k=>by
  have⟨o,e,c,d⟩:=st;erw[⟨o,k l (by simp) o e,c,d⟩]
 item:=by
  intro X f r p T i U s W H E I g st j;subst f r p;have j:i<x.cps.size:=j;have⟨f0,L,Y,N,O,R⟩:=g l (by simp)
  erw[wpAny_pyNext_ascii_item st (c:=x.cps[i]) (by simp[j]) λm y Z=>?_]
  have A:Inv X U W H {s with heap:=m,toks:=s.toks+1}:=I.turned (λb o u e=>(Z.2 b u).trans e) f0 L N O R;have⟨o,e,c,d⟩:=id y;erw[⟨_,rfl,WG (s:={s with heap:=m,toks:=s.toks+1}) e c d (by decide) ⟨.str ⟨#[x.cps[i]]⟩,H,A,⟨_,rfl⟩,⟨rfl,_,by simp[j],rfl⟩,y,λb u=>(g b u).1⟩⟩]
 done:=by
  intro X f r p T i U s W H E I g st j;subst f r p;have j:x.cps.size<=i:=j;have⟨f0,L,Y,N,O,R⟩:=g l (by simp)
  erw[wpAny_pyNext_ascii_end (I.ok.hd T) st (by simp[j]) λm B=>⟨rfl,I.turned (y:=s.toks) (λb o u e=>B b o u e) f0 L N O R⟩]
 self:=λ_ _ _ _ _ st h=>wpAny_pyIter_striter_ascii st h
def SK{K:X1}(l:Addr)(x:Str)(t:Tok):Turn P w K tg (Its x) [l] l (fun i h=>h.IsStrIter l "str_iterator" x t i)where
 mem:=by simp
 obj:=λi h st b u=>by
  have e:b=l:=by simpa using u
  subst e;have⟨o,e,c,d⟩:=st;erw[⟨o,e,λv z=>by rw[d]at z;cases z⟩]
 keep:=λi h m st k=>by
  have⟨o,e,c,d⟩:=st;erw[⟨o,k l (by simp) o e,c,d⟩]
 item:=by
  intro X f r p T i U s W H E I g st j;subst f r p;have j:i<x.cps.size:=j;have⟨f0,L,Y,N,O,R⟩:=g l (by simp)
  erw[wpAny_pyNext_wide_item st (c:=x.cps[i]) (by simp[j]) λm y Z=>?_]
  have A:Inv X U W H {s with heap:=m,toks:=s.toks+1}:=I.turned (λb o u e=>(Z.2 b u).trans e) f0 L N O R;have⟨o,e,c,d⟩:=id y;erw[⟨_,rfl,WG (s:={s with heap:=m,toks:=s.toks+1}) e c d (by decide) ⟨.str ⟨#[x.cps[i]]⟩,H,A,⟨_,rfl⟩,⟨rfl,_,by simp[j],rfl⟩,y,λb u=>(g b u).1⟩⟩]
 done:=by
  intro X f r p T i U s W H E I g st j;subst f r p;have j:x.cps.size<=i:=j;have⟨f0,L,Y,N,O,R⟩:=g l (by simp)
  erw[wpAny_pyNext_wide_end (I.ok.hd T) st (by simp[j]) λm B=>⟨rfl,I.turned (y:=s.toks) (λb o u e=>B b o u e) f0 L N O R⟩]
 self:=λ_ _ _ _ _ st h=>wpAny_pyIter_striter_wide st h
section
variable{X:Cx}{pj:List (Addr×Obj)}{σ:St}{H:Hp}{s:X0}
def SL{t:Tok}(I:Inv X pj σ H s)(q:R (Its x) H):X3 (X4 X.prog X.w) X.A (pyIter (.str x t)) (PIE X pj σ tg R) E s:=by
 have j:∀b∈ [s.heap.objs.size],FpOk X pj H b:=λb u=>by
  have e:b=s.heap.objs.size:=by simpa using u
  subst e;erw[I.fpOk (Xc _) (I.hok.fresh (Xc _))]
 cases l:x.cps.all (·<128)
 .erw[wpAny_pyIter_wide l ⟨s.heap.objs.size,[s.heap.objs.size],_,_,H,rfl,I.kept (t':=s.toks) λb o e=>Xw _ e,SK _ x t,⟨_,XS _ rfl,rfl,rfl⟩,j,q⟩]
 .erw[wpAny_pyIter_ascii l ⟨s.heap.objs.size,[s.heap.objs.size],_,_,H,rfl,I.kept (t':=s.toks) λb o e=>Xw _ e,SJ _ x t,⟨_,XS _ rfl,rfl,rfl⟩,j,q⟩]
def SM(X:Cx)(t:TE):TI:=λσ H R=>t σ H λx j=>(∃a,x=.ref a/\((∃l,SqL X.K j a l/\R (Itl X.K a) j)\/(∃l,SqT X.K j a l/\R (Itt X.K a) j)\/False))\/
 ∃z,x=.str z/\R (Its z) j
def SN{c l:Expr}{g:TE}(f:PE X l g):PI X c l (SM X g):=by
 intro pj s σ H R I h;erw[thn (f pj s σ H _ I h) λv j r=>?_];have⟨x,d,u,r1,L⟩:=r;rcases L with⟨a,e,q⟩|⟨z,e,q⟩
 .subst e;cases r1;rcases q with⟨N,y,q⟩|⟨N,y,q⟩|q
  .have⟨w,O,p,P⟩:=u.list y;erw[Aw p.isList ?_];erw[⟨j.heap.objs.size,[j.heap.objs.size],_,_,d,rfl,u.kept (t':=j.toks) λb o e=>Xw _ e,Q2 a _,⟨_,XS _ rfl,rfl,rfl⟩,λb m=>?_,q⟩];have e:b=j.heap.objs.size:=by simpa using m
   subst e;erw[u.fpOk (Xc _) (u.hok.fresh (Xc _))]
  .have⟨w,O,p,P⟩:=u.tuple y;erw[wpAny_pyIter_tuple (show j.heap.IsTuple a w.toArray from p) ?_];erw[⟨j.heap.objs.size,[j.heap.objs.size],_,_,d,rfl,u.kept (t':=j.toks) λb o e=>Xw _ e,Q3 a _,⟨_,XS _ rfl,rfl,rfl⟩,λb m=>?_,q⟩];have e:b=j.heap.objs.size:=by simpa using m
   subst e;erw[u.fpOk (Xc _) (u.hok.fresh (Xc _))]
  .erw[q.elim]
 .subst e;have⟨t,rfl⟩:=r1;erw[SL u q]
def SO{s:X0}(j:∀i,v≠.builtin i)(h:Q (.bool (v==.bool b)) s):X3 M A (Y1 .Is v (.bool b)) Q E s:=by
 cases v<;>first|erw[X8 h]|erw[absurd rfl (j _)]
def SQ{s:X0}(j:∀i,v≠.builtin i)(h:Q (.bool (!(v==.bool b))) s):X3 M A (Y1 .IsNot v (.bool b)) Q E s:=by
 cases v<;>first|erw[X8 h]|erw[absurd rfl (j _)]
def Hx(r:RelV x v):∀i,v≠.builtin i:=λi e=>by
 subst e;cases x<;>first|(cases r;done)|(have⟨t,e⟩:=r;cases e)
set_option tactic.hygienic true in
def Hy(r:RelV x v):decide (x=.bl b)=(v==Ut b):=by
 cases x<;>first
  |(cases r;rename_i c;cases b<;>cases c<;>rfl)
  |(cases r;rfl)
  |(have⟨t,rfl⟩:=r;rfl)
def SR:OpR X (Y1 .Is) (λx y H Q=>∃b,y=.bl b/\Q (.bl (decide (x=.bl b))) H):=by
 intro pj s σ H x y v u Q I j l h;have⟨b,rfl,q⟩:=h;cases l;erw[SO (Hx j) (XG I q (Hy j))]
def SS:OpR X (Y1 .IsNot) (λx y H Q=>∃b,y=.bl b/\Q (.bl (!decide (x=.bl b))) H):=by
 intro pj s σ H x y v u Q I j l h;have⟨b,rfl,q⟩:=h;cases l;erw[SQ (Hx j) (XG I q (by rw[Hy j]))]
def SU{t:Value}(I:Inv X pj σ H s)(w:RelV x u)(ty:TyOf X.K H x t)(e:UR X.K t c=wc b)(R:UR X.K t d=wc b')
  (j:s.heap.get? tp=wc ⟨.type "tuple",dd,.seq [c,d].toArray n,sl⟩)(h:∀T,Q (.bool (b||b')) {s with toks:=T}):X3 (X4 X.prog X.w) A (call (.builtin "isinstance") [u,.ref tp]) Q E s:=by
 have m:AS X.K t [c,d]=wc (b||b'):=by
  unfold AS;rw[e];cases b with
  |true=>rfl
  |false=>
   show AS X.K t [d]=wc b';unfold AS;rw[R];cases b'<;>rfl
 cases ty with
 |non=>cases(show u=Us from w);erw[Zr PySem.W.kitx_none I.kIn YE j m (λz=>nomatch z) h]
 |bl y=>cases(show u=Ut y from w);erw[Zr PySem.W.kitx_bool I.kIn YE j m (λz=>nomatch z) h]
 |int i=>have⟨t,q⟩:=(show∃t,u=Vx i t from w);cases q;erw[Zr PySem.W.kitx_int I.kIn YE j m (λz=>nomatch z) h]
 |str y=>have⟨t,q⟩:=(show∃t,u=YR y t from w);cases q;erw[Zr PySem.W.kitx_str I.kIn YE j m (λz=>nomatch z) h]
 |flt y=>have⟨t,q⟩:=(show∃t,u=Bd y t from w);cases q;erw[Zr PySem.W.kitx_float I.kIn YE j m (λz=>nomatch z) h]
 | @lst a r l=>
  cases(show u=Xt a from w);have⟨_,_,n,_,g⟩:=(show ObjOk X.prog X.w H s.heap a (.lst r)from I.hok a _ l);erw[Zr AM I.kIn ⟨_,g,rfl⟩ j m (λz=>nomatch z) h]
 | @frz a U r l=>
  cases(show u=Xt a from w);have⟨_,_,_,n,_,g⟩:=(show ObjOk X.prog X.w H s.heap a (.frz U (.lst r))from I.hok a _ l);erw[Zr AM I.kIn ⟨_,g,rfl⟩ j m (λz=>nomatch z) h]
 | @tup a r l=>
  cases(show u=Xt a from w);have⟨_,_,_,p⟩:=(show ObjOk X.prog X.w H s.heap a (.tup r)from I.hok a _ l);have⟨o,g,L,_⟩:=p.1;erw[Zr PySem.W.kitx_tuple I.kIn ⟨o,g,L⟩ j m (λz=>nomatch z) h]
 | @dK a f l=>
  cases(show u=Xt a from w);have⟨_,_,F,_,p⟩:=(show ObjOk X.prog X.w H s.heap a (.dK f)from I.hok a _ l);have⟨o,W,Y,g,L,_⟩:=p;erw[Zr AN I.kIn ⟨o,g,L.1⟩ j m (λz=>nomatch z) h]
 | @dT a f l=>
  cases(show u=Xt a from w);have⟨_,_,r,_,o,W,Y,g,L,_⟩:=(show ObjOk X.prog X.w H s.heap a (.dT f)from I.hok a _ l);erw[Zr AN I.kIn ⟨o,g,L.1⟩ j m (λz=>nomatch z) h]
 | @ins a C G fs l P Z B N D=>
  cases(show u=Xt a from w);have⟨M,O,_⟩:=WI I.hok l;have⟨S,J,_⟩:=O.look;erw[Zr (PySem.W.kitx_own (P.get _) P.hd Z B N D) I.kIn J j m (λz=>nomatch z) h]
def SV:Yw X (.builtin "isinstance") (fun w H Q=>∃x a c d t b j,w=[x,.ref a]/\H a=wc (.tup [.ty c,.ty d])/\TyOf X.K H x t/\UR X.K t (.type c)=wc b/\UR X.K t (.type d)=wc j/\Q (.bl (b||j)) H):=by
 intro pj s σ H w Y Q I r h;have⟨x,a,c,d,t,b,j,rfl,m,ty,e,g,q⟩:=h;have⟨u,Z,rfl,f,l⟩:=WH r;cases l;have⟨L,N,p,_⟩:=I.tuple (SqT.of (K:=X.K) m);have⟨⟨O,A,y,B⟩,P,z,n,hd⟩:=id p;simp only at z hd;subst z hd;cases N with
 |cons r1 R=>
  cases R with
  |cons T U=>
   cases U;cases r1;cases T;erw[SU I f ty e g P λW=>⟨.bl (b||j),H,I.tok W,rfl,q⟩]
end
section
variable{X:Cx}
end
end L2
namespace L2
end L2
namespace L2
open PySem PySem.Spec PyProof.Rows
noncomputable def cutS(x:Str)(lo j:Option Int):Str:=⟨((x.cps.toList.drop (HT.sIx x.cps.toList.length 0 lo)).take (HT.sIx x.cps.toList.length x.cps.toList.length j - HT.sIx x.cps.toList.length 0 lo)).toArray⟩
def Hz(x:Str)(lo j:Option Int):(cutS x lo j).length<=x.length:=by
 unfold cutS Bq;simp only[XJ,Ys,Wn,Yb];lia
def SW(x:Str)(lo j:Option Int):((Bk lo j 1 x.length).filterMap (x.cps[·]?)).toArray=(cutS x lo j).cps:=by
 have⟨l,t,u⟩:=Dq lo j x.length;have e:Bk lo j 1 x.length=sliceRange (YX lo j we x.length).1 (YX lo j we x.length).2.1 (YX lo j we x.length).2.2:=rfl;have w:x.cps.toList.length=x.length:=by simp[Bq]
 rw[e,l,t,u,sliceRange_one,pick_run];unfold cutS;rw[w]
def SX{lo:Option Int}(h:(Bk lo hi 1 x.length).length=x.length):cutS x lo hi=x:=by
 have⟨l,t,u⟩:=Dq lo hi x.length;have e:Bk lo hi 1 x.length=sliceRange (YX lo hi we x.length).1 (YX lo hi we x.length).2.1 (YX lo hi we x.length).2.2:=rfl;have w:x.cps.toList.length=x.length:=by simp[Bq]
 rw[e,l,t,u,sliceRange_one,X7,ZW]at h;unfold cutS;rw[w];have y:HT.sIx x.length x.length hi<=x.length:=by
  unfold HT.sIx;cases hi with
  |none=>erw[Xc _]
  |some i=>dsimp only;split<;>lia
 have⟨j⟩:=x;congr 1;have m:∀(n a b:Nat),b<=n->b - a=n->n=0\/a=0:=by lia
 rcases m _ _ _ y h with z|z
 .have:j.toList=[]:=by
   rw[<-Ay];rw[Yb];erw[z]
  simp[this];have:j=#[]:=by apply Array.toList_inj.mp;simpa using this
  rw[this]
 .rw[h,z,CT,UO (by rw[Yb];erw[Xc _])]
section
variable{X:Cx}
def rSlS:V->Option Int->Option Int->Hp->VK->Prop:=λx lo j H Q=>∃z:Str,x=.str z/\z.length<=sizeLine/\Q (.str (cutS z lo j)) H
def HA(h:IsPart v o):∃l:Option (Int×Tok),v=partValue l/\l.map (·.1)=o:=by
 cases h with
 |none=>erw[⟨we,rfl,rfl⟩]
 |int i t=>erw[⟨wc (i,t),rfl,rfl⟩]
def SY:SlR X rSlS:=by
 intro d s c H x v f r lo p L Q I j w y m h;have⟨z,rfl,g,q⟩:=h;have⟨t,rfl⟩:=j;have⟨l,rfl,rfl⟩:=HA y;have⟨u,rfl,rfl⟩:=HA m;erw[⟨"str",_,slot_str_getitem.lookup,typeIs_str s z t,?_⟩];erw[wpAny_getItem_str_slice (l:=l) (u:=u) (st:=we) w rfl ?_];unfold sliceMade;by_cases hc:(((we:Option (Int×Tok)).map (·.1)).getD 1==1&&(slicePicked z l u we).length==z.length)=wf
 .rw[if_pos hc];have e:cutS z (l.map (·.1)) (u.map (·.1))=z:=by
   erw[SX ?_];rw[Xs]at hc;erw[eq_of_beq hc.2]
  rw[e]at q;erw[⟨.str z,H,I,⟨_,rfl⟩,q⟩]
 .rw[if_neg hc];have e:(⟨((slicePicked z l u we).filterMap (z.cps[·]?)).toArray⟩:Str)=cutS z (l.map (·.1)) (u.map (·.1)):=by
   have:=SW z (l.map (·.1)) (u.map (·.1));unfold slicePicked;rw[show((we:Option (Int×Tok)).map (·.1)).getD 1=(1:Int)from rfl,this]
  rw[e];erw[⟨XA (Hz _ _ _) g,.str _,H,I.tok _,⟨_,rfl⟩,q⟩]
end
theorem HB:∀{l:List V} {t:List Value},l.length=t.length->(∀(j:Nat)x v,l[j]?=wc x->t[j]?=wc v->RelV x v)->Vals l t
 |[],[],_,_=>.nil
 |[],_::_,h,_=>by cases h
 |_::_,[],h,_=>by cases h
 |x::l,v::t,h,r=>.cons (r 0 x v rfl rfl) (HB (by simpa using h) λj a b u w=>r (j+1) a b (by simpa using u) (by simpa using w))
def SZ(h:ItemsOf (λi v=>∃t,v=.int (0+i*1) t) acc n):Vals ((Xr n).map λi=>V.int (i:Nat)) acc.toList:=by
 erw[HB (by rw[X7,ZW,Yb];erw[h.1.symm]) λj x v l u=>?_]
 have⟨t,rfl⟩:=h.2 j v (by simpa using u)
 rw[Xl]at l;cases e:(Xr n)[j]? with
 |none=>rw[e]at l;cases l
 |some k=>
  rw[e]at l;have w:k=j:=by
   have:=XF.mp e;have⟨_,z⟩:=this
   simpa using z.symm
  subst w;cases l;erw[⟨t,by rw[Wz,Int.mul_one]⟩]
section
variable{X:Cx}{tg:Expr}
def T0(j:X.calm=wf):WQ X (.type "list") (.type "range") (fun x H Q=>∃n:Nat,x=.int n/\n<=1000000/\∀p,H p=we->Q (.ref p) (upd H p (.lst ((Xr n).map fun i=>V.int (i:Nat))))):=by
 intro N s O H x u Q I y h;have⟨n,rfl,z,q⟩:=h;have⟨t,rfl⟩:=y;erw[call_range_1 ?_];have m:((Xr n).map λi=>V.int (i:Nat)).length<=sizeLine:=by rw[X7,ZW];erw[XA z (by decide)]
 have g:=I.ok.hd j;erw[call_list_range (n:=n) g (IsRange.new ..) ?_ ?_ (by lia) λd c l f r e L=>?_]
 .erw[small_one (by decide) (by decide) (by lia) (by lia)]
 .rw[rangeSize_one];split<;>lia
 have w:=I.kept (h':=s.heap.push {cls:=.type "range",data:=.fields #[.int 0 s.toks,.int (n:Int) t,.int 1 (s.toks+1)]}) (t':=s.toks+1+1) fun b o e=>Xw _ e;erw[⟨.ref _,_,w.laid (t':=c) r (Xc _) (show ObjOk X.prog X.w _ d _ (.lst ((Xr n).map λi=>V.int (i:Nat)))from⟨m,l.toList,f,SZ L,by simpa using e⟩),rfl,q _ (w.hok.fresh (Xc _))⟩]
def T1{x y:Str}{id T:String}{r:V->Hp->VK->Prop}{e:Expr}{t:TE}{p N l j:Pos}(R:WQ X (.type id) (.type T) r)
  (U:Gl X x)(W:X.mg x=we)(Y:Ym x=wc (.type id))(m:Gl X y)(g:X.mg y=we)(d:Ym y=wc (.type T))(Z:PE X e t)
  (A:x≠"__name__")(c:(x==("__debug__":Str))=wg)(f:y≠"__name__")(w:(y==("__debug__":Str))=wg)
  (O:Xm [e] X.env=(wg,eval e X.env)::Xm [] X.env):
  PE X (.Call (.Name x p) [.Call (.Name y N) [e] [] j] [] l) (λz H Q=>t z H λv L=>r v L Q):=by
 intro P s z H Q I h;erw[ZR (U7 I U W Y ?_ A c)];erw[WC ?_ rfl rfl];show X3 _ _ (spliced ((wg,eval (.Call (.Name y N) [e] [] j) X.env)::XV l (Xm [] X.env))) _ _ s;erw[WD ?_];erw[ZR (U7 I m g d ?_ f w)];erw[WC ?_ O rfl];rw[O];show X3 _ _ (spliced ((wg,eval e X.env)::XV j (Xm [] X.env))) _ _ s;erw[WD (thn (Z P s z H _ I h) λu B C=>?_)];have⟨v,L,D,r1,E⟩:=C;erw[WE ?_];erw[thn (R P B z L v u Q D r1 E) λG J F=>WE F]
end
section
variable{prog:Xk}{w:Xe}{A:Xp}{R:Result->X0->Prop}{I:Addr}{fp wr:List Addr}{n:Nat}{P:Nat->Value->Prop}{St:Nat->Heap->Prop}
end
section
variable{prog:Xk}{w:Xe}{A:Xp}{E:Value->X0->Prop}{s:X0}
end
section
variable{X:Cx}{x k:Str}{p pos kp:Pos}{e e0:Expr}{te:TE}
end
end L2
namespace HT
open PySem PySem.Spec PyProof.Rows
section
variable{prog:Xk}{w:Xe}{A:Xp}{E:Value->X0->Prop}{s:X0}
def tup_whole{t:Addr}{items:Array Value}{lo:Option Int}(z:IsTup s.heap t items)(m:s.heap.IsSliceOf sl vl vu .none)(pl:IsPart vl lo)(g:IsPart vu hi)
  (d:sIx items.size 0 lo=0)(c:sIx items.size items.size hi=items.size)(h:Q (.ref t) s):X3 (X4 prog w) A (getItem (.ref t) (.ref sl)) Q E s:=by
 have⟨os,l,u,f⟩:=id m;have y:s.TypeIs (.ref sl) "slice":=⟨os,l,u⟩;have j:=z.typeIs;unfold getItem
 try with_reducible erw[YI ?_]
 first|erw[X2 (X8 ?_)]|skip
 erw[X2 (wpAny_sequenceKey j (by decide) ?_)]
 erw[X2 (At (name:=VC "__getitem__") j VA (Zn VA j entry_tuple_getitem ?_ (args_tuple_getitem _ _)))];show X3 _ _ (Fw (.ref t)>>= _) _ _ s;erw[X2 (tupleItemsOf_ z ?_)];erw[X2 (UL y ?_)];rw[if_pos (by decide)]
 erw[X2 (Gy m pl g ?_)];rw[d,c];show X3 _ _ (if(((0:Nat):Int)==0&&(1:Int)==1&&(items.size - 0)==items.size)=wf then _ else _) _ _ s;rw[if_pos (by simp)]
 erw[X2 ?_];show X3 _ _ (Fy (.ref t)) _ _ s;unfold Fy;erw[X2 (UL j (X8 ?_))];rw[if_pos (by decide)]
 erw[X2 (Vk (X8 ⟨_,rfl,X8 h⟩))]
end
end HT
namespace L2
open PySem PySem.Spec PyProof.Rows
section
variable{X:Cx}
def rSlW(K:X1):V->Option Int->Option Int->Hp->VK->Prop:=λx lo l H Q=>∃a j,x=.ref a/\SqT K H a j/\HT.sIx j.length 0 lo=0/\HT.sIx j.length j.length l=j.length/\Q (.ref a) H
def T3:SlR X (rSlW X.K):=by
 intro f s p H x v e L lo N O Q I u w y z h;have⟨a,m,rfl,g,d,c,q⟩:=h;cases u;have⟨l,r,t,P⟩:=I.tuple g;have j:l.toArray.size=m.length:=by rw[XJ];erw[r.length.symm]
 erw[⟨"tuple",_,VA.lookup,t.typeIs,?_⟩];erw[HT.tup_whole t w y z (by rw[j];erw[d]) (by rw[j];erw[c]) ⟨.ref a,H,I,rfl,q⟩]
end
noncomputable def st3{j:Type}(l:List j):List j:=(Xr ((l.length+2)/3)).filterMap λk=>l[3*k]?
section
variable{X:Cx}{e e3:Expr}{te:TE}{p2 pos:Pos}
end
section
variable{X:Cx}
end
open AutoSeq1 (wpAny_loadPart')
open MeetsSeq MeetsSeq2 MeetsSeq3 SeqRoads2
section
variable{A:Xp}{s:X0}{a b:Addr}
end
section
variable{X:Cx}
end
end L2
namespace L2
open PySem PySem.Spec PyProof.Rows
inductive Ty7 where|int|bool|str|list|tuple|dict|none
  deriving DecidableEq
noncomputable def Ty7.name:Ty7->String
 |.int=>"int"|.bool=>"bool"|.str=>"str"|.list=>"list"|.tuple=>"tuple"|.dict=>"dict"|.none=>"NoneType"
inductive MV where
 |non|bl (b:Bool)|int (i:Int)|str (x:Str)|tup (xs:List MV)|frl (xs:List MV)|ref (a:Addr)|ty (n:Ty7)
noncomputable def HC:HO->Bool
 |.tup _=>wf
 |.frz _ (.lst _)=>wf
 |_=>wg
def Kp(H j:Hp):Prop:=∀a o,H a=wc o->HC o=wf->j a=wc o
def Kp.refl(H:Hp):Kp H H:=λ_ _ h _=>h
def Kp.trans(a:Kp H H1)(b:Kp H1 H2):Kp H H2:=λc o h f=>b c o (a c o h f) f
def Kp.new{H:Hp}{p:Addr}(h:H p=we)(o:HO):Kp H (upd H p o):=λa u e _=>by rw[XQ (V3 e h)];erw[e]
theorem Kp.upd{H:Hp}{p:Addr}{o:HO}(h:H p=wc o)(f:HC o=wg)(j:HO):Kp H (upd H p j):=λa u e g=>by
 rw[XQ (G2 e h (by intro z;rw[z,f]at g;cases g))];erw[e]
def FrL(K:X1)(H:Hp)(a:Addr)(l:List V):Prop:=(∃o,H a=wc (.frz o (.lst l)))\/
 ∃(o:Obj) (j:Array Value) (n:Nat),K.lookup a=wc o/\o.cls=.type "list"/\o.dict=we/\o.data=.seq j n/\j.size<=sizeLine/\Vals l j.toList
def FrL.sq{K:X1}(h:FrL K H a vs):SqL K H a vs:=by
 rcases h with⟨o,h⟩|h
 .erw[.inl (.inr ⟨o,h⟩)]
 .erw[.inr h]
mutual
inductive RM (K:X1)(H:Hp):MV->V->Prop
 |non:RM K H .non .non
 |bl (b:Bool):RM K H (.bl b) (.bl b)
 |int (i:Int):RM K H (.int i) (.int i)
 |str (x:Str):RM K H (.str x) (.str x)
 |ref (a:Addr):RM K H (.ref a) (.ref a)
 |ty (n:Ty7):RM K H (.ty n) (.ty n.name)
 |tup {a:Addr} {xs:List MV} {vs:List V}:H a=some (.tup vs)->RMs K H xs vs->RM K H (.tup xs) (.ref a)
 |frl {a:Addr} {xs:List MV} {vs:List V}:FrL K H a vs->RMs K H xs vs->RM K H (.frl xs) (.ref a)
inductive RMs (K:X1)(H:Hp):List MV->List V->Prop
 |nil:RMs K H [] []
 |cons {x:MV} {v:V} {xs:List MV} {vs:List V}:RM K H x v->RMs K H xs vs->RMs K H (x::xs) (v::vs)
end
mutual
theorem RM.mono{K:X1}(k:Kp H H'):∀{m:MV} {v:V},RM K H m v->RM K H' m v
 |_,_,.non=>.non
 |_,_,.bl b=>.bl b
 |_,_,.int i=>.int i
 |_,_,.str x=>.str x
 |_,_,.ref a=>.ref a
 |_,_,.ty n=>.ty n
 |_,_,.tup h r=>.tup (k _ _ h rfl) (RMs.mono k r)
 |_,_,.frl h r=>.frl (by
   rcases h with⟨o,h⟩|h
   .erw[.inl ⟨o,k _ _ h rfl⟩]
   .erw[.inr h]) (RMs.mono k r)
theorem RMs.mono{K:X1}(k:Kp H H'):∀{m:List MV} {v:List V},RMs K H m v->RMs K H' m v
 |_,_,.nil=>.nil
 |_,_,.cons a b=>.cons (RM.mono k a) (RMs.mono k b)
end
def T5(K:X1)(H:Hp)(v:V):MV->Prop
 |.non=>v=.non
 |.bl b=>v=.bl b
 |.int i=>v=.int i
 |.str x=>v=.str x
 |.tup xs=>∃a j,v=.ref a/\H a=wc (.tup j)/\RMs K H xs j
 |.frl xs=>∃a j,v=.ref a/\FrL K H a j/\RMs K H xs j
 |.ref a=>v=.ref a
 |.ty n=>v=.ty n.name
def RM.inv{K:X1}{H:Hp}{m:MV}{v:V}(r:RM K H m v):T5 K H v m:=by
 cases r with
 |tup h q=>erw[⟨_,_,rfl,h,q⟩]
 |frl h q=>erw[⟨_,_,rfl,h,q⟩]
 |_=>rfl
def T7(K:X1)(H:Hp)(j:List V):List MV->Prop
 |[]=>j=[]
 |x::xs=>∃v l,j=v::l/\RM K H x v/\RMs K H xs l
def RMs.inv{K:X1}{H:Hp}{m:List MV}{v:List V}(r:RMs K H m v):T7 K H v m:=by
 cases r with
 |nil=>rfl
 |cons a b=>erw[⟨_,_,rfl,a,b⟩]
theorem RMs.length{K:X1}{H:Hp}{m:List MV}{v:List V}(h:RMs K H m v):m.length=v.length:=by
 induction m generalizing v with
 |nil=>obtain rfl:=h.inv;rfl
 |cons x m j=>
  have⟨_,_,rfl,_,b⟩:=h.inv;rw[Yr,Yr,j b]
theorem RMs.get{K:X1}:∀{m:List MV} {v:List V} {i:Nat} {x:MV},RMs K H m v->m[i]?=wc x->∃u,v[i]?=wc u/\RM K H x u
 |_,_,_,_,.nil,e=>by simp at e
 |_,_,0,_,.cons r _,e=>by simp at e;subst e;erw[⟨_,rfl,r⟩]
 |_,_,i+1,x,.cons _ t,e=>by
  have⟨u,j,l⟩:=RMs.get (i:=i) (x:=x) t (by simpa using e)
  erw[⟨u,by simpa using j,l⟩]
theorem RMs.get'{K:X1}:∀{m:List MV} {v:List V} {i:Nat} {u:V},RMs K H m v->v[i]?=wc u->∃x,m[i]?=wc x/\RM K H x u
 |_,_,_,_,.nil,e=>by simp at e
 |_,_,0,_,.cons r _,e=>by simp at e;subst e;erw[⟨_,rfl,r⟩]
 |_,_,i+1,x,.cons _ t,e=>by
  have⟨u,j,l⟩:=RMs.get' (i:=i) (u:=x) t (by simpa using e)
  erw[⟨u,by simpa using j,l⟩]
def RMs.append{K:X1}{H:Hp}{m j:List MV}{v l:List V}(h:RMs K H m v)(s:RMs K H j l):RMs K H (m++j) (v++l):=by
 induction m generalizing v with
 |nil=>obtain rfl:=h.inv;erw[s]
 |cons x m t=>
  have⟨_,_,rfl,a,b⟩:=h.inv;erw[.cons a (t b)]
theorem RMs.take{K:X1}:∀{m:List MV} {v:List V} (n:Nat),RMs K H m v->RMs K H (m.take n) (v.take n)
 |_,_,0,_=>.nil
 |_,_,_+1,.nil=>.nil
 |_,_,n+1,.cons r t=>.cons r (t.take n)
theorem RMs.drop{K:X1}:∀{m:List MV} {v:List V} (n:Nat),RMs K H m v->RMs K H (m.drop n) (v.drop n)
 |_,_,0,r=>r
 |_,_,_+1,.nil=>.nil
 |_,_,n+1,.cons _ t=>t.drop n
theorem RMs.set{K:X1}(r:RM K H x u):∀{m:List MV} {v:List V} (i:Nat),RMs K H m v->RMs K H (m.set i x) (v.set i u)
 |_,_,_,.nil=>.nil
 |_,_,0,.cons _ t=>.cons r t
 |_,_,i+1,.cons q t=>.cons q (t.set r i)
theorem RMs.ints{K:X1}:∀j:List Int,RMs K H (j.map MV.int) (j.map V.int)
 |[]=>.nil
 |n::r=>.cons (.int n) (RMs.ints r)
def RMs.map_of{K:X1}{H:Hp}{u:Type}{f:u->MV}{g:u->V}(w:∀a v,RM K H (f a) v->v=g a):∀{l:List u} {j:List V},RMs K H (l.map f) j->j=l.map g:=by
 intro l
 induction l with
 |nil=>intro j h;cases h;rfl
 |cons n r y=>
  intro j h;have h:RMs K H (f n::r.map f) j:=h;cases h with
  |cons x t=>rw[y t,w _ _ x];rfl
inductive MO where
 |lst (xs:List MV)|dic (kvs:List (Key×MV))|ins (c:Str)(fs:List (Str×MV))
 |fdic (o:Obj)(kvs:List (Key×MV))
noncomputable abbrev MH:=Addr->Option MO
noncomputable def updM(M:MH)(a:Addr)(o:MO):MH:=λb=>if b=a then wc o else M b
def Xa:updM M a o a=wc o:=by unfold updM;rw[if_pos rfl]
def X9(h:b≠a):updM M a o b=M b:=by unfold updM;rw[if_neg h]
def YF:updM (updM M a o) a u=updM M a u:=by funext b;unfold updM;split<;>rfl
inductive RKs {κ:Type} (K:X1)(H:Hp):List (κ×MV)->List (κ×V)->Prop
 |nil:RKs K H [] []
 |cons {k:κ} {x:MV} {v:V} {xs:List (κ×MV)} {vs:List (κ×V)}:RM K H x v->RKs K H xs vs->RKs K H ((k,x)::xs) ((k,v)::vs)
theorem RKs.mono{j:Type}{K:X1}{H l:Hp}(k:Kp H l){m:List (j×MV)}{v:List (j×V)}(h:RKs K H m v):RKs K l m v:=by
 induction h with
 |nil=>erw[.nil]
 |cons a _ t=>erw[.cons (a.mono k) t]
theorem RKs.length{j:Type}{K:X1}{H:Hp}{m:List (j×MV)}{v:List (j×V)}(h:RKs K H m v):m.length=v.length:=by
 induction h with
 |nil=>rfl
 |cons _ _ l=>rw[Yr,Yr,l]
section
variable{κ:Type} [DecidableEq κ]
noncomputable def valM(l:List (κ×MV))(k:κ):Option MV:=match l with
 |[]=>we
 |(j,v)::r=>if j=k then wc v else valM r k
noncomputable def putM(l:List (κ×MV))(k:κ)(v:MV):List (κ×MV):=match l with
 |[]=>[(k,v)]
 |(j,u)::r=>if j=k then(j,v)::r else(j,u)::putM r k v
end
def RO(K:X1)(H:Hp):MO->HO->Prop
 |.lst xs,.lst vs=>RMs K H xs vs
 |.dic kvs,.dK vs=>RKs K H kvs vs/\(kvs.map (·.1)).Nodup
 |.ins c fs,.ins C _ vs=>Xn K Xi c=wc (wc (.ref C))/\RKs K H fs vs
 |.fdic o kvs,.frz o' (.dK vs)=>o=o'/\RKs K H kvs vs/\(kvs.map (·.1)).Nodup
 |_,_=>False
theorem RO.mono{K:X1}(k:Kp H H')(h:RO K H o u):RO K H' o u:=by
 cases o with
 |lst l=>cases u<;>first|erw[RMs.mono k h]|erw[h.elim]
 |dic j=>cases u<;>first|erw[⟨h.1.mono k,h.2⟩]|erw[h.elim]
 |ins c fs=>cases u<;>first|erw[⟨h.1,h.2.mono k⟩]|erw[h.elim]
 |fdic t j=>
  cases u with
  |frz w u=>cases u<;>first|erw[⟨h.1,h.2.1.mono k,h.2.2⟩]|erw[h.elim]
  |_=>erw[h.elim]
def RH(K:X1)(M:MH)(H:Hp):Prop:=∀a o,M a=wc o->∃u,H a=wc u/\RO K H o u
def RH.free{K:X1}(r:RH K M H)(h:H p=we):M p=we:=by
 cases e:M p with
 |none=>rfl
 |some o=>have⟨u,j,_⟩:=r p o e;rw[j]at h;cases h
theorem RH.lst{K:X1}(r:RH K M H)(h:M p=wc (.lst xs)):∃vs,H p=wc (.lst vs)/\RMs K H xs vs:=by
 have⟨u,l,j⟩:=r p _ h;cases u<;>try erw[j.elim]
 erw[⟨_,l,j⟩]
theorem RH.dic{K:X1}(r:RH K M H)(h:M p=wc (.dic xs)):∃vs,H p=wc (.dK vs)/\RKs K H xs vs/\(xs.map (·.1)).Nodup:=by
 have⟨u,l,j⟩:=r p _ h;cases u<;>try erw[j.elim]
 erw[⟨_,l,j.1,j.2⟩]
theorem RH.fdic{K:X1}(r:RH K M H)(h:M p=wc (.fdic o xs)):∃l,H p=wc (.frz o (.dK l))/\RKs K H xs l/\(xs.map (·.1)).Nodup:=by
 have⟨u,t,j⟩:=r p _ h;cases u with
 |frz y u=>
  cases u<;>try erw[j.elim]
  have⟨rfl,r1,w⟩:=j;erw[⟨_,t,r1,w⟩]
 |_=>erw[j.elim]
theorem RH.ins{K:X1}(r:RH K M H){fs:List (Str×MV)}(h:M p=wc (.ins c fs)):∃C l vs,H p=wc (.ins C l vs)/\Xn K Xi c=wc (wc (.ref C))/\RKs K H fs vs:=by
 have⟨u,t,j⟩:=r p _ h;cases u<;>try erw[j.elim]
 erw[⟨_,_,_,t,j.1,j.2⟩]
def BK{K:X1}{H:Hp}{f:Str}{m:List (Str×MV)}{v:List (Str×V)}(h:RKs K H m v):(valM m f=we/\v.lookup f=we)\/∃x u,valM m f=wc x/\v.lookup f=wc u/\RM K H x u:=by
 induction h with
 |nil=>erw[.inl ⟨rfl,rfl⟩]
 | @cons j x u _ _ r t this=>
  by_cases e:j=f
  .erw[.inr ⟨x,u,?_,?_,r⟩]
   .unfold valM;rw[if_pos e]
   .subst e;simp
  .have l:(f==j)=wg:=by simpa using λz=>e z.symm
   unfold valM;rw[if_neg e,Zp,l];erw[this]
def T8{K:X1}{H:Hp}{f:Str}{x:MV}{u:V}(r:RM K H x u){m:List (Str×MV)}{v:List (Str×V)}(h:RKs K H m v):RKs K H (putM m f x) (putF f u v):=by
 induction h with
 |nil=>erw[.cons r .nil]
 | @cons j _ _ _ _ q t l=>
  unfold putM putF;by_cases e:j=f
  .rw[if_pos e,if_pos e];erw[.cons r t]
  .rw[if_neg e,if_neg e];erw[.cons q l]
def RH.put{K:X1}(r:RH K M H)(k:Kp H (upd H p u))(j:RO K (upd H p u) o u):RH K (updM M p o) (upd H p u):=by
 intro a l e;by_cases h:a=p
 .subst h;rw[Xa]at e;cases e;erw[⟨u,_G,j⟩]
 .rw[X9 h]at e;have⟨v,t,w⟩:=r a l e;erw[⟨v,by rw[XQ h];erw[t],w.mono k⟩]
def RH.kept{K:X1}{M:MH}{H:Hp}(r:RH K M H){p:Addr}(j:H p=we)(u:HO):RH K M (upd H p u):=by
 intro a t e;have⟨v,l,w⟩:=r a t e;erw[⟨v,by rw[XQ (V3 l j)];erw[l],w.mono (Kp.new j u)⟩]
noncomputable abbrev Sm:=List (Option MV)
abbrev QM:=MV->MH->Prop
abbrev TEm:=Sm->MH->QM->Prop
abbrev TAm:=Sm->MH->(List MV->MH->Prop)->Prop
def RS(K:X1)(H:Hp)(j:Sm)(l:St):Prop:=j.length=l.length/\∀(i:Nat)(m:MV),j[i]?=wc (wc m)->∃v,l[i]?=wc (wc v)/\RM K H m v
theorem RS.mono{K:X1}(k:Kp H H')(h:RS K H σm σ):RS K H' σm σ:=⟨h.1,λi m e=>by
 have⟨v,j,r⟩:=h.2 i m e;erw[⟨v,j,r.mono k⟩]⟩
theorem RS.set{K:X1}(h:RS K H σm σ)(r:RM K H m v)(i:Nat):RS K H (σm.set i (wc m)) (σ.set i (wc v)):=by
 erw[⟨by simp[h.1],λj x e=>?_⟩]
 rw[Zd]at e;by_cases hij:i=j
 .subst hij;rw[if_pos rfl]at e;split at e
  .cases e;erw[⟨v,by rw[Zd,if_pos rfl,if_pos (by rw[<-h.1];assumption)],r⟩]
  .cases e
 .rw[if_neg hij]at e;have⟨u,l,t⟩:=h.2 j x e;erw[⟨u,by rw[Zd,if_neg hij];erw[l],t⟩]
def Dn(K:X1)(H:Hp)(Q:VK):QM:=λm M=>∀v j,Kp H j->RM K j m v->RH K M j->Q v j
def Dn.on{K:X1}(k:Kp H H1)(h:Dn K H Q m M):Dn K H1 Q m M:=λv j l r t=>h v j (k.trans l) r t
def liE(K:X1)(t:TEm):TE:=λl H Q=>∃j M,RS K H j l/\RH K M H/\t j M (Dn K H Q)
def liA(K:X1)(t:TAm):TA:=λw H Q=>∃j M,RS K H j w/\RH K M H/\t j M (λy z=>∀u l,Kp H l->RMs K l y u->RH K z l->Q u l)
def MonE(t:TEm):Prop:=∀{j M} {Q l:QM},(∀m u,Q m u->l m u)->t j M Q->t j M l
def MonA(t:TAm):Prop:=∀{j M} {Q l:List MV->MH->Prop},(∀m u,Q m u->l m u)->t j M Q->t j M l
abbrev W1:=MV->MH->QM->Prop
abbrev W2:=MV->MV->MH->QM->Prop
abbrev WA:=List MV->MH->QM->Prop
def Mon1(w:W1):Prop:=∀{x M} {Q j:QM},(∀m l,Q m l->j m l)->w x M Q->w x M j
def Mon2(w:W2):Prop:=∀{x y M} {Q j:QM},(∀m l,Q m l->j m l)->w x y M Q->w x y M j
def MonW(w:WA):Prop:=∀{j M} {Q l:QM},(∀m t,Q m t->l m t)->w j M Q->w j M l
def li1(K:X1)(w:W1):V->Hp->VK->Prop:=λx H Q=>∃j M,RM K H j x/\RH K M H/\w j M (Dn K H Q)
def li2(K:X1)(w:W2):R2:=λx y H Q=>∃j l M,RM K H j x/\RM K H l y/\RH K M H/\w j l M (Dn K H Q)
def liW(K:X1)(w:WA):List V->Hp->VK->Prop:=λl H Q=>∃j M,RMs K H j l/\RH K M H/\w j M (Dn K H Q)
section
variable{K:X1}
def DA{t z:TEm}{w:W2}(p:MonE t)(e:MonE z)(L:Mon2 w){j:St}{H:Hp}{Q:VK}
  (h:liE K (λj M Q=>t j M λx M1=>z j M1 λy M2=>w x y M2 Q) j H Q):tOp (li2 K w) (liE K t) (liE K z) j H Q:=by
 have⟨l,M,c,N,h⟩:=h;erw[⟨l,M,c,N,p (λx M1 O=>?_) h⟩];intro v U f r1 g;erw[⟨l,M1,c.mono f,g,e (λy M2 P=>?_) O⟩];intro u W r R d;erw[⟨x,y,M2,r1.mono r,R,d,L (λm Y T=>T.on (f.trans r)) P⟩]
end
def PE.weak{t:TE}(h:PE X e t)(i:∀j H Q,t' j H Q->t j H Q):PE X e t':=λl s j H Q I q=>h l s j H Q I (i _ _ _ q)
def PT.weak{t:TT}(h:PT X e t)(i:∀j H Q,t' j H Q->t j H Q):PT X e t':=λl s j H Q I q=>h l s j H Q I (i _ _ _ q)
def PW.weak{t:TT}(h:PW X e t)(i:∀j H Q,t' j H Q->t j H Q):PW X e t':=λl u s j H Q I q=>h l u s j H Q I (i _ _ _ q)
def PA.weak{t:TA}(h:PA X e t)(i:∀j H Q,t' j H Q->t j H Q):PA X e t':=λl u s j H Q I q=>h l u s j H Q I (i _ _ _ q)
def PS.weak{t:TS}(h:PS X e t)(i:∀D j H,t' D j H->t D j H):PS X e t':=λl s j H D I q=>h l s j H D I (i _ _ _ q)
def PSs.weak{t:TS}(h:PSs X e t)(i:∀D j H,t' D j H->t D j H):PSs X e t':=λl s j H D I q=>h l s j H D I (i _ _ _ q)
def intsM(k:Int->Int->Prop)(x y:MV):Prop:=match x,y with
 |.int i,.int j=>k i j
 |_,_=>False
def intsM.of{k:Int->Int->Prop}{x y:MV}(h:intsM k x y):∃i j,x=.int i/\y=.int j/\k i j:=by
 unfold intsM at h;split at h
 .erw[⟨_,_,rfl,rfl,h⟩]
 .erw[h.elim]
def addM(x y:MV)(M:MH)(Q:QM):Prop:=match x,y with
 |.int i,.int j=>Q (.int (i+j)) M
 |.str i,.str j=>i.length+j.length<=sizeLine/\Q (.str (i++j)) M
 |.tup l,.tup t=>l≠ []/\l.length+t.length<=sizeLine/\Q (.tup (l++t)) M
 |.ref a,.ref b=>∃l t,M a=wc (.lst l)/\M b=wc (.lst t)/\l.length+t.length<=sizeLine/\∀p,M p=we->Q (.ref p) (updM M p (.lst (l++t)))
 |_,_=>False
def mulM(x y:MV)(M:MH)(Q:QM):Prop:=match x,y with
 |.int i,.int j=>CMul i j/\Q (.int (i*j)) M
 |.str z,.int i=>z.length<=16/\ -1000<=i/\i<=1000/\Q (.str (Txt.mul z i)) M
 |.tup l,.int k=>l≠ []/\1<=k/\l.length*k.toNat<=1000000/\Q (.tup (Xg k.toNat l).flatten) M
 |.ref a,.int k=>∃l,M a=wc (.lst l)/\ -(2^63)<=k/\k<2^63/\l.length*k.toNat<=sizeLine/\∀p,M p=we->Q (.ref p) (updM M p (.lst (Xg k.toNat l).flatten))
 |_,_=>False
def wBin(l:Uh)(x y:MV)(M:MH)(Q:QM):Prop:=match l with
 |.Add=>addM x y M Q
 |.Mult=>mulM x y M Q
 |.Sub=>intsM (λi j=>Q (.int (i - j)) M) x y
 |.FloorDiv=>intsM (λi j=>WN i j/\Q (.int (i/j)) M) x y
 |.Mod=>intsM (λi j=>0<j/\Q (.int (i%j)) M) x y
 |.Pow=>intsM (λi j=>CPow i j/\Q (.int (i^j.toNat)) M) x y
 |.BitAnd=>intsM (λi j=>Q (.int (Bs i j)) M) x y
 |.BitXor=>intsM (λi j=>Q (.int (Bt i j)) M) x y
 |_=>False
def Ta:Mon2 addM:=by
 intro x y M Q d j h;unfold addM at h ⊢;split at h
 all_goals first
  |erw[j _ _ h]
  |erw[h.elim]
  |erw[⟨h.1,j _ _ h.2⟩]
  |erw[⟨h.1,h.2.1,j _ _ h.2.2⟩]
  |(have⟨m,l,g,t,u,w⟩:=h
    erw[⟨m,l,g,t,u,λp z=>j _ _ (w p z)⟩])
  |(have⟨l,t,u,w⟩:=h
    erw[⟨l,t,u,λp z=>j _ _ (w p z)⟩])
def Tb:Mon2 mulM:=by
 intro x y M Q d j h;unfold mulM at h ⊢;split at h
 all_goals first
  |erw[h.elim]
  |erw[⟨h.1,j _ _ h.2⟩]
  |erw[⟨h.1,h.2.1,h.2.2.1,j _ _ h.2.2.2⟩]
  |(have⟨l,t,u,w,z,m⟩:=h
    erw[⟨l,t,u,w,z,λp g=>j _ _ (m p g)⟩])
def HD(t:Uh):Mon2 (wBin t):=by
 intro x y M Q u l h;cases t
 all_goals first
  |erw[XN h]
  |erw[Ta l h]
  |erw[Tb l h]
  |(have⟨i,j,rfl,rfl,h⟩:=intsM.of h
    erw[l _ _ h])
  |(have⟨i,j,rfl,rfl,h⟩:=intsM.of h
    erw[⟨h.1,l _ _ h.2⟩])
theorem RMs.rep{K:X1}(q:RMs K H xs vs):∀k:Nat,RMs K H (Xg k xs).flatten (Xg k vs).flatten
 |0=>.nil
 |k+1=>by
  rw[Zc,Zc,Zo,Zo];erw[q.append (q.rep k)]
section
variable{X:Cx}
set_option tactic.hygienic true in
def Tc:OpR X (Yh .Add) (li2 X.K addM):=by
 intro d s c H x y v u Q I f r h;have⟨Z,A,M,r1,e,j,h⟩:=h;unfold addM at h;split at h
 .obtain rfl:=r1.inv;obtain rfl:=e.inv;erw[Qc d s c H _ _ v u Q I f r ⟨_,_,rfl,rfl,h _ _ (Kp.refl _) (.int _) j⟩]
 .obtain rfl:=r1.inv;obtain rfl:=e.inv;erw[Qw d s c H _ _ v u Q I f r ⟨_,_,rfl,rfl,h.1,h.2 _ _ (Kp.refl _) (.str _) j⟩]
 .rename_i T U
  have⟨_,_,rfl,L,l⟩:=r1.inv
  rename_i a w
  cases e with
  |tup N t=>
   rename_i b m
   have⟨O,P,R⟩:=h;erw[Ra d s c H _ _ v u Q I f r ⟨_,_,w,m,rfl,rfl,SqT.of L,SqT.of N,λz=>O ?_,by rw[<-l.length,<-t.length];erw[P],λz=>?_,λz p g=>?_⟩]
   .subst z;cases l;rfl
   .subst z;cases t;rw[Ze]at R;erw[R _ _ (Kp.refl _) (.tup L l) j]
   .have k:=Kp.new g (.tup (w++m));erw[R _ _ k (.tup _G ((l.append t).mono k)) (j.kept g _)]
 .obtain rfl:=r1.inv;obtain rfl:=e.inv;have⟨T,U,L,N,O,P⟩:=h;have⟨w,W,l⟩:=j.lst L;have⟨m,Y,t⟩:=j.lst N;erw[Rr d s c H _ _ v u Q I f r ⟨_,_,w,m,rfl,rfl,W,Y,by rw[<-l.length,<-t.length];erw[O],λp g=>?_⟩]
  have k:=Kp.new g (.lst (w++m));erw[P p (j.free g) _ _ k (.ref p) (j.put k ((l.append t).mono k))]
 .erw[h.elim]
set_option tactic.hygienic true in
def Td:OpR X (Yh .Mult) (li2 X.K mulM):=by
 intro g s d H x y v u Q I c f h;have⟨Y,Z,M,r1,r,j,h⟩:=h;unfold mulM at h;split at h
 .obtain rfl:=r1.inv;obtain rfl:=r.inv;erw[Qe g s d H _ _ v u Q I c f ⟨_,_,rfl,rfl,h.1,h.2 _ _ (Kp.refl _) (.int _) j⟩]
 .obtain rfl:=r1.inv;obtain rfl:=r.inv;erw[RU g s d H _ _ v u Q I c f ⟨_,_,rfl,rfl,h.1,h.2.1,h.2.2.1,h.2.2.2 _ _ (Kp.refl _) (.str _) j⟩]
 .rename_i N k
  obtain rfl:=r.inv;have⟨_,_,rfl,L,l⟩:=r1.inv
  rename_i a w
  have⟨O,P,R,T⟩:=h;erw[Sb g s d H _ _ v u Q I c f ⟨_,_,w,rfl,rfl,SqT.of L,λz=>O ?_,P,by rw[<-l.length];erw[R],λz=>?_,λz p m=>?_⟩]
  .subst z;cases l;rfl
  .subst z;have e:(Xg (1:Int).toNat N).flatten=N:=by simp
   rw[e]at T;erw[T _ _ (Kp.refl _) (.tup L l) j]
  .have t:=Kp.new m (.tup (Xg k.toNat w).flatten);erw[T _ _ t (.tup _G ((l.rep k.toNat).mono t)) (j.kept m _)]
 .rename_i a k
  obtain rfl:=r1.inv;obtain rfl:=r.inv;have⟨N,L,U,O,P,R⟩:=h;have⟨w,W,l⟩:=j.lst L;erw[Rs g s d H _ _ v u Q I c f ⟨_,_,w,rfl,rfl,W,U,O,by rw[<-l.length];erw[P],λp m=>?_⟩]
  have t:=Kp.new m (.lst (Xg k.toNat w).flatten);erw[R p (j.free m) _ _ t (.ref p) (j.put t ((l.rep k.toNat).mono t))]
 .erw[h.elim]
def Te(f:Uh):OpR X (Yh f) (li2 X.K (wBin f)):=by
 cases f with
 |Add=>erw[Tc]
 |Mult=>erw[Td]
 |Sub=>
  intro l s t H x y v u Q I w z h;have⟨d,c,M,r1,m,g,h⟩:=h;have⟨i,j,rfl,rfl,h⟩:=intsM.of h;obtain rfl:=r1.inv;obtain rfl:=m.inv;erw[Qd l s t H _ _ v u Q I w z ⟨_,_,rfl,rfl,h _ _ (Kp.refl _) (.int _) g⟩]
 |FloorDiv=>
  intro l s t H x y v u Q I w z h;have⟨d,c,M,r1,m,g,h⟩:=h;have⟨i,j,rfl,rfl,h⟩:=intsM.of h;obtain rfl:=r1.inv;obtain rfl:=m.inv;erw[RK l s t H _ _ v u Q I w z ⟨_,_,rfl,rfl,h.1,h.2 _ _ (Kp.refl _) (.int _) g⟩]
 |Mod=>
  intro l s t H x y v u Q I w z h;have⟨d,c,M,r1,m,g,h⟩:=h;have⟨i,j,rfl,rfl,h⟩:=intsM.of h;obtain rfl:=r1.inv;obtain rfl:=m.inv;erw[Qf l s t H _ _ v u Q I w z ⟨_,_,rfl,rfl,h.1,h.2 _ _ (Kp.refl _) (.int _) g⟩]
 |Pow=>
  intro l s t H x y v u Q I w z h;have⟨d,c,M,r1,m,g,h⟩:=h;have⟨i,j,rfl,rfl,h⟩:=intsM.of h;obtain rfl:=r1.inv;obtain rfl:=m.inv;erw[Qg l s t H _ _ v u Q I w z ⟨_,_,rfl,rfl,h.1,h.2 _ _ (Kp.refl _) (.int _) g⟩]
 |BitAnd=>
  intro l s t H x y v u Q I w z h;have⟨d,c,M,r1,m,g,h⟩:=h;have⟨i,j,rfl,rfl,h⟩:=intsM.of h;obtain rfl:=r1.inv;obtain rfl:=m.inv;erw[Qh l s t H _ _ v u Q I w z ⟨_,_,rfl,rfl,h _ _ (Kp.refl _) (.int _) g⟩]
 |BitXor=>
  intro l s t H x y v u Q I w z h;have⟨d,c,M,r1,m,g,h⟩:=h;have⟨i,j,rfl,rfl,h⟩:=intsM.of h;obtain rfl:=r1.inv;obtain rfl:=m.inv;erw[Qi l s t H _ _ v u Q I w z ⟨_,_,rfl,rfl,h _ _ (Kp.refl _) (.int _) g⟩]
 |_=>
  intro l s t H x y v u Q I w z h;have⟨_,_,_,_,_,_,h⟩:=h;erw[XN h]
end
noncomputable def eqS(x y:MV):Option Bool:=match x with
 |.int i=>(match y with|.int j=>wc (decide (i=j))|.non=>wc wg|.str _=>wc wg|_=>we)
 |.str i=>(match y with|.str j=>wc (decide (i=j))|.non=>wc wg|.int _=>wc wg|.bl _=>wc wg|_=>we)
 |.bl i=>(match y with|.bl j=>wc (decide (i=j))|.non=>wc wg|.str _=>wc wg|_=>we)
 |.non=>(match y with|.non=>wc wf|.int _=>wc wg|.bl _=>wc wg|.str _=>wc wg|_=>we)
 |_=>we
def HE{K:X1}(h:eqS x y=wc b)(r:RM K H x u)(q:RM K H y v):scal u v=wf/\decide (u=v)=b:=by
 cases r
 all_goals first
  |erw[nomatch (show we=wc b from h)]
  |skip
 all_goals
  cases q
  all_goals first
   |erw[nomatch (show we=wc b from h)]
   |(obtain rfl:=Y6 (show wc wg=wc b from h);erw[⟨rfl,rfl⟩])
   |(obtain rfl:=Y6 (show wc wf=wc b from h);erw[⟨rfl,rfl⟩])
   |(obtain rfl:=Y6 h;erw[⟨rfl,decide_eq_decide.mpr ⟨V.int.inj,λe=>by rw[e]⟩⟩])
   |(obtain rfl:=Y6 h;erw[⟨rfl,decide_eq_decide.mpr ⟨V.str.inj,λe=>by rw[e]⟩⟩])
   |(obtain rfl:=Y6 h;erw[⟨rfl,decide_eq_decide.mpr ⟨V.bl.inj,λe=>by rw[e]⟩⟩])
def LstM(M:MH)(x:MV)(j:List MV):Prop:=x=.frl j\/∃a,x=.ref a/\M a=wc (.lst j)
noncomputable def Yn:MV->Bool
 |.non=>wf|.bl _=>wf|.int _=>wf|.str _=>wf|_=>wg
def Alike(M:MH):Nat->MV->MV->Prop
 |0,x,y=>Yn x=wf/\x=y
 |n+1,x,y=>(Yn x=wf/\x=y)\/(∃j l,x=.tup j/\y=.tup l/\j.length=l.length/\∀(i:Nat)u v,j[i]?=wc u->l[i]?=wc v->Alike M n u v)\/
  (∃j l,LstM M x j/\LstM M y l/\j.length=l.length/\∀(i:Nat)u v,j[i]?=wc u->l[i]?=wc v->Alike M n u v)\/
  ∃a b t w,x=.ref a/\y=.ref b/\M a=wc (.dic t)/\M b=wc (.dic w)/\t.length=w.length/\∀k u,(k,u)∈t->∃v,valM w k=wc v/\Alike M n u v
noncomputable def toV:MV->V
 |.non=>.non|.bl b=>.bl b|.int i=>.int i|.str x=>.str x|_=>.non
def wEq(x y:MV)(M:MH)(k:Bool->Prop):Prop:=match eqS x y with
 |wc b=>k b
 |we=>False\/(∃n≤60,Alike M n x y/\k wf)\/(∃a b j,x=.ref a/\y=.ref b/\M a=wc (.lst j)/\M b=wc (.lst [])/\k j.isEmpty)\/False\/False
def U9{K:X1}(f:Yn m=wf)(r:RM K H m v):v=toV m/\ZJ v=wf:=by
 cases r<;>first|erw[⟨rfl,rfl⟩]|cases f
def VM{K:X1}{H:Hp}{m:List MV}{v:List V}(f:m.all Yn=wf)(h:RMs K H m v):v=m.map toV/\v.all ZJ=wf:=by
 induction m generalizing v with
 |nil=>obtain rfl:=h.inv;erw[⟨rfl,rfl⟩]
 |cons x m j=>
  have⟨_,_,rfl,r,t⟩:=h.inv;rw[UQ,Xs]at f;have⟨e,g⟩:=U9 f.1 r;have⟨l,u⟩:=j f.2 t;subst e l;erw[⟨rfl,by rw[UQ,g,u];rfl⟩]
def keyM:MV->Option Key
 |.int i=>wc (.inl i)
 |.str x=>wc (.inr x)
 |_=>we
def WR{K:X1}{k:Key}(e:keyM m=wc k)(r:RM K H m v):v=kV k:=by
 cases r<;>cases e<;>rfl
def WT{K:X1}{H:Hp}{k:Key}{m:List (Key×MV)}{v:List (Key×V)}(h:RKs K H m v):(valM m k=we/\valV v k=we)\/∃x u,valM m k=wc x/\valV v k=wc u/\RM K H x u:=by
 induction h with
 |nil=>erw[.inl ⟨rfl,rfl⟩]
 | @cons j x u _ _ r t this=>
  by_cases e:j=k
  .erw[.inr ⟨x,u,?_,BC (p:=(j,u)) e,r⟩];unfold valM;rw[if_pos e]
  .unfold valM;rw[if_neg e,BD (p:=(j,u)) e];erw[this]
def Tf{K:X1}{H:Hp}{k:Key}{m:List (Key×MV)}{v:List (Key×V)}(h:RKs K H m v):(v.any λj=>decide (j.1=k))=(m.any λj=>decide (j.1=k)):=by
 induction h with
 |nil=>rfl
 |cons _ _ l=>rw[ZB,ZB,l]
def Tg{K:X1}{H:Hp}{k:Key}{x:MV}{u:V}(r:RM K H x u){m:List (Key×MV)}{v:List (Key×V)}(h:RKs K H m v):
  RKs K H (m.map λl=>if l.1=k then(l.1,x)else l) (v.map λl=>if l.1=k then(l.1,u)else l):=by
 induction h with
 |nil=>erw[.nil]
 | @cons j _ _ _ _ q t w=>
  rw[Xy,Xy];by_cases e:j=k
  .rw[if_pos e,if_pos e];erw[.cons r w]
  .rw[if_neg e,if_neg e];erw[.cons q w]
def Th{j:Type}{K:X1}{H:Hp}{m l:List (j×MV)}{v t:List (j×V)}(h:RKs K H m v)(s:RKs K H l t):RKs K H (m++l) (v++t):=by
 induction h with
 |nil=>erw[s]
 |cons r _ u=>erw[.cons r u]
theorem HF{l:Type} [DecidableEq l] {k:l}:∀{m:List (l×MV)},¬k∈m.map (·.1)->(m.map λt=>if t.1=k then(t.1,x)else t)=m
 |[],_=>rfl
 |(j,y)::r,h=>by
  rw[Xy,if_neg (λe=>h (by simp[show j=k from e])),HF (λe=>h (by simp[e]))]
theorem HG{t:Type} [DecidableEq t] {k:t}:∀{m:List (t×MV)},(m.map (·.1)).Nodup->putM m k x=if(m.any λl=>decide (l.1=k))=wf then m.map (λl=>if l.1=k then(l.1,x)else l)else m++[(k,x)]
 |[],_=>rfl
 |(j,y)::r,h=>by
  rw[Xy,Yi]at h;unfold putM;rw[ZB];by_cases e:j=k
  .subst e;rw[if_pos rfl,if_pos (by simp),Xy,if_pos rfl,HF h.1]
  .rw[if_neg e,HG h.2,show decide ((j,y).1=k)=wg from decide_eq_false e,Bb,Xy,if_neg (show¬(j,y).1=k from e)];split<;>rfl
theorem HH{l:Type} [DecidableEq l] {k:l}:∀(m:List (l×MV)),((putM m k x).map (·.1))=if k∈m.map (·.1)then m.map (·.1)else m.map (·.1)++[k]
 |[]=>rfl
 |(j,y)::r=>by
  unfold putM;by_cases e:j=k
  .subst e;simp
  .rw[if_neg e,Xy,HH r,Xy];have t:k≠j:=λz=>e z.symm;by_cases m:k∈r.map (·.1)
   .rw[if_pos m,if_pos (Xh.mpr (.inr m))]
   .rw[if_neg m,if_neg (λz=>(Xh.mp z).elim t m)];rfl
def HI{K:X1}{k:Key}(r:RM K H x u)(j:(m.map (·.1)).Nodup)(h:RKs K H m v):
  RKs K H (putM m k x) (putK v k u)/\((putM m k x).map (·.1)).Nodup:=by
 erw[⟨?_,?_⟩]
 .rw[HG j];unfold putK;rw[Tf h];split
  .erw[Tg r h]
  .erw[Th h (.cons r .nil)]
 .rw[HH];split
  .erw[j]
  .erw[GW j (by assumption)]
def wIn(x y:MV)(M:MH)(k:Bool->Prop):Prop:=match y with
 |.tup j=>Yn x=wf/\j.all Yn=wf/\k (inV (toV x) (j.map toV))
 |.frl j=>Yn x=wf/\j.all Yn=wf/\k (inV (toV x) (j.map toV))
 |.ref a=>(∃j,M a=wc (.lst j)/\Yn x=wf/\j.all Yn=wf/\k (inV (toV x) (j.map toV)))\/∃l t,M a=wc (.dic l)/\keyM x=wc t/\k (valM l t).isSome
 |_=>False
noncomputable def Uw:MV->Bool
 |.non=>wf|_=>wg
noncomputable def isBl(b:Bool):MV->Bool
 |.bl c=>decide (c=b)
 |_=>wg
def wCmp(l:CmpOp)(x y:MV)(M:MH)(Q:QM):Prop:=match l with
 |.Lt=>∃i j,x=.int i/\y=.int j/\Q (.bl (decide (i<j))) M
 |.LtE=>(∃i j,x=.int i/\y=.int j/\Q (.bl (decide (i<=j))) M)\/∃i j,x=.str i/\y=.str j/\Q (.bl (!decide (j.cps.toList<i.cps.toList))) M
 |.Gt=>∃i j,x=.int i/\y=.int j/\Q (.bl (decide (j<i))) M
 |.GtE=>∃i j,x=.int i/\y=.int j/\Q (.bl (decide (j<=i))) M
 |.Eq=>wEq x y M λb=>Q (.bl b) M
 |.NotEq=>wEq x y M λb=>Q (.bl (!b)) M
 |.In=>wIn x y M λb=>Q (.bl b) M
 |.NotIn=>wIn x y M λb=>Q (.bl (!b)) M
 |.Is=>(y=.non/\Q (.bl (Uw x)) M)\/∃b,y=.bl b/\Q (.bl (isBl b x)) M
 |.IsNot=>(y=.non/\Q (.bl (!Uw x)) M)\/∃b,y=.bl b/\Q (.bl (!isBl b x)) M
set_option tactic.hygienic true in
def HJ{k:Bool->Prop}(j:∀b,k b->k' b)(h:wEq x y M k):wEq x y M k':=by
 unfold wEq at h ⊢;split
 .rename_i b e;rw[e]at h;erw[j _ h]
 .rename_i e;rw[e]at h;erw[h.imp id λh=>?_];rcases h with⟨n,l,t,u⟩|⟨a,b,w,l,t,u,z,m⟩|h|h
  .erw[.inl ⟨n,l,t,j _ u⟩]
  .erw[.inr (.inl ⟨a,b,w,l,t,u,z,j _ m⟩)]
  .erw[h.elim]
  .erw[h.elim]
def HK{k:Bool->Prop}(j:∀b,k b->k' b)(h:wIn x y M k):wIn x y M k':=by
 unfold wIn at h ⊢;split at h
 .erw[⟨h.1,h.2.1,j _ h.2.2⟩]
 .erw[⟨h.1,h.2.1,j _ h.2.2⟩]
 .rcases h with⟨z,l,t,u,m⟩|⟨w,g,l,t,u⟩
  .erw[.inl ⟨z,l,t,u,j _ m⟩]
  .erw[.inr ⟨w,g,l,t,j _ u⟩]
 .erw[h.elim]
def VN(m:CmpOp):Mon2 (wCmp m):=by
 intro x y M Q z l h;cases m
 .erw[HJ (k:=λb=>Q (.bl b) M) (k':=λb=>z (.bl b) M) (λb h=>l _ _ h) h]
 .erw[HJ (k:=λb=>Q (.bl (!b)) M) (k':=λb=>z (.bl (!b)) M) (λb h=>l _ _ h) h]
 .have⟨i,j,t,u,w⟩:=h;erw[⟨i,j,t,u,l _ _ w⟩]
 .rcases h with⟨i,j,t,u,w⟩|⟨i,j,t,u,w⟩
  .erw[.inl ⟨i,j,t,u,l _ _ w⟩]
  .erw[.inr ⟨i,j,t,u,l _ _ w⟩]
 .have⟨i,j,t,u,w⟩:=h;erw[⟨i,j,t,u,l _ _ w⟩]
 .have⟨i,j,t,u,w⟩:=h;erw[⟨i,j,t,u,l _ _ w⟩]
 .rcases h with h|⟨b,e,h⟩
  .erw[.inl ⟨h.1,l _ _ h.2⟩]
  .erw[.inr ⟨b,e,l _ _ h⟩]
 .rcases h with h|⟨b,e,h⟩
  .erw[.inl ⟨h.1,l _ _ h.2⟩]
  .erw[.inr ⟨b,e,l _ _ h⟩]
 .erw[HK (k:=λb=>Q (.bl b) M) (k':=λb=>z (.bl b) M) (λb h=>l _ _ h) h]
 .erw[HK (k:=λb=>Q (.bl (!b)) M) (k':=λb=>z (.bl (!b)) M) (λb h=>l _ _ h) h]
section
variable{X:Cx}
set_option tactic.hygienic true in
def HL{K:X1}(r:RM K H m v):decide (v=.bl b)=isBl b m:=by
 cases r<;>first|rfl|(rename_i c;cases b<;>cases c<;>rfl)
def HM{K:X1}(r:RM K H m v):decide (v=.non)=Uw m:=by cases r<;>rfl
def Ti{k:Key}(r:KV kvs vs)(h:valV kvs k=wc v):∃u,YY vs k=wc u/\RelV v u:=by
 have q:=r.val k;rw[h]at q;erw[RelO.some_of q]
theorem LstM.sq(j:RH X.K M H)(h:LstM M x xs)(r:RM X.K H x u):∃a vs,u=.ref a/\SqL X.K H a vs/\RMs X.K H xs vs:=by
 rcases h with rfl|⟨a,rfl,h⟩
 .have⟨_,_,rfl,l,t⟩:=r.inv;erw[⟨_,_,rfl,l.sq,t⟩]
 .obtain rfl:=r.inv;have⟨vs,e,q⟩:=j.lst h;erw[⟨a,vs,rfl,SqL.of e,q⟩]
def BL{j:List V}{l:List Value}(r:Vals j l){i:Nat}{u:Value}(h:l[i]?=wc u):∃x,j[i]?=wc x/\RelV x u:=by
 induction r generalizing i with
 |nil=>cases h
 |cons q _ t=>
  cases i with
  |zero=>cases h;erw[⟨_,rfl,q⟩]
  |succ i=>erw[t (i:=i) h]
def Tj(r:KV kvs vs){k:Key}(h:(k,u)∈vs):∃x,(k,x)∈kvs/\RelV x u:=by
 induction r with
 |nil=>cases h
 | @cons p j _ _ q _ l=>
  have⟨t,w⟩:=p;have⟨g,d⟩:=j;rcases Xh.mp h with e|h
  .cases e;have y:t=k:=q.1;subst y;erw[⟨w,XZ,q.2⟩]
  .have⟨x,m,z⟩:=l h;erw[⟨x,XD _ m,z⟩]
def Tk{K:X1}{H:Hp}{k:Key}{v:V}{m:List (Key×MV)}{j:List (Key×V)}(q:RKs K H m j)(h:(k,v)∈j):∃x,(k,x)∈m/\RM K H x v:=by
 induction q with
 |nil=>cases h
 |cons r t l=>
  rcases Xh.mp h with e|h
  .cases e;erw[⟨_,XZ,r⟩]
  .have⟨x,m,q⟩:=l h;erw[⟨x,XD _ m,q⟩]
set_option tactic.hygienic true in
def Alike.inn{pj:List (Addr×Obj)}{s:X0}{σ:St}{H:Hp}{M:MH}(I:Inv X pj σ H s)(C:RH X.K M H){n:Nat}{A:Xp}(d:A.units<cLine)
  (G:∀{x y:MV} {u v:V} {l t:Value},Alike M n x y->RM X.K H x u->RM X.K H y v->RelV u l->RelV v t->AliP X.prog X.w A.in1 s l t)
  {x y:MV} {u v:V} {l t:Value} (h:Alike M (n+1) x y)(r1:RM X.K H x u)(J:RM X.K H y v)(Q:RelV u l)(S:RelV v t):
  (Yn x=wf/\x=y)\/∃a b,l=.ref a/\t=.ref b/\RcP X.prog X.w A s (.ref a) (.ref b)/\RnP X.prog X.w A s (.ref a) (.ref b):=by
 rw[Alike]at h;rcases h with h|⟨xs,ys,rfl,rfl,e,h⟩|⟨xs,ys,D,E,e,h⟩|⟨a,b,ka,kb,rfl,rfl,D,E,e,h⟩
 .erw[.inl h]
 .have⟨_,_,rfl,o,f⟩:=r1.inv;cases J with
  |tup g2 r=>
   rename_i a vs b us
   obtain rfl:l=Xt a:=Q;obtain rfl:t=Xt b:=S;have⟨w,L,N,_⟩:=I.tuple (SqT.of o);have⟨m,O,P,_⟩:=I.tuple (SqT.of g2);have z:w.toArray.size=m.toArray.size:=by rw[XJ,XJ,<-L.length,<-O.length,<-f.length,<-r.length];erw[e]
   have g:∀p∈w.toArray.toList.zip m.toArray.toList,AliP X.prog X.w A.in1 s p.1 p.2:=by
    intro p hp;have⟨i,hi⟩:=List.mem_iff_getElem?.mp hp;rw[List.getElem?_zip_eq_some]at hi;have⟨x1,R,T⟩:=BL L hi.1;have⟨x2,U,W⟩:=BL O hi.2;have⟨Y,c,d3⟩:=f.get' R;have⟨F,Z,d4⟩:=r.get' U;erw[G (h i Y F c Z) d3 d4 T W]
   erw[.inr ⟨_,_,rfl,rfl,RY N P z d g,S1 N P z d g⟩]
 .have⟨a,vs,rfl,o,f⟩:=D.sq C r1;have⟨b,us,rfl,g2,r⟩:=E.sq C J;obtain rfl:l=Xt a:=Q;obtain rfl:t=Xt b:=S;have⟨w,L,⟨o1,n1,N,P,_,t3⟩,_⟩:=I.list o;have⟨m,O,⟨o2,n2,t4,t5,_,t6⟩,_⟩:=I.list g2;have z:w.toArray.size=m.toArray.size:=by rw[XJ,XJ,<-L.length,<-O.length,<-f.length,<-r.length];erw[e]
  have g:∀j (D:j<w.toArray.size)(E:j<m.toArray.size),AliP X.prog X.w A.in1 s w.toArray[j] m.toArray[j]:=by
   intro i l1 l2;have⟨x1,R,T⟩:=BL L (i:=i) (u:=w.toArray[i]) (by simp[Xb (show i<w.length by simpa using l1)])
   have⟨x2,U,W⟩:=BL O (i:=i) (u:=m.toArray[i]) (by simp[Xb (show i<m.length by simpa using l2)])
   have⟨Y,c,d3⟩:=f.get' R;have⟨F,Z,d4⟩:=r.get' U;erw[G (h i Y F c Z) d3 d4 T W]
  erw[.inr ⟨_,_,rfl,rfl,S0 ⟨o1,N,P,n1,t3⟩ ⟨o2,t4,t5,n2,t6⟩ z d g,S3 ⟨o1,N,P,n1,t3⟩ ⟨o2,t4,t5,n2,t6⟩ z d g⟩]
 .obtain rfl:=r1.inv;obtain rfl:=J.inv;obtain rfl:l=Xt a:=Q;obtain rfl:t=Xt b:=S;have⟨va,ea,wa,_⟩:=C.dic D;have⟨vb,eb,wb,_⟩:=C.dic E;have⟨_,na,ua,pa,da⟩:=Dv I.hok ea;have⟨_,nb,ub,pb,db⟩:=Dv I.hok eb;have z:ua.length=ub.length:=by rw[<-Paired.length pa,<-wa.length,<-Paired.length pb,<-wb.length];erw[e]
  have g:∀p∈ua,∃y,YY ub p.1=wc y/\AliP X.prog X.w A.in1 s p.2 y:=by
   rintro⟨k,u1⟩ hp;have⟨x1,R,T⟩:=Tj pa hp;have⟨Y,U,W⟩:=Tk wa R;have⟨F,c,Z⟩:=h k Y U;rcases WT (k:=k) wb with⟨B,z2⟩|⟨x',u2,B,z2,r3⟩
   .rw[c]at B;cases B
   .rw[c]at B;cases B;have⟨w',hw,rw'⟩:=Ti pb z2;erw[⟨w',hw,G Z W r3 T rw'⟩]
  erw[.inr ⟨_,_,rfl,rfl,S4 na nb da db d z g,S5 na nb da db d z g⟩]
def HN{K:X1}{s:X0}(f:Yn x=wf)(r1:RM K H x u)(j:RM K H x v)(l:RelV u u')(t:RelV v v'):AliP P w A s u' v':=by
 have⟨rfl,y⟩:=U9 f r1;have⟨rfl,z⟩:=U9 f j;have h:=GG (A:=A) (s:=s) l t y z;have e:eqV (toV x) (toV x)=wf:=by cases x<;>first|(cases f;done)|rfl|erw[beq_self_eq_true _]
 rw[e]at h;erw[.of_at h]
theorem Alike.ok{s:X0}(I:Inv X pj σ H s)(m:RH X.K M H):∀(n:Nat){A:Xp} {x y:MV} {u v:V} {w z:Value},A.units+n<cLine->Alike M n x y->RM X.K H x u->RM X.K H y v->RelV u w->RelV v z->AliP X.prog X.w A s w z
 |0,A,x,y,u,v,w,z,hu,h,r1,j,l,t=>by
  rw[Alike]at h;have⟨f,rfl⟩:=h;erw[HN f r1 j l t]
 |n+1,A,x,y,u,v,w,z,hu,h,r1,j,l,t=>by
  rcases Alike.inn I m (A:=A) (by lia) (λh r1 j l t=>Alike.ok I m n (show A.units+1+n<cLine by lia) h r1 j l t) h r1 j l t with⟨f,rfl⟩|⟨a,b,rfl,rfl,h,_⟩
  .erw[HN f r1 j l t]
  .erw[.refs h]
def Alike.top{s:X0}(I:Inv X pj σ H s)(w:RH X.K M H)(h:Alike M n x y)(g:X.A.units+n<cLine)(z:eqS x y=we)(r1:RM X.K H x u)(j:RM X.K H y v)(l:RelV u u')(t:RelV v v'):
  RcP X.prog X.w X.A s u' v'/\RnP X.prog X.w X.A s u' v':=by
 have no:¬(Yn x=wf/\x=y):=by
  rintro⟨f,rfl⟩;cases x<;>first|(cases f;done)|(cases z;done)
 cases n with
 |zero=>rw[Alike]at h;erw[(no h).elim]
 |succ n=>
  rcases Alike.inn I w (A:=X.A) (by lia) (λh r1 j l t=>Alike.ok I w n (show X.A.units+1+n<cLine by lia) h r1 j l t) h r1 j l t with f|⟨a,b,rfl,rfl,h,m⟩
  .erw[(no f).elim]
  .erw[⟨h,m⟩]
set_option tactic.hygienic true in
def VO(hu:X.A.units+70<cLine)(F:CmpOp):OpR X (Y1 F) (li2 X.K (wCmp F)):=by
 intro c s f H x y v u Q I t w h;have⟨D,E,M,r1,z,p,h⟩:=h;have l:∀b,Dn X.K H Q (.bl b) M->Q (.bl b) H:=λb h=>h _ _ (Kp.refl _) (.bl b) p;have Z:X.A.units+1<cLine:=by lia
 have hu64:X.A.units+64<cLine:=by lia
 have huI:X.A.in1.units+64<cLine:=by show X.A.units+1+64<cLine;lia
 have A:X.A.units<cLine:=by lia
 cases F with
 |Lt=>have⟨i,j,rfl,rfl,h⟩:=h;obtain rfl:=r1.inv;obtain rfl:=z.inv;erw[Qm c s f H _ _ v u Q I t w ⟨_,_,rfl,rfl,l _ h⟩]
 |LtE=>
  rcases h with⟨i,j,rfl,rfl,h⟩|⟨i,j,rfl,rfl,h⟩
  .obtain rfl:=r1.inv;obtain rfl:=z.inv;erw[Qn c s f H _ _ v u Q I t w ⟨_,_,rfl,rfl,l _ h⟩]
  .obtain rfl:=r1.inv;obtain rfl:=z.inv;have⟨t1,rfl⟩:=t;have⟨t2,rfl⟩:=w;erw[PySem.P.le_str ⟨.bl _,H,I,rfl,l _ h⟩]
 |Gt=>have⟨i,j,rfl,rfl,h⟩:=h;obtain rfl:=r1.inv;obtain rfl:=z.inv;erw[Qo c s f H _ _ v u Q I t w ⟨_,_,rfl,rfl,l _ h⟩]
 |GtE=>have⟨i,j,rfl,rfl,h⟩:=h;obtain rfl:=r1.inv;obtain rfl:=z.inv;erw[Qp c s f H _ _ v u Q I t w ⟨_,_,rfl,rfl,l _ h⟩]
 |Is=>
  rcases h with⟨rfl,h⟩|⟨b,rfl,h⟩
  .obtain rfl:=z.inv;erw[Qq c s f H _ _ v u Q I t w ⟨rfl,by rw[HM r1];erw[l _ h]⟩]
  .obtain rfl:=z.inv;erw[SR c s f H _ _ v u Q I t w ⟨b,rfl,by rw[HL r1];erw[l _ h]⟩]
 |IsNot=>
  rcases h with⟨rfl,h⟩|⟨b,rfl,h⟩
  .obtain rfl:=z.inv;erw[Qr c s f H _ _ v u Q I t w ⟨rfl,by rw[HM r1];erw[l _ h]⟩]
  .obtain rfl:=z.inv;erw[SS c s f H _ _ v u Q I t w ⟨b,rfl,by rw[HL r1];erw[l _ h]⟩]
 |Eq=>
  have h:wEq D E M λb=>Dn X.K H Q (.bl b) M:=h;unfold wEq at h;split at h
  .rename_i b e
   have⟨m,g⟩:=HE e r1 z;erw[Qk c s f H _ _ v u Q I t w ⟨m,by rw[g];erw[l _ h]⟩]
  .rcases h with h|h
   .erw[h.elim]
   rcases h with⟨n,r,T,U⟩|⟨a,b,B,rfl,rfl,U,G,J⟩|h|h
   .erw[(T.top I p (by lia) (by assumption) r1 z t w).1 _ _ ⟨.bl wf,H,I,rfl,l _ U⟩]
   .obtain rfl:=r1.inv;obtain rfl:=z.inv;have⟨R,m,d⟩:=p.lst U;have⟨us,g,S⟩:=p.lst G;obtain rfl:=S.inv;erw[RW A c s f H _ _ v u Q I t w ⟨_,_,R,rfl,rfl,SqL.of m,SqL.of g,?_⟩];have:R.isEmpty=B.isEmpty:=by cases d<;>rfl
    rw[this];erw[l _ J]
   .erw[h.elim]
   .erw[h.elim]
 |NotEq=>
  have h:wEq D E M λb=>Dn X.K H Q (.bl (!b)) M:=h;unfold wEq at h;split at h
  .rename_i b e
   have⟨m,g⟩:=HE e r1 z;erw[Ql c s f H _ _ v u Q I t w ⟨m,by rw[g];erw[l _ h]⟩]
  .rcases h with h|h
   .erw[h.elim]
   rcases h with⟨n,r,T,U⟩|⟨a,b,B,rfl,rfl,U,G,J⟩|h|h
   .erw[(T.top I p (by lia) (by assumption) r1 z t w).2 _ _ ⟨.bl wg,H,I,rfl,l _ U⟩]
   .obtain rfl:=r1.inv;obtain rfl:=z.inv;have⟨R,m,d⟩:=p.lst U;have⟨us,g,S⟩:=p.lst G;obtain rfl:=S.inv;erw[RX A c s f H _ _ v u Q I t w ⟨_,_,R,rfl,rfl,SqL.of m,SqL.of g,?_⟩];have:R.isEmpty=B.isEmpty:=by cases d<;>rfl
    rw[this];erw[l _ J]
   .erw[h.elim]
   .erw[h.elim]
 |In=>
  have h:wIn D E M λb=>Dn X.K H Q (.bl b) M:=h;unfold wIn at h;split at h
  .have⟨_,_,rfl,r,d⟩:=z.inv;have⟨L,N,h⟩:=h;have⟨m,O⟩:=U9 L r1;have⟨g,P⟩:=VM N d;erw[Dr c s f H _ _ v u Q I t w ⟨_,_,rfl,.inr (SqT.of r),O,P,by rw[m,g];erw[l _ h]⟩]
  .have⟨_,_,rfl,r,d⟩:=z.inv;have⟨L,N,h⟩:=h;have⟨m,O⟩:=U9 L r1;have⟨g,P⟩:=VM N d;erw[Dr c s f H _ _ v u Q I t w ⟨_,_,rfl,.inl r.sq,O,P,by rw[m,g];erw[l _ h]⟩]
  .obtain rfl:=z.inv;rcases h with⟨B,r,L,N,h⟩|⟨o,C,r,T,h⟩
   .have⟨R,e,d⟩:=p.lst r;have⟨m,O⟩:=U9 L r1;have⟨g,P⟩:=VM N d;erw[Dr c s f H _ _ v u Q I t w ⟨_,_,rfl,.inl (SqL.of e),O,P,by rw[m,g];erw[l _ h]⟩]
   .have⟨R,e,d,_⟩:=p.dic r;have:=WR T r1;subst this;obtain rfl:u=Xt _:=w;erw[d_in Z I (DGet.k (k:=C) e) t λs3 I3=>⟨.bl _,H,I3,rfl,?_⟩];rcases WT (k:=C) d with⟨W,Y⟩|⟨x',u',W,Y,_⟩
    .rw[Y];rw[W]at h;erw[l _ h]
    .rw[Y];rw[W]at h;erw[l _ h]
  .erw[h.elim]
 |NotIn=>
  have h:wIn D E M λb=>Dn X.K H Q (.bl (!b)) M:=h;unfold wIn at h;split at h
  .have⟨_,_,rfl,r,d⟩:=z.inv;have⟨L,N,h⟩:=h;have⟨m,O⟩:=U9 L r1;have⟨g,P⟩:=VM N d;erw[Ds c s f H _ _ v u Q I t w ⟨_,_,rfl,.inr (SqT.of r),O,P,by rw[m,g];erw[l _ h]⟩]
  .have⟨_,_,rfl,r,d⟩:=z.inv;have⟨L,N,h⟩:=h;have⟨m,O⟩:=U9 L r1;have⟨g,P⟩:=VM N d;erw[Ds c s f H _ _ v u Q I t w ⟨_,_,rfl,.inl r.sq,O,P,by rw[m,g];erw[l _ h]⟩]
  .obtain rfl:=z.inv;rcases h with⟨B,r,L,N,h⟩|⟨o,C,r,T,h⟩
   .have⟨R,e,d⟩:=p.lst r;have⟨m,O⟩:=U9 L r1;have⟨g,P⟩:=VM N d;erw[Ds c s f H _ _ v u Q I t w ⟨_,_,rfl,.inl (SqL.of e),O,P,by rw[m,g];erw[l _ h]⟩]
   .have⟨R,e,d,_⟩:=p.dic r;have:=WR T r1;subst this;obtain rfl:u=Xt _:=w;erw[Rv Z I (DGet.k (k:=C) e) t λs3 I3=>⟨.bl _,H,I3,rfl,?_⟩];rcases WT (k:=C) d with⟨W,Y⟩|⟨x',u',W,Y,_⟩
    .rw[Y];rw[W]at h;erw[l _ h]
    .rw[Y];rw[W]at h;erw[l _ h]
  .erw[h.elim]
end
def wIx(x y:MV)(M:MH)(Q:QM):Prop:=match x with
 |.tup l=>∃i v,y=.int i/\atI l i=wc v/\Q v M
 |.frl l=>∃i v,y=.int i/\atI l i=wc v/\Q v M
 |.str z=>∃i c,y=.int i/\z.length<=sizeLine/\atI z.cps.toList i=wc c/\Q (.str ⟨#[c]⟩) M
 |.ref a=>(∃l i v,M a=wc (.lst l)/\y=.int i/\atI l i=wc v/\Q v M)\/(∃j t v,M a=wc (.dic j)/\keyM y=wc t/\valM j t=wc v/\Q v M)\/∃o j t v,M a=wc (.fdic o j)/\keyM y=wc t/\valM j t=wc v/\Q v M
 |_=>False
def HP:Mon2 wIx:=by
 intro x y M Q d z h;unfold wIx at h ⊢;split at h
 .have⟨i,v,j,l,t⟩:=h;erw[⟨i,v,j,l,z _ _ t⟩]
 .have⟨i,v,j,l,t⟩:=h;erw[⟨i,v,j,l,z _ _ t⟩]
 .have⟨i,v,j,l,t,u⟩:=h;erw[⟨i,v,j,l,t,z _ _ u⟩]
 .rcases h with⟨g,i,v,j,l,t,u⟩|⟨w,m,v,j,l,t,u⟩|⟨o,w,m,v,j,l,t,u⟩
  .erw[.inl ⟨g,i,v,j,l,t,z _ _ u⟩]
  .erw[.inr (.inl ⟨w,m,v,j,l,t,z _ _ u⟩)]
  .erw[.inr (.inr ⟨o,w,m,v,j,l,t,z _ _ u⟩)]
 .erw[h.elim]
theorem RMs.atI{K:X1}(r:RMs K H m v)(e:atI m i=wc x):∃u,atI v i=wc u/\RM K H x u:=by
 unfold L2.atI at e ⊢;rw[<-r.length];cases q:ixN m.length i with
 |none=>rw[q]at e;cases e
 |some j=>rw[q]at e;erw[r.get e]
section
variable{X:Cx}
def HQ(w:X.A.units+1<cLine):IxR X (λx y H Q=>∃a v,x=.ref a/\DGet H a y (wc v)/\Q v H):=by
 intro j l r s p H x y v u Q I z m h d;have⟨a,c,rfl,g,q⟩:=h;obtain rfl:v=Xt a:=z;erw[tail_any (Ry I g) PySem.F.slot_dict_getitem.lookup (Ru w I g m λe L f t=>⟨c,H,f,t,q⟩) d]
def HR(E:X.A.units+1<cLine):IxR X (li2 X.K wIx):=by
 intro j l O s P H x y v u Q I R T h U;have⟨J,S,M,r1,W,w,h⟩:=h;unfold wIx at h;split at h
 .have⟨i,Z,rfl,z,t⟩:=h;obtain rfl:=W.inv;have⟨_,_,rfl,m,d⟩:=r1.inv;have⟨f,e,r⟩:=d.atI z;erw[Rb j l O s P H _ _ v u Q I R T ⟨_,_,_,f,rfl,rfl,SqT.of m,e,t _ _ (Kp.refl _) r w⟩ U]
 .have⟨i,Z,rfl,z,t⟩:=h;obtain rfl:=W.inv;have⟨_,_,rfl,m,d⟩:=r1.inv;have⟨f,e,r⟩:=d.atI z;erw[GF j l O s P H _ _ v u Q I R T ⟨_,_,_,f,rfl,rfl,m.sq,e,t _ _ (Kp.refl _) r w⟩ U]
 .have⟨i,c,rfl,z,t,p⟩:=h;obtain rfl:=r1.inv;obtain rfl:=W.inv;erw[Rc j l O s P H _ _ v u Q I R T ⟨_,_,c,rfl,rfl,z,t,p _ _ (Kp.refl _) (.str _) w⟩ U]
 .obtain rfl:=r1.inv;rcases h with⟨n,i,Z,m,rfl,t,p⟩|⟨B,L,Z,m,z,t,p⟩|⟨o,B,L,Z,m,z,t,p⟩
  .obtain rfl:=W.inv;have⟨A,e,d⟩:=w.lst m;have⟨f,F,r⟩:=d.atI t;erw[GF j l O s P H _ _ v u Q I R T ⟨_,_,_,f,rfl,rfl,SqL.of e,F,p _ _ (Kp.refl _) r w⟩ U]
  .have⟨A,e,d,_⟩:=w.dic m;have C:=WR z W;rcases WT (k:=L) d with⟨N,Y⟩|⟨G,f,N,Y,D⟩
   .rw[N]at t;cases t
   .rw[N]at t;cases t;have g:=DGet.k (k:=L) e;rw[Y]at g;subst C;erw[HQ E j l O s P H _ _ v u Q I R T ⟨_,f,rfl,g,p _ _ (Kp.refl _) D w⟩ U]
  .have⟨A,e,d,_⟩:=w.fdic m;have C:=WR z W;rcases WT (k:=L) d with⟨N,Y⟩|⟨G,f,N,Y,D⟩
   .rw[N]at t;cases t
   .rw[N]at t;cases t;have g:DGet H _ (kV L) (valV A L):=.inl ⟨A,L,.inr ⟨o,e⟩,rfl,rfl⟩;rw[Y]at g;subst C;erw[HQ E j l O s P H _ _ v u Q I R T ⟨_,f,rfl,g,p _ _ (Kp.refl _) D w⟩ U]
 .erw[h.elim]
end
noncomputable def cutM(j:List MV)(lo l:Option Int):List MV:=(j.drop (HT.sIx j.length 0 lo)).take (HT.sIx j.length j.length l - HT.sIx j.length 0 lo)
def RMs.cut{K:X1}(r:RMs K H m v)(lo j:Option Int):RMs K H (cutM m lo j) (cutV v lo j):=by
 unfold cutM cutV;rw[<-r.length];erw[(r.drop _).take _]
abbrev WS:=MV->Option Int->Option Int->MH->QM->Prop
def wSl:WS:=λx lo j M Q=>match x with
 |.tup xs=>Q (.tup (cutM xs lo j)) M
 |.frl xs=>∀p,M p=we->Q (.ref p) (updM M p (.lst (cutM xs lo j)))
 |.str z=>z.length<=sizeLine/\Q (.str (cutS z lo j)) M
 |_=>False
def HS{x:MV}{lo l:Option Int}{M:MH}{Q t:QM}(j:∀m u,Q m u->t m u)(h:wSl x lo l M Q):wSl x lo l M t:=by
 unfold wSl at h ⊢;split at h
 .erw[j _ _ h]
 .erw[λp w=>j _ _ (h p w)]
 .erw[⟨h.1,j _ _ h.2⟩]
 .erw[h.elim]
def liS(K:X1)(w:WS):V->Option Int->Option Int->Hp->VK->Prop:=λx lo l H Q=>∃j M,RM K H j x/\RH K M H/\w j lo l M (Dn K H Q)
section
variable{X:Cx}
set_option tactic.hygienic true in
def Tl:SlR X (liS X.K wSl):=by
 intro z s m H x v g d lo j c Q I f r L N h;have⟨P,M,r1,u,h⟩:=h;unfold wSl at h;split at h
 .rename_i t
  have⟨_,_,rfl,w,l⟩:=r1.inv
  rename_i O
  by_cases hw:HT.sIx t.length 0 lo=0/\HT.sIx t.length t.length j=t.length
  .have e:cutM t lo j=t:=by unfold cutM;rw[hw.1,hw.2,CT,Nat.sub_zero,CN]
   rw[e]at h;erw[T3 z s m H _ v g d lo j c Q I f r L N ⟨_,_,rfl,SqT.of w,by rw[<-l.length];erw[hw.1],by rw[<-l.length];erw[hw.2],?_⟩]
   erw[h _ _ (Kp.refl _) (.tup w l) u]
  erw[R8 z s m H _ v g d lo j c Q I f r L N ⟨_,_,rfl,SqT.of w,by rw[<-l.length];erw[hw],λp y=>?_⟩]
  have k:=Kp.new y (.tup (cutV O lo j));erw[h _ _ k (.tup _G ((l.cut lo j).mono k)) (u.kept y _)]
 .have⟨_,_,rfl,w,l⟩:=r1.inv
  rename_i O
  erw[Ri z s m H _ v g d lo j c Q I f r L N ⟨_,_,rfl,w.sq,λp y=>?_⟩];have k:=Kp.new y (.lst (cutV O lo j));erw[h p (u.free y) _ _ k (.ref p) (u.put k ((l.cut lo j).mono k))]
 .obtain rfl:=r1.inv;erw[SY z s m H _ v g d lo j c Q I f r L N ⟨_,rfl,h.1,h.2 _ _ (Kp.refl _) (.str _) u⟩]
 .erw[h.elim]
end
noncomputable def tyO:Option MO->Option Ty7
 |wc (.lst _)=>wc .list
 |wc (.dic _)=>wc .dict
 |_=>we
def tyM(M:MH):MV->Option Ty7
 |.non=>wc .none|.bl _=>wc .bool|.int _=>wc .int|.str _=>wc .str|.tup _=>wc .tuple
 |.ref a=>tyO (M a)
 |_=>we
noncomputable def isTy:Ty7->Ty7->Bool
 |.bool,.int=>wf
 |a,b=>decide (a=b)
def DB(K:X1)(T c:Ty7)(j:c≠.none):UR K (.type T.name) (.type c.name)=wc (isTy T c):=by
 cases T<;>cases c<;>first|erw[absurd rfl j]|with_unfolding_all rfl
def HU{K:X1}(j:RH K M H)(r:RM K H m v)(e:tyM M m=wc T):TyOf K H v (.type T.name):=by
 cases r with
 |non=>cases e;erw[.non]
 |bl b=>cases e;erw[.bl b]
 |int i=>cases e;erw[.int i]
 |str x=>cases e;erw[.str x]
 |tup h _=>cases e;erw[.tup h]
 |frl _ _=>cases e
 |ty _=>cases e
 |ref a=>
  have e:tyO (M a)=wc T:=e;cases q:M a with
  |none=>rw[q]at e;cases e
  |some o=>
   rw[q]at e;cases o with
   |lst u=>cases e;have⟨l,h,_⟩:=j.lst q;erw[.lst h]
   |dic t=>cases e;have⟨l,h,_⟩:=j.dic q;erw[.dK h]
   |ins _ _=>cases e
   |fdic _ _=>cases e
inductive BI where|len|isinst|max|min|sum|abs|int|list|tuple|dict|sorted|dictL|all
  deriving DecidableEq
def bLen(t:List MV)(M:MH)(Q:QM):Prop:=match t with
 |[.tup j]=>Q (.int j.length) M
 |[.frl j]=>Q (.int j.length) M
 |[.str z]=>z.length<=sizeLine/\Q (.int z.length) M
 |[.ref a]=>(∃j,M a=wc (.lst j)/\Q (.int j.length) M)\/∃l,M a=wc (.dic l)/\Q (.int l.length) M
 |_=>False
def bIsi(j:List MV)(M:MH)(Q:QM):Prop:=match j with
 |[x,.ty c]=>∃T,tyM M x=wc T/\c≠.none/\Q (.bl (isTy T c)) M
 |[x,.tup [.ty c,.ty d]]=>∃T,tyM M x=wc T/\c≠.none/\d≠.none/\Q (.bl (isTy T c||isTy T d)) M
 |_=>False
def bMax(l:List MV)(M:MH)(Q:QM):Prop:=match l with
 |[.int i,.int j]=>Q (.int (if j>i then j else i)) M
 |_=>False
def bMin(l:List MV)(M:MH)(Q:QM):Prop:=match l with
 |[.int i,.int j]=>Q (.int (if j<i then j else i)) M
 |_=>False
def bInt(j:List MV)(M:MH)(Q:QM):Prop:=match j with
 |[.bl k]=>Q (.int (if k then 1 else 0)) M
 |_=>False
def bLst(l:List MV)(M:MH)(Q:QM):Prop:=match l with
 |[.tup j]=>∀p,M p=we->Q (.ref p) (updM M p (.lst j))
 |[.ref a]=>∃j,M a=wc (.lst j)/\∀p,M p=we->Q (.ref p) (updM M p (.lst j))
 |_=>False
def bTup(l:List MV)(M:MH)(Q:QM):Prop:=match l with
 |[.ref a]=>∃j,M a=wc (.lst j)/\Q (.tup j) M
 |_=>False
noncomputable def prM(p:Key×MV):MV:=.tup [match p.1 with|.inl i=>.int i|.inr x=>.str x,p.2]
def Ua(j:List (Key×MV)):List (Key×MV):=j.foldl (λc z=>putM c z.1 z.2) []
def bDic(t:List MV)(M:MH)(Q:QM):Prop:=match t with
 |[.ref a]=>∃j,M a=wc (.dic j)/\∀p,M p=we->Q (.ref p) (updM M p (.dic j))
 |[.tup xs]=>∃l:List (Key×MV),xs=l.map prM/\∀p,M p=we->Q (.ref p) (updM M p (.dic (Ua l)))
 |_=>False
def bDcl(l:List MV)(M:MH)(Q:QM):Prop:=match l with
 |[.ref a]=>∃j:List (Key×MV),M a=wc (.lst (j.map prM))/\∀p,M p=we->Q (.ref p) (updM M p (.dic (Ua j)))
 |_=>False
set_option tactic.hygienic true in
def HV{K:X1}:∀{w:List (Key×MV)} {l:List V},RMs K H (w.map prM) l->∃j:List (Key×V),Hv H j l/\RKs K H w j:=by
 intro w
 induction w with
 |nil=>intro l h;cases h;erw[⟨[],.nil,.nil⟩]
 |cons p r y=>
  have⟨k,x⟩:=p;intro l h;have h:RMs K H (prM (k,x)::r.map prM) l:=h;cases h with
  |cons a u=>
   have⟨j,z,m⟩:=y u;have⟨_,_,rfl,e,t⟩:=a.inv;cases t with
   |cons g d=>
    cases d with
    |cons c f=>
     cases f
     rename_i N L
     erw[⟨(k,L)::j,.cons ⟨_,rfl,?_⟩ z,.cons c m⟩];rw[e];cases k<;>cases g<;>rfl
def HW{K:X1}{H:Hp}:∀{l:List (Key×MV)} {j:List (Key×V)} {c:List (Key×MV)} {t:List (Key×V)},RKs K H l j->RKs K H c t->(c.map (·.1)).Nodup->
  RKs K H (l.foldl (λc z=>putM c z.1 z.2) c) (j.foldl (λc z=>putK c z.1 z.2) t)/\((l.foldl (λc z=>putM c z.1 z.2) c).map (·.1)).Nodup
 :=by
 intro l j c t q
 induction q generalizing c t with
 |nil=>erw[λh u=>⟨h,u⟩]
 |cons r _ w=>
  intro h u;have⟨a,b⟩:=HI r u h;erw[w a b]
def bAll(j:List MV)(M:MH)(Q:QM):Prop:=match j with
 |[.ref a]=>∃bs:List Bool,M a=wc (.lst (bs.map MV.bl))/\Q (.bl (bs.all id)) M
 |_=>False
def RMs.bls_of{K:X1}{H:Hp}{bs:List Bool}{j:List V}(h:RMs K H (bs.map MV.bl) j):j=bs.map V.bl:=h.map_of λ_ _ x=>by cases x;rfl
def wBi(f:BI)(j:List MV)(M:MH)(Q:QM):Prop:=match f with
 |.len=>bLen j M Q
 |.isinst=>bIsi j M Q
 |.max=>bMax j M Q
 |.min=>bMin j M Q
 |.sum=>False
 |.abs=>False
 |.int=>bInt j M Q
 |.list=>bLst j M Q
 |.tuple=>bTup j M Q
 |.dict=>bDic j M Q
 |.sorted=>False
 |.dictL=>bDcl j M Q
 |.all=>bAll j M Q
def Tn:MonW bLen:=by
 intro w M Q y j h;unfold bLen at h ⊢;split at h
 .erw[j _ _ h]
 .erw[j _ _ h]
 .erw[⟨h.1,j _ _ h.2⟩]
 .rcases h with⟨l,t,u⟩|⟨l,t,u⟩
  .erw[.inl ⟨l,t,j _ _ u⟩]
  .erw[.inr ⟨l,t,j _ _ u⟩]
 .erw[h.elim]
def HX(f:BI):MonW (wBi f):=by
 intro j M Q w u h;cases f
 .erw[Tn u h]
 .have h:bIsi j M Q:=h;show bIsi j M w;unfold bIsi at h ⊢;split at h
  .have⟨T,l,t,m⟩:=h;erw[⟨T,l,t,u _ _ m⟩]
  .have⟨T,l,t,m,g⟩:=h;erw[⟨T,l,t,m,u _ _ g⟩]
  .erw[h.elim]
 .have h:bMax j M Q:=h;show bMax j M w;unfold bMax at h ⊢;split at h
  .erw[u _ _ h]
  .erw[h.elim]
 .have h:bMin j M Q:=h;show bMin j M w;unfold bMin at h ⊢;split at h
  .erw[u _ _ h]
  .erw[h.elim]
 .erw[XN h]
 .erw[XN h]
 .have h:bInt j M Q:=h;show bInt j M w;unfold bInt at h ⊢;split at h
  .erw[u _ _ h]
  .erw[h.elim]
 .have h:bLst j M Q:=h;show bLst j M w;unfold bLst at h ⊢;split at h
  .erw[λp y=>u _ _ (h p y)]
  .have⟨z,l,t⟩:=h;erw[⟨z,l,λp y=>u _ _ (t p y)⟩]
  .erw[h.elim]
 .have h:bTup j M Q:=h;show bTup j M w;unfold bTup at h ⊢;split at h
  .have⟨z,l,t⟩:=h;erw[⟨z,l,u _ _ t⟩]
  .erw[h.elim]
 .have h:bDic j M Q:=h;show bDic j M w;unfold bDic at h ⊢;split at h
  .have⟨z,l,t⟩:=h;erw[⟨z,l,λp y=>u _ _ (t p y)⟩]
  .have⟨z,l,t⟩:=h;erw[⟨z,l,λp y=>u _ _ (t p y)⟩]
  .erw[h.elim]
 .erw[XN h]
 .have h:bDcl j M Q:=h;show bDcl j M w;unfold bDcl at h ⊢;split at h
  .have⟨d,l,t⟩:=h;erw[⟨d,l,λp y=>u _ _ (t p y)⟩]
  .erw[h.elim]
 .have h:bAll j M Q:=h;show bAll j M w;unfold bAll at h ⊢;split at h
  .have⟨bs,l,t⟩:=h;erw[⟨bs,l,u _ _ t⟩]
  .erw[h.elim]
noncomputable def BI.val:BI->Value
 |.len=>.builtin "len"|.isinst=>.builtin "isinstance"|.max=>.builtin "max"|.min=>.builtin "min"|.sum=>.builtin "sum"|.abs=>.builtin "abs"
 |.int=>.type "int"|.list=>.type "list"|.tuple=>.type "tuple"|.dict=>.type "dict"|.sorted=>.builtin "sorted"|.dictL=>.type "dict"|.all=>.builtin "all"
section
variable{X:Cx}
def RMs.one{K:X1}(r:RMs K H [m] vs):∃v,vs=[v]/\RM K H m v:=by
 have⟨_,_,rfl,a,b⟩:=r.inv;cases b;erw[⟨_,rfl,a⟩]
def RMs.two{K:X1}(r:RMs K H [m,n] vs):∃v w,vs=[v,w]/\RM K H m v/\RM K H n w:=by
 have⟨_,_,rfl,a,b⟩:=r.inv;have⟨w,rfl,c⟩:=b.one;erw[⟨_,_,rfl,a,c⟩]
def To:Yw X (.type "dict") (fun l H Q=>∃a j,l=[.ref a]/\H a=wc (.dK j)/\∀p,H p=we->Q (.ref p) (upd H p (.dK j))):=by
 intro m s g H l d Q I r h;have⟨a,j,rfl,t,q⟩:=h;have⟨u,rfl,w⟩:=_H r;cases w;erw[RB I (.inl t) λp c y z=>⟨.ref p,_,z,rfl,q p y⟩]
def HY(O:X.calm=wf)(f:BI):Yw X f.val (liW X.K (wBi f)):=by
 intro u s y H P m Q I r h;have⟨c,M,r1,j,h⟩:=h;cases f with
 |len=>
  have h:bLen c M (Dn X.K H Q):=h;unfold bLen at h;split at h
  .have⟨v,rfl,a⟩:=r1.one;have⟨_,_,rfl,l,t⟩:=a.inv;erw[Dt u s y H _ m Q I r ⟨_,_,rfl,.inr (SqT.of l),by rw[<-t.length];erw[h _ _ (Kp.refl _) (.int _) j]⟩]
  .have⟨v,rfl,a⟩:=r1.one;have⟨_,_,rfl,l,t⟩:=a.inv;erw[Dt u s y H _ m Q I r ⟨_,_,rfl,.inl l.sq,by rw[<-t.length];erw[h _ _ (Kp.refl _) (.int _) j]⟩]
  .have⟨v,rfl,a⟩:=r1.one;obtain rfl:=a.inv;erw[Rj u s y H _ m Q I r ⟨_,rfl,h.1,h.2 _ _ (Kp.refl _) (.int _) j⟩]
  .have⟨v,rfl,a⟩:=r1.one;obtain rfl:=a.inv;rcases h with⟨P,l,h⟩|⟨R,l,h⟩
   .have⟨L,e,t⟩:=j.lst l;erw[Dt u s y H _ m Q I r ⟨_,_,rfl,.inl (SqL.of e),by rw[<-t.length];erw[h _ _ (Kp.refl _) (.int _) j]⟩]
   .have⟨L,e,t,_⟩:=j.dic l;erw[RI u s y H _ m Q I r ⟨_,_,rfl,e,by rw[<-t.length];erw[h _ _ (Kp.refl _) (.int _) j]⟩]
  .erw[h.elim]
 |isinst=>
  have h:bIsi c M (Dn X.K H Q):=h;unfold bIsi at h;split at h
  .have⟨v,w,rfl,a,b⟩:=r1.two;obtain rfl:=b.inv;have⟨T,l,N,U⟩:=h;erw[RL u s y H _ m Q I r ⟨_,_,_,_,rfl,HU j a l,DB _ _ _ N,U _ _ (Kp.refl _) (.bl _) j⟩]
  .have⟨v,w,rfl,a,b⟩:=r1.two;have⟨T,l,N,U,A⟩:=h;have⟨_,_,rfl,B,C⟩:=b.inv;cases C with
   |cons t D=>
    cases D with
    |cons E F=>
     cases F;cases t;cases E;erw[SV u s y H _ m Q I r ⟨_,_,_,_,_,_,_,rfl,B,HU j a l,DB _ _ _ N,DB _ _ _ U,A _ _ (Kp.refl _) (.bl _) j⟩]
  .erw[h.elim]
 |max=>
  have h:bMax c M (Dn X.K H Q):=h;unfold bMax at h;split at h
  .have⟨v,w,rfl,a,b⟩:=r1.two;obtain rfl:=a.inv;obtain rfl:=b.inv;erw[Qx O u s y H _ m Q I r ⟨_,_,rfl,h _ _ (Kp.refl _) (.int _) j⟩]
  .erw[h.elim]
 |min=>
  have h:bMin c M (Dn X.K H Q):=h;unfold bMin at h;split at h
  .have⟨v,w,rfl,a,b⟩:=r1.two;obtain rfl:=a.inv;obtain rfl:=b.inv;erw[Qy O u s y H _ m Q I r ⟨_,_,rfl,h _ _ (Kp.refl _) (.int _) j⟩]
  .erw[h.elim]
 |sum=>erw[XN h]
 |abs=>erw[XN h]
 |int=>
  have h:bInt c M (Dn X.K H Q):=h;unfold bInt at h;split at h
  .have⟨v,rfl,a⟩:=r1.one;obtain rfl:=a.inv;erw[Qz u s y H _ m Q I r (.inr ⟨_,rfl,h _ _ (Kp.refl _) (.int _) j⟩)]
  .erw[h.elim]
 |list=>
  have h:bLst c M (Dn X.K H Q):=h;unfold bLst at h;split at h
  .have⟨v,rfl,a⟩:=r1.one;have⟨_,_,rfl,l,t⟩:=a.inv;erw[GJ u s y H _ m Q I r ⟨_,_,rfl,.inr (SqT.of l),λp g=>?_⟩];have k:=λz=>Kp.new g (.lst z);erw[h p (j.free g) _ _ (k _) (.ref p) (j.put (k _) (t.mono (k _)))]
  .have⟨v,rfl,a⟩:=r1.one;obtain rfl:=a.inv;have⟨P,l,h⟩:=h;have⟨L,e,t⟩:=j.lst l;erw[GJ u s y H _ m Q I r ⟨_,_,rfl,.inl (SqL.of e),λp g=>?_⟩];have k:=Kp.new g (.lst L);erw[h p (j.free g) _ _ k (.ref p) (j.put k (t.mono k))]
  .erw[h.elim]
 |tuple=>
  have h:bTup c M (Dn X.K H Q):=h;unfold bTup at h;split at h
  .have⟨v,rfl,a⟩:=r1.one;obtain rfl:=a.inv;have⟨P,l,h⟩:=h;have⟨L,e,t⟩:=j.lst l;erw[Rk u s y H _ m Q I r ⟨_,_,rfl,.inl ⟨SqL.of e,λp g=>?_⟩⟩];have k:=Kp.new g (.tup L);erw[h _ _ k (.tup _G (t.mono k)) (j.kept g _)]
  .erw[h.elim]
 |dict=>
  have h:bDic c M (Dn X.K H Q):=h;unfold bDic at h;split at h
  .have⟨v,rfl,a⟩:=r1.one;obtain rfl:=a.inv;have⟨R,l,h⟩:=h;have⟨L,e,t,G⟩:=j.dic l;erw[To u s y H _ m Q I r ⟨_,_,rfl,e,λp g=>?_⟩];have k:=Kp.new g (.dK L);erw[h p (j.free g) _ _ k (.ref p) (j.put k ⟨t.mono k,G⟩)]
  .have⟨v,rfl,a⟩:=r1.one;have⟨J,rfl,N⟩:=h;have⟨_,_,rfl,e,t⟩:=a.inv;have⟨d,pv,W⟩:=HV t;erw[Hw O u s y H _ m Q I r ⟨_,d,_,rfl,.inr e,pv,λp g=>?_⟩];have k:=Kp.new g (.dK (VL d));have⟨Y,Z⟩:=HW W (.nil:RKs X.K H [] []) (by simp)
   erw[N p (j.free g) _ _ k (.ref p) (j.put k ⟨Y.mono k,Z⟩)]
  .erw[h.elim]
 |sorted=>erw[XN h]
 |dictL=>
  have h:bDcl c M (Dn X.K H Q):=h;unfold bDcl at h;split at h
  .have⟨v,rfl,a⟩:=r1.one;obtain rfl:=a.inv;have⟨J,l,N⟩:=h;have⟨L,e,t⟩:=j.lst l;have⟨d,pv,W⟩:=HV t;erw[Hw O u s y H _ m Q I r ⟨_,d,L,rfl,.inl e,pv,λp g=>?_⟩];have k:=Kp.new g (.dK (VL d));have⟨Y,Z⟩:=HW W (.nil:RKs X.K H [] []) (by simp)
   erw[N p (j.free g) _ _ k (.ref p) (j.put k ⟨Y.mono k,Z⟩)]
  .erw[h.elim]
 |all=>
  have h:bAll c M (Dn X.K H Q):=h;unfold bAll at h;split at h
  .have⟨v,rfl,a⟩:=r1.one;obtain rfl:=a.inv;have⟨bs,l,N⟩:=h;have⟨L,e,t⟩:=j.lst l;have:=t.bls_of;subst this;erw[SI O u s y H _ m Q I r ⟨_,bs,rfl,SqL.of e,N _ _ (Kp.refl _) (.bl _) j⟩]
  .erw[h.elim]
end
theorem RMs.strs{K:X1}:∀j:List Str,RMs K H (j.map MV.str) (j.map V.str)
 |[]=>.nil
 |n::r=>.cons (.str n) (RMs.strs r)
def RMs.strs_of{K:X1}{H:Hp}{j:List Str}{l:List V}(h:RMs K H (j.map MV.str) l):l=j.map V.str:=h.map_of λ_ _ x=>by cases x;rfl
theorem HZ{K:X1}(f:Nat->Int):∀l:List Nat,RMs K H (l.map λi=>MV.int (f i)) (l.map λi=>V.int (f i))
 |[]=>.nil
 |_::r=>.cons (.int _) (HZ f r)
def Tp{K:X1}(n:Nat):RMs K H ((Xr n).map λi=>MV.int (i:Nat)) ((Xr n).map λi=>V.int (i:Nat)):=HZ (λi=>(i:Int)) _
inductive B2 where|ssrt|lset|tset|lrng
  deriving DecidableEq
noncomputable def B2.out:B2->String
 |.ssrt=>"sorted"
 |.lset=>"len"
 |.tset=>"len"
 |.lrng=>"list"
noncomputable def B2.inn:B2->String
 |.ssrt=>"set"
 |.lset=>"set"
 |.tset=>"set"
 |.lrng=>"range"
noncomputable def B2.outV:B2->Value
 |.ssrt=>.builtin "sorted"
 |.lset=>.builtin "len"
 |.tset=>.builtin "len"
 |.lrng=>.type "list"
def wB2(f:B2)(v:MV)(M:MH)(Q:QM):Prop:=match f with
 |.ssrt=>∃(a:Addr) (j N:List Str),v=.ref a/\M a=wc (.lst (j.map MV.str))/\j.length+1<scanBound/\(∀z∈j,z∈N)/\N.length<64/\
   ∀p (l:List Str),M p=we->l.Nodup->(∀y,y∈l↔y∈j)->sortedS l=wf->Q (.ref p) (updM M p (.lst (l.map MV.str)))
 |.lset=>False
 |.tset=>False
 |.lrng=>∃n:Nat,v=.int n/\n<=1000000/\∀p,M p=we->Q (.ref p) (updM M p (.lst ((Xr n).map λi=>MV.int (i:Nat))))
def I0(f:B2):Mon1 (wB2 f):=by
 intro v M Q O u h;cases f with
 |ssrt=>
  have⟨a,w,N,j,l,t,y,z,m⟩:=h;erw[⟨a,w,N,j,l,t,y,z,λp g d c r e=>u _ _ (m p g d c r e)⟩]
 |lset=>erw[XN h]
 |tset=>erw[XN h]
 |lrng=>
  have⟨n,j,l,t⟩:=h;erw[⟨n,j,l,λp L=>u _ _ (t p L)⟩]
section
variable{X:Cx}
def Tq(z:X.calm=wf)(f:B2):WQ X f.outV (.type f.inn) (li1 X.K (wB2 f)):=by
 intro g s d H x u Q I r h;have⟨m,M,r1,j,h⟩:=h;cases f with
 |ssrt=>
  have⟨a,c,N,rfl,t,w,L,O,P⟩:=h;obtain rfl:=r1.inv;have⟨Y,e,R⟩:=j.lst t;have:=R.strs_of;subst this;erw[SC z g s d H _ u Q I r ⟨_,c,N,rfl,SqL.of e,w,L,O,λp y l T U W=>?_⟩];have k:=Kp.new l (.lst (y.map V.str));erw[P p y (j.free l) T U W _ _ k (.ref p) (j.put k (RMs.strs y))]
 |lset=>erw[XN h]
 |tset=>erw[XN h]
 |lrng=>
  have⟨n,rfl,t,w⟩:=h;obtain rfl:=r1.inv;erw[T0 z g s d H _ u Q I r ⟨n,rfl,t,λp l=>?_⟩];have k:=Kp.new l (.lst ((Xr n).map λi=>V.int (i:Nat)));erw[w p (j.free l) _ _ k (.ref p) (j.put k (Tp n))]
end
inductive MT where|append|extend
  deriving DecidableEq
def wMt(m:MT)(a:Addr)(t:List MV)(M:MH)(Q:QM):Prop:=∃j,M a=wc (.lst j)/\match m,t with
 |.append,[y]=>j.length<sizeLine/\Q .non (updM M a (.lst (j++[y])))
 |.extend,[.ref b]=>∃l,M b=wc (.lst l)/\j.length+l.length<=sizeLine/\Q .non (updM M a (.lst (j++l)))
 |_,_=>False
def wMl(m:MT)(x:MV)(j:List MV)(M:MH)(Q:QM):Prop:=match x with
 |.ref a=>wMt m a j M Q
 |_=>False
noncomputable def MT.isL:MT->Bool
 |_=>wf
noncomputable def MT.ty:MT->String
 |_=>"list"
def mtOk(m:MT)(x:MV)(M:MH):Prop:=match m with
 |_=>∃a j,x=.ref a/\M a=wc (.lst j)
def wMts(m:MT)(x:MV)(j:List MV)(M:MH)(Q:QM):Prop:=match m with
 |m=>wMl m x j M Q
def Ia(h:m.isL=wf):wMts m x vs M Q=wMl m x vs M Q:=by cases m<;>first|rfl|cases h
def Tr(j:∀m l,Q m l->Q' m l)(h:wMl m a vs M Q):wMl m a vs M Q':=by
 cases a<;>try erw[h.elim]
 have⟨t,u,h⟩:=h;erw[⟨t,u,?_⟩];split at h
 .erw[⟨h.1,j _ _ h.2⟩]
 .have⟨w,a,b,c⟩:=h;erw[⟨w,a,b,j _ _ c⟩]
 .erw[h.elim]
def DC{m:MT}{a:MV}{j:List MV}{M:MH}{Q l:QM}(u:∀m t,Q m t->l m t)(h:wMts m a j M Q):wMts m a j M l:=by
 cases e:m.isL
 .cases m<;>cases e
 .rw[Ia e]at h ⊢;erw[Tr u h]
noncomputable def MT.id:MT->String
 |.append=>"list.append"|.extend=>"list.extend"
def liM(K:X1)(w:MV->List MV->MH->QM->Prop):V->List V->Hp->VK->Prop:=λx t H Q=>∃j l M,RM K H j x/\RMs K H l t/\RH K M H/\w j l M (Dn K H Q)
section
variable{X:Cx}
def Ts(R:X.A.units+1<cLine)(m:MT):MtR X m.id (liM X.K (wMl m)):=by
 intro y s z H x T v g Q I d f h;have⟨U,W,M,r1,r,l,h⟩:=h;cases r1<;>try erw[h.elim]
 have⟨Y,N,h⟩:=h;have⟨p,e,t⟩:=l.lst N;have j:∀o,Kp H (upd H _ o):=λo=>Kp.upd e rfl o;split at h
 .have⟨w,rfl,u⟩:=r.one;erw[GN y s z H _ _ v g Q I d f ⟨_,p,w,rfl,rfl,e,by rw[<-t.length];erw[h.1],h.2 _ _ (j _) .non (l.put (j _) ((t.append (.cons u .nil)).mono (j _)))⟩]
 .have⟨w,rfl,u⟩:=r.one;obtain rfl:=u.inv;have⟨Z,a,b,c⟩:=h;have⟨O,P,L⟩:=l.lst a;erw[Rq y s z H _ _ v g Q I d f ⟨_,_,p,O,rfl,rfl,e,P,by rw[<-t.length,<-L.length];erw[b],c _ _ (j _) .non (l.put (j _) ((t.append L).mono (j _)))⟩]
 .erw[h.elim]
def Ib(j:X.A.units+1<cLine)(m:MT):MtR X m.id (liM X.K (wMts m)):=by
 intro l s t H x u v w Q I y z h;have⟨g,d,M,r1,c,f,h⟩:=h;cases e:m.isL
 .cases m<;>cases e
 .rw[Ia e]at h;erw[Ts j m l s t H x u v w Q I y z ⟨g,d,M,r1,c,f,h⟩]
end
def wPut(o i v:MV)(M:MH)(Q:MH->Prop):Prop:=match o with
 |.ref a=>(∃t k j,M a=wc (.lst t)/\i=.int k/\ixN t.length k=wc j/\Q (updM M a (.lst (t.set j v))))\/∃l u,M a=wc (.dic l)/\keyM i=wc u/\l.length<sizeLine/\Q (updM M a (.dic (putM l u v)))
 |_=>False
def Ic{o i v:MV}{M:MH}{Q z:MH->Prop}(m:∀g,Q g->z g)(h:wPut o i v M Q):wPut o i v M z:=by
 cases o<;>try erw[h.elim]
 rcases h with⟨d,k,j,l,t,u,w⟩|⟨y,c,l,t,u,w⟩
 .erw[.inl ⟨d,k,j,l,t,u,m _ w⟩]
 .erw[.inr ⟨y,c,l,t,u,m _ w⟩]
def DnH(K:X1)(H:Hp)(Q:Hp->Prop):MH->Prop:=λM=>∀j,Kp H j->RH K M j->Q j
def Ie(K:X1):TSet:=λo i v H Q=>∃j l mv M,RM K H j o/\RM K H l i/\RM K H mv v/\RH K M H/\wPut j l mv M (DnH K H Q)
section
variable{X:Cx}
def Tt(O:X.A.units+1<cLine):PSet X (Ie X.K):=by
 intro P s R H o i v c T u Q I f r p h;have⟨C,D,mv,M,r1,L,N,t,h⟩:=h;cases r1<;>try erw[h.elim]
 rcases h with⟨E,k,j,y,rfl,z,m⟩|⟨U,g,y,W,z,m⟩
 .obtain rfl:=L.inv;have⟨w,e,l⟩:=t.lst y;have k:=Kp.upd e rfl (.lst (w.set j v));erw[Rg P s R H _ _ v c T u Q I f r p ⟨_,w,_,j,rfl,rfl,e,by rw[<-l.length];erw[z],m _ k (t.put k ((l.set N j).mono k))⟩]
 .have⟨w,e,l,Y⟩:=t.dic y;have Z:=WR W L;subst Z;obtain rfl:c=Xt _:=f;have k:=Kp.upd e rfl (.dK (putK w g v));have⟨A,d⟩:=HI (k:=g) N Y l;erw[Rw O I (DPut.k (k:=g) e (by rw[<-l.length];erw[z])) r p λF B=>⟨_,B,m _ k (t.put k ⟨A.mono k,d⟩)⟩]
end
end L2
namespace L2
set_option genInjectivity false
set_option genCtorIdx false
open PySem PySem.Spec PyProof.Rows
mutual
inductive ITg where|nm (i:Nat)|tup (ts:ITgs)
inductive ITgs where|nil|cons (t:ITg)(ts:ITgs)
end
mutual
inductive IE where
 |var (i:Nat)
 |int (i:Int)|str (x:Str)|bl (b:Bool)|non
 |glb (x:Str)(i:Int)
 |ty (c:Ty7)
 |bin (op:Uh)(a b:IE)
 |neg (a:IE)
 |not (a:IE)
 |cmp (op:CmpOp)(a b:IE)
 |chn (op op':CmpOp)(a b c:IE)
 |and (a b:IE)
 |or (a b:IE)
 |ife (c a b:IE)
 |tup (es:IEs)
 |lst (es:IEs)
 |dic
 |ix (a b:IE)
 |sl (a:IE)(lo hi:IO)
 |call (j:Nat)(e:IE)(es:IEs)
 |bi (f:BI)(e:IE)(es:IEs)
 |b2 (f:B2)(e:IE)
 |mt (m:MT)(o:IE)(es:IEs)
 |comp (own:List Str)(fr:List Nat)(src:ISr)(tg:ITg)(test:IO)(elt:IE)
 |fld (c:Str)(o:IE)(f:Str)
 |mcall (j:Nat)(c m:Str)(o:IE)(es:IEs)
 |make (j:Nat)(c:Str)(e:IE)(es:IEs)
 |disp (ps:IPs)
 |mxd (e:IE)
 |st3 (e:IE)
inductive IPs where|nil|cons (k v:IE)(r:IPs)
inductive IEs where|nil|cons (e:IE)(es:IEs)
inductive IO where|none|some (e:IE)
inductive ISr where|seq (e:IE)|rng (e:IE)
end
def wSt3(v:MV)(M:MH)(Q:QM):Prop:=∃(a:Addr) (j:List MV),v=.ref a/\M a=wc (.lst j)/\∀p,M p=we->Q (.ref p) (updM M p (.lst (st3 j)))
def Tu(j:∀v M,Q v M->Q' v M)(h:wSt3 v M Q):wSt3 v M Q':=by
 have⟨a,l,t,u,w⟩:=h;erw[⟨a,l,t,u,λp y=>j _ _ (w p y)⟩]
def wMxd(v:MV)(M:MH)(Q:QM):Prop:=∃(a:Addr) (j:List Int),v=.ref a/\M a=wc (.lst (j.map MV.int))/\∀m,(j=[]/\m=0\/m∈j/\∀i∈j,i<=m)->Q (.int m) M
def Tv(j:∀v M,Q v M->Q' v M)(h:wMxd v M Q):wMxd v M Q':=by
 have⟨a,l,t,u,w⟩:=h;erw[⟨a,l,t,u,λm y=>j _ _ (w m y)⟩]
inductive Src where|tup (xs:List MV)|lst (a:Addr)(xs:List MV)|rng (lo:Int)(n:Nat)|str (x:Str)
noncomputable def Src.items:Src->List MV
 |.tup xs=>xs
 |.lst _ xs=>xs
 |.rng lo n=>(Xr n).map λi=>.int (lo+(i:Nat))
 |.str x=>x.cps.toList.map λc=>.str ⟨#[c]⟩
def Src.ok(M:MH):Src->Prop
 |.lst a xs=>M a=wc (.lst xs)
 |_=>True
def Src.okF(M:MH):Src->Prop
 |.lst a xs=>M a=wc (.lst xs)
 |_=>True
def Src.okT(M:MH):Src->Prop
 |_=>True
def Src.thaw(M:MH):Src->MH
 |_=>M
noncomputable def Src.len:Src->Nat
 |.tup xs=>xs.length
 |.lst _ xs=>xs.length
 |.rng _ n=>n
 |.str x=>x.cps.size
def Src.items_len(S:Src):S.items.length=S.len:=by cases S<;>simp[Src.items,Src.len]
abbrev SpM:=List MV->MH->QM->Prop
abbrev TSm:=Sm->MH->(Src->MH->Prop)->Prop
mutual
def wTg:ITg->MV->Sm->(Sm->Prop)->Prop
 |.nm i,v,σ,Q=>Q (σ.set i (wc v))
 |.tup ts,v,σ,Q=>∃xs,v=.tup xs/\wTgs ts xs σ Q
def wTgs:ITgs->List MV->Sm->(Sm->Prop)->Prop
 |.nil,xs,σ,Q=>xs=[]/\Q σ
 |.cons t ts,xs,σ,Q=>∃v r,xs=v::r/\wTg t v σ λj=>wTgs ts r j Q
end
noncomputable def sCm(own:List Str)(fr:List Nat)(j:Sm):Sm:=own.map (λ_=>we)++fr.map (λi=>j.getD i we)
def onV(o:Option (Option MV))(k:MV->Prop):Prop:=match o with
 |wc (wc v)=>k v
 |_=>False
def Tw{k:MV->Prop}:onV o k=∃v,o=wc (wc v)/\k v:=by
 erw[propext ⟨λh=>?_,λj=>by have⟨v,e,h⟩:=j;subst e;erw[h]⟩]
 match o,h with
 |wc (wc v),h=>erw[⟨v,rfl,h⟩]
def onB(x:MV)(k:Bool->Prop):Prop:=match x with
 |.bl c=>k c
 |_=>False
def VP{k:Bool->Prop}:onB x k=∃c,x=.bl c/\k c:=by
 erw[propext ⟨λh=>?_,λj=>by have⟨v,e,h⟩:=j;subst e;erw[h]⟩]
 cases x<;>first|erw[⟨_,rfl,h⟩]|erw[h.elim]
def onF(o:Option (Str×SpM))(k:SpM->Prop):Prop:=match o with
 |wc p=>k p.2
 |we=>False
def Tx{k:SpM->Prop}:onF o k=∃f j,o=wc (f,j)/\k j:=by
 erw[propext ⟨λh=>?_,λl=>by have⟨f,v,e,h⟩:=l;subst e;erw[h]⟩]
 match o,h with
 |wc (f,j),h=>erw[⟨f,j,rfl,h⟩]
mutual
def wE(Φ:List (Str×SpM)):IE->TEm
 |.var i,σ,M,Q=>onV σ[i]? λv=>Q v M
 |.int i,_,M,Q=>Q (.int i) M
 |.str x,_,M,Q=>Q (.str x) M
 |.bl b,_,M,Q=>Q (.bl b) M
 |.non,_,M,Q=>Q .non M
 |.glb _ i,_,M,Q=>Q (.int i) M
 |.ty c,_,M,Q=>Q (.ty c) M
 |.bin op a b,σ,M,Q=>wE Φ a σ M λx M1=>wE Φ b σ M1 λy M2=>wBin op x y M2 Q
 |.neg a,σ,M,Q=>wE Φ a σ M λx M1=>∃i,x=.int i/\Q (.int (-i)) M1
 |.not a,σ,M,Q=>wE Φ a σ M λx M1=>onB x λb=>Q (.bl (!b)) M1
 |.cmp op a b,σ,M,Q=>wE Φ a σ M λx M1=>wE Φ b σ M1 λy M2=>wCmp op x y M2 Q
 |.chn op op' a b c,σ,M,Q=>wE Φ a σ M λx M1=>wE Φ b σ M1 λy M2=>wCmp op x y M2 λz g=>onB z λk=>(if k=wf then wE Φ c σ g λw L=>wCmp op' y w L Q else Q (.bl wg) g)
 |.and a b,σ,M,Q=>wE Φ a σ M λx M1=>onB x λc=>(if c=wf then wE Φ b σ M1 Q else Q (.bl wg) M1)
 |.or a b,σ,M,Q=>wE Φ a σ M λx M1=>onB x λc=>(if c=wf then Q (.bl wf) M1 else wE Φ b σ M1 Q)
 |.ife c a b,σ,M,Q=>wE Φ c σ M λx M1=>onB x λk=>(if k=wf then wE Φ a σ M1 Q else wE Φ b σ M1 Q)
 |.tup es,σ,M,Q=>wEs Φ es σ M λvs M1=>vs.length<=sizeLine/\Q (.tup vs) M1
 |.lst es,σ,M,Q=>wEs Φ es σ M λvs M1=>vs.length<=sizeLine/\∀p,M1 p=we->Q (.ref p) (updM M1 p (.lst vs))
 |.dic,_,M,Q=>∀p,M p=we->Q (.ref p) (updM M p (.dic []))
 |.ix a b,σ,M,Q=>wE Φ a σ M λx M1=>wE Φ b σ M1 λy M2=>wIx x y M2 Q
 |.sl a lo hi,σ,M,Q=>wE Φ a σ M λx M1=>wO Φ lo σ M1 λl M2=>wO Φ hi σ M2 λh g=>wSl x l h g Q
 |.call j e es,σ,M,Q=>wE Φ e σ M λv M1=>wEs Φ es σ M1 λvs M2=>onF Φ[j]? λsp=>sp (v::vs) M2 Q
 |.bi f e es,σ,M,Q=>wE Φ e σ M λv M1=>wEs Φ es σ M1 λvs M2=>wBi f (v::vs) M2 Q
 |.b2 f e,σ,M,Q=>wE Φ e σ M λv M1=>wB2 f v M1 Q
 |.mxd e,σ,M,Q=>wE Φ e σ M λv M1=>wMxd v M1 Q
 |.st3 e,σ,M,Q=>wE Φ e σ M λv M1=>wSt3 v M1 Q
 |.mt m o es,σ,M,Q=>wE Φ o σ M λx M1=>mtOk m x M1/\wEs Φ es σ M1 λvs M2=>wMts m x vs M2 Q
 |.comp own fr src tg test elt,σ,M,Q=>wSr Φ src σ M λS M1=>S.len<sizeLine/\∀D,M1 D=we->∃J:Nat->List MV->MH->Prop,J 0 [] (updM M1 D (.lst []))/\
   (∀i t M2,J i t M2->M2 D=wc (.lst t)/\t.length<=i/\S.ok M2)/\
   (∀i x t M2,S.items[i]?=wc x->J i t M2->wTg tg x (sCm own fr σ) λd=>wI Φ test d M2 λb L=>
    if b=wf then wE Φ elt d L λy N=>N D=wc (.lst t)/\J (i+1) (t++[y]) (updM N D (.lst (t++[y])))else J (i+1) t L)/\
   ∀t M2,J S.len t M2->Q (.ref D) (S.thaw M2)
 |.fld c o f,σ,M,Q=>wE Φ o σ M λx M1=>∃a fs v,x=.ref a/\M1 a=wc (.ins c fs)/\valM fs f=wc v/\Q v M1
 |.mcall j c m o es,σ,M,Q=>wE Φ o σ M λx M1=>∃a fs,x=.ref a/\M1 a=wc (.ins c fs)/\valM fs m=we/\wEs Φ es σ M1 λvs M2=>∃f sp,Φ[j]?=wc (f,sp)/\sp (.ref a::vs) M2 Q
 |.make j c e es,σ,M,Q=>wE Φ e σ M λv M1=>wEs Φ es σ M1 λvs M2=>∃f sp,Φ[j]?=wc (f,sp)/\∀p,M2 p=we->sp (.ref p::v::vs) (updM M2 p (.ins c [])) λu g=>u=.non/\Q (.ref p) g
 |.disp ps,σ,M,Q=>∀p,M p=we->wPs Φ ps σ (updM M p (.dic [])) λl M2=>M2 p=wc (.dic [])/\l.length<=15/\Q (.ref p) (updM M2 p (.dic (Ua l)))
def wPs(Φ:List (Str×SpM)):IPs->Sm->MH->(List (Key×MV)->MH->Prop)->Prop
 |.nil,_,M,Q=>Q [] M
 |.cons k v r,σ,M,Q=>wE Φ k σ M λx M1=>∃O,keyM x=wc O/\wE Φ v σ M1 λy M2=>wPs Φ r σ M2 λl g=>Q ((O,y)::l) g
def wEs(Φ:List (Str×SpM)):IEs->TAm
 |.nil,_,M,Q=>Q [] M
 |.cons e es,σ,M,Q=>wE Φ e σ M λv M1=>wEs Φ es σ M1 λvs M2=>Q (v::vs) M2
def wO(Φ:List (Str×SpM)):IO->Sm->MH->(Option Int->MH->Prop)->Prop
 |.none,_,M,Q=>Q we M
 |.some e,σ,M,Q=>wE Φ e σ M λv M1=>∃i,v=.int i/\Q (wc i) M1
def wI(Φ:List (Str×SpM)):IO->Sm->MH->(Bool->MH->Prop)->Prop
 |.none,_,M,Q=>Q wf M
 |.some e,σ,M,Q=>wE Φ e σ M λv M1=>∃b,v=.bl b/\Q b M1
def wSr(Φ:List (Str×SpM)):ISr->TSm
 |.seq e,σ,M,Q=>wE Φ e σ M λv M1=>(∃xs,(v=.tup xs\/v=.frl xs)/\Q (.tup xs) M1)\/(∃a xs,v=.ref a/\M1 a=wc (.lst xs)/\Q (.lst a xs) M1)\/False\/∃z,v=.str z/\Q (.str z) M1
 |.rng e,σ,M,Q=>wE Φ e σ M λv M1=>∃j,v=.int j/\ -(2^62)<=j/\j<2^62/\Q (.rng 0 j.toNat) M1
end
section
variable{Φ:List (Str×SpM)}{σ:Sm}{M:MH}{Q:QM}
def Ig{i:Nat}:wE Φ (.var i) σ M Q=∃v,σ[i]?=wc (wc v)/\Q v M:=Tw
def DD{a:IE}:wE Φ (.not a) σ M Q=wE Φ a σ M λx M1=>∃b,x=.bl b/\Q (.bl (!b)) M1:=congrArg (wE Φ a σ M) (funext λ_=>funext λ_=>VP)
def Ih:wE Φ (.chn op op' a b c) σ M Q=wE Φ a σ M λx M1=>wE Φ b σ M1 λy M2=>wCmp op x y M2 λz j=>∃k,z=.bl k/\(if k=wf then wE Φ c σ j λw l=>wCmp op' y w l Q else Q (.bl wg) j):=congrArg (wE Φ a σ M) (funext λ_=>funext λ_=>congrArg (wE Φ b σ _) (funext λ_=>funext λ_=>congrArg (wCmp op _ _ _) (funext λ_=>funext λ_=>VP)))
def DE{a b:IE}:wE Φ (.and a b) σ M Q=wE Φ a σ M λx M1=>∃c,x=.bl c/\(if c=wf then wE Φ b σ M1 Q else Q (.bl wg) M1):=congrArg (wE Φ a σ M) (funext λ_=>funext λ_=>VP)
def x_or{a b:IE}:wE Φ (.or a b) σ M Q=wE Φ a σ M λx M1=>∃c,x=.bl c/\(if c=wf then Q (.bl wf) M1 else wE Φ b σ M1 Q):=congrArg (wE Φ a σ M) (funext λ_=>funext λ_=>VP)
def Ii{a b c:IE}:wE Φ (.ife c a b) σ M Q=wE Φ c σ M λx M1=>∃k,x=.bl k/\(if k=wf then wE Φ a σ M1 Q else wE Φ b σ M1 Q):=congrArg (wE Φ c σ M) (funext λ_=>funext λ_=>VP)
def Ij{j:Nat}{e:IE}{l:IEs}:wE Φ (.call j e l) σ M Q=wE Φ e σ M λv M1=>wEs Φ l σ M1 λu M2=>∃f t,Φ[j]?=wc (f,t)/\t (v::u) M2 Q:=congrArg (wE Φ e σ M) (funext λ_=>funext λ_=>congrArg (wEs Φ l σ _) (funext λ_=>funext λ_=>Tx))
end
mutual
theorem WU:∀(t:ITg){v:MV} {j:Sm} {Q l:Sm->Prop},(∀j,Q j->l j)->wTg t v j Q->wTg t v j l
 |.nm i,v,j,Q,l,hq,h=>by erw[hq _ h]
 |.tup ts,v,j,Q,l,hq,h=>by
  have⟨xs,e,h⟩:=h;erw[⟨xs,e,mon_tgs ts hq h⟩]
theorem mon_tgs:∀(t:ITgs){v:List MV} {j:Sm} {Q l:Sm->Prop},(∀j,Q j->l j)->wTgs t v j Q->wTgs t v j l
 |.nil,v,j,Q,l,hq,h=>by erw[⟨h.1,hq _ h.2⟩]
 |.cons t ts,v,j,Q,l,hq,h=>by
  have⟨x,r,e,h⟩:=h;erw[⟨x,r,e,WU t (λu h'=>mon_tgs ts hq h') h⟩]
end
def YG{c:Prop} [Decidable c] {A B j l:Prop}(t:A->j)(u:B->l)(h:if c then A else B):if c then j else l:=by
 split at h
 .rw[if_pos (by assumption)];erw[t h]
 .rw[if_neg (by assumption)];erw[u h]
mutual
theorem X6{Φ:List (Str×SpM)}(t:∀(j:Nat)f sp,Φ[j]?=wc (f,sp)->MonW sp):∀e:IE,MonE (wE Φ e)
 |.var i,g,M,Q,d,hq,h=>by rw[Ig]at h ⊢;have⟨v,e,h⟩:=h;erw[⟨v,e,hq _ _ h⟩]
 |.int _,g,M,Q,d,hq,h=>by erw[hq _ _ h]
 |.str _,g,M,Q,d,hq,h=>by erw[hq _ _ h]
 |.bl _,g,M,Q,d,hq,h=>by erw[hq _ _ h]
 |.non,g,M,Q,d,hq,h=>by erw[hq _ _ h]
 |.glb _ _,g,M,Q,d,hq,h=>by erw[hq _ _ h]
 |.ty _,g,M,Q,d,hq,h=>by erw[hq _ _ h]
 |.bin op a b,g,M,Q,d,hq,h=>by
  erw[X6 t a (λx M1 u=>X6 t b (λy M2 L=>HD op hq L) u) h]
 |.neg a,g,M,Q,d,hq,h=>by
  erw[X6 t a (λx M1 h'=>by have⟨i,e,u⟩:=h';erw[⟨i,e,hq _ _ u⟩]) h]
 |.not a,g,M,Q,d,hq,h=>by
  rw[DD]at h ⊢;erw[X6 t a (λx M1 h'=>by have⟨i,e,u⟩:=h';erw[⟨i,e,hq _ _ u⟩]) h]
 |.cmp op a b,g,M,Q,d,hq,h=>by
  erw[X6 t a (λx M1 u=>X6 t b (λy M2 L=>VN op hq L) u) h]
 |.chn op op' a b c,g,M,Q,d,hq,h=>by
  rw[Ih]at h ⊢;erw[X6 t a (λx M1 u=>X6 t b (λy M2 L=>VN op (λz T h'=>by have⟨k,e,P⟩:=h';erw[⟨k,e,YG (X6 t c λw X U=>VN op' hq U) (hq _ _) P⟩]) L) u) h]
 |.and a b,g,M,Q,d,hq,h=>by
  rw[DE]at h ⊢;erw[X6 t a (λx M1 h'=>by have⟨c,e,u⟩:=h';erw[⟨c,e,YG (X6 t b hq) (hq _ _) u⟩]) h]
 |.or a b,g,M,Q,d,hq,h=>by
  rw[x_or]at h ⊢;erw[X6 t a (λx M1 h'=>by have⟨c,e,u⟩:=h';erw[⟨c,e,YG (hq _ _) (X6 t b hq) u⟩]) h]
 |.ife c a b,g,M,Q,d,hq,h=>by
  rw[Ii]at h ⊢;erw[X6 t c (λx M1 h'=>by have⟨k,e,u⟩:=h';erw[⟨k,e,YG (X6 t a hq) (X6 t b hq) u⟩]) h]
 |.tup es,g,M,Q,d,hq,h=>by
  erw[mon_es t es (λvs M1 h'=>by have⟨e,u⟩:=h';erw[⟨e,hq _ _ u⟩]) h]
 |.lst es,g,M,Q,d,hq,h=>by
  erw[mon_es t es (λvs M1 h'=>by have⟨e,u⟩:=h';erw[⟨e,λp N=>hq _ _ (u p N)⟩]) h]
 |.dic,g,M,Q,d,hq,h=>by
  erw[λp N=>hq _ _ (h p N)]
 |.ix a b,g,M,Q,d,hq,h=>by
  erw[X6 t a (λx M1 u=>X6 t b (λy M2 L=>HP hq L) u) h]
 |.sl a lo hi,g,M,Q,d,hq,h=>by
  erw[X6 t a (λx M1 u=>mon_o t lo (λy M2 L=>mon_o t hi (λz T P=>HS hq P) L) u) h]
 |.call j e es,g,M,Q,d,hq,h=>by
  rw[Ij]at h ⊢;erw[X6 t e (λx M1 u=>mon_es t es (λy M2 h'=>by have⟨f,sp,e,L⟩:=h';erw[⟨f,sp,e,t _ _ _ e hq L⟩]) u) h]
 |.bi f e es,g,M,Q,d,hq,h=>by
  erw[X6 t e (λx M1 u=>mon_es t es (λy M2 L=>HX f hq L) u) h]
 |.b2 f e,g,M,Q,d,hq,h=>by
  erw[X6 t e (λx M1 u=>I0 f hq u) h]
 |.mxd e,g,M,Q,d,hq,h=>by
  erw[X6 t e (λx M1 u=>Tv hq u) h]
 |.st3 e,g,M,Q,d,hq,h=>by
  erw[X6 t e (λx M1 u=>Tu hq u) h]
 |.mt m o es,g,M,Q,d,hq,h=>by
  erw[X6 t o (λx M1 h'=>by have⟨W,u⟩:=h';erw[⟨W,mon_es t es (λy M2 L=>DC hq L) u⟩]) h]
 |.comp own fr src tg test elt,g,M,Q,d,hq,h=>by
  erw[mon_sr t src (λS M1 h'=>by have⟨Y,u⟩:=h';erw[⟨Y,λD Z=>by
   have⟨J,A,B,C,E⟩:=u D Z;erw[⟨J,A,B,C,λF M2 G=>hq _ _ (E F M2 G)⟩]⟩]) h]
 |.fld c o f,g,M,Q,d,hq,h=>by
  erw[X6 t o (λx M1 h'=>by have⟨a,fs,v,e,O,R,u⟩:=h';erw[⟨a,fs,v,e,O,R,hq _ _ u⟩]) h]
 |.mcall j c m o es,g,M,Q,d,hq,h=>by
  erw[X6 t o (λx M1 h'=>by have⟨a,fs,e,O,R,u⟩:=h';erw[⟨a,fs,e,O,R,mon_es t es (λy M2 h'=>by have⟨f,sp,e,L⟩:=h';erw[⟨f,sp,e,t _ _ _ e hq L⟩]) u⟩]) h]
 |.make j c e es,g,M,Q,d,hq,h=>by
  erw[X6 t e (λx M1 u=>mon_es t es (λy M2 h'=>by have⟨f,sp,e,L⟩:=h';erw[⟨f,sp,e,λp N=>t _ _ _ e (λm M' z=>⟨z.1,hq _ _ z.2⟩) (L p N)⟩]) u) h]
 |.disp ps,g,M,Q,d,hq,h=>by
  erw[λp N=>mon_ps t ps (λl M2 h'=>by have⟨e,O,u⟩:=h';erw[⟨e,O,hq _ _ u⟩]) (h p N)]
theorem mon_ps(t:∀(j:Nat)f sp,Φ[j]?=wc (f,sp)->MonW sp):∀(e:IPs){g M} {Q d:List (Key×MV)->MH->Prop},(∀m M',Q m M'->d m M')->wPs Φ e g M Q->wPs Φ e g M d
 |.nil,g,M,Q,d,hq,h=>by erw[hq _ _ h]
 |.cons k v r,g,M,Q,d,hq,h=>by
  erw[X6 t k (λx M1 h'=>by have⟨I,e,u⟩:=h';erw[⟨I,e,X6 t v (λy M2 L=>mon_ps t r (λl T P=>hq _ _ P) L) u⟩]) h]
theorem mon_es{Φ:List (Str×SpM)}(t:∀(j:Nat)f sp,Φ[j]?=wc (f,sp)->MonW sp):∀e:IEs,MonA (wEs Φ e)
 |.nil,g,M,Q,d,hq,h=>by erw[hq _ _ h]
 |.cons e es,g,M,Q,d,hq,h=>by
  erw[X6 t e (λx M1 u=>mon_es t es (λy M2 L=>hq _ _ L) u) h]
theorem mon_o{Φ:List (Str×SpM)}(t:∀(j:Nat)f sp,Φ[j]?=wc (f,sp)->MonW sp):∀(e:IO){g M} {Q d:Option Int->MH->Prop},(∀m M',Q m M'->d m M')->wO Φ e g M Q->wO Φ e g M d
 |.none,g,M,Q,d,hq,h=>by erw[hq _ _ h]
 |.some e,g,M,Q,d,hq,h=>by
  erw[X6 t e (λx M1 h'=>by have⟨i,e,u⟩:=h';erw[⟨i,e,hq _ _ u⟩]) h]
theorem mon_i(t:∀(j:Nat)f sp,Φ[j]?=wc (f,sp)->MonW sp):∀(e:IO){g M} {Q d:Bool->MH->Prop},(∀m M',Q m M'->d m M')->wI Φ e g M Q->wI Φ e g M d
 |.none,g,M,Q,d,hq,h=>by erw[hq _ _ h]
 |.some e,g,M,Q,d,hq,h=>by
  erw[X6 t e (λx M1 h'=>by have⟨i,e,u⟩:=h';erw[⟨i,e,hq _ _ u⟩]) h]
theorem mon_sr{Φ:List (Str×SpM)}(t:∀(j:Nat)f sp,Φ[j]?=wc (f,sp)->MonW sp):∀(e:ISr){g M} {Q d:Src->MH->Prop},(∀m M',Q m M'->d m M')->wSr Φ e g M Q->wSr Φ e g M d
 |.seq e,g,M,Q,d,hq,h=>by
  erw[X6 t e (λx M1 u=>by
   rcases u with⟨xs,e,u⟩|⟨a,xs,e,O,u⟩|u|⟨z,e,u⟩
   .erw[.inl ⟨xs,e,hq _ _ u⟩]
   .erw[.inr (.inl ⟨a,xs,e,O,hq _ _ u⟩)]
   .erw[u.elim]
   .erw[.inr (.inr (.inr ⟨z,e,hq _ _ u⟩))]) h]
 |.rng e,g,M,Q,d,hq,h=>by
  erw[X6 t e (λx M1 h'=>by have⟨j,e,a,b,u⟩:=h';erw[⟨j,e,a,b,hq _ _ u⟩]) h]
end
end L2
namespace L2
open PySem PySem.Spec PyProof.Rows
structure GI where
 bl:List Str
 gl:List (Str×Int)
 fns:List Str
 mts:List (Nat×Str×Str):=[]
 mks:List (Nat×Str):=[]
 cls:List (Str×Str):=[]
noncomputable def visB(j:Scope)(x:Str):Bool:=match j.names.lookup x with
 |wc .local=>wf|wc .cell=>wf|wc .free=>wf|_=>wg
noncomputable def locB(j:Scope)(x:Str):Bool:=match j.names.lookup x with
 |wc .local=>wf|wc .cell=>wf|_=>wg
noncomputable def glB(j:Scope)(x:Str):Bool:=decide (j.names.lookup x=wc .globalImplicit)&& !(x==("__debug__":Str))&&decide (x≠"__name__")
noncomputable def VQ(j l:Scope):Scope:={j with names:=j.names.map fun(n,k)=>if(k==.free&&l.kind==.function&&l.names.lookup n==wc .cell)then(n,.cell)else(n,k)}
noncomputable def BI.name:BI->String
 |.len=>"len"|.isinst=>"isinstance"|.max=>"max"|.min=>"min"|.sum=>"sum"|.abs=>"abs"|.int=>"int"|.list=>"list"|.tuple=>"tuple"|.dict=>"dict"|.sorted=>"sorted"|.dictL=>"dict"|.all=>"all"
noncomputable def MT.name:MT->String
 |.append=>"append"|.extend=>"extend"
noncomputable def VR:Expr->Bool
 |.Slice ..=>wg|_=>wf
noncomputable def WV:Expr->Bool
 |.Set ..=>wg|_=>wf
noncomputable def tok:IE->Bool
 |.ife ..=>wg
 |.not a=>tok a
 |.and a b=>tok a&&tok b
 |.or a b=>tok a&&tok b
 |_=>wf
noncomputable def Yc:Expr->Option Str|.Name x _=>wc x|_=>we
noncomputable def V5:Expr->Option Const|.Constant c _ _=>wc c|_=>we
noncomputable def BM:Expr->Option (Expr×Uh×Expr)|.BinOp l o r _=>wc (l,o,r)|_=>we
noncomputable def asUn:Expr->Option (UnaryOp×Expr)|.UnaryOp o x _=>wc (o,x)|_=>we
noncomputable def WW:Expr->Option (Expr×List CmpOp×List Expr)|.Compare l o r _=>wc (l,o,r)|_=>we
noncomputable def WX:Expr->Option (BoolOp×List Expr×Pos)|.BoolOp o vs p=>wc (o,vs,p)|_=>we
noncomputable def asIf:Expr->Option (Expr×Expr×Expr)|.IfExp t x y _=>wc (t,x,y)|_=>we
noncomputable def VS:Expr->Option (List Expr)|.Tuple xs _ _=>wc xs|_=>we
noncomputable def WY:Expr->Option (List Expr)|.List xs _=>wc xs|_=>we
noncomputable def DF:Expr->Option (List (Option Expr)×List Expr)|.Dict ks vs _=>wc (ks,vs)|_=>we
noncomputable def V6:Expr->Option (Expr×Expr)|.Subscript x y _=>wc (x,y)|_=>we
noncomputable def asSl:Expr->Option (Option Expr×Option Expr×Option Expr)|.Slice l u s _=>wc (l,u,s)|_=>we
noncomputable def YU:Expr->Option (Expr×List Expr×List YW×Pos)|.Call f xs ks p=>wc (f,xs,ks,p)|_=>we
noncomputable def Ux:Expr->Option (Expr×Str×Pos)|.Attribute o n p=>wc (o,n,p)|_=>we
noncomputable def asLC:Expr->Option (Expr×List Comprehension×Scope)|.ListComp e gs sc _=>wc (e,gs,sc)|_=>we
noncomputable def the1{j:Type}:List j->Option j|[x]=>wc x|_=>we
noncomputable def the2{j:Type}:List j->Option (j×j)|[x,y]=>wc (x,y)|_=>we
noncomputable def hd1{j:Type}:List j->Option (j×List j)|x::r=>wc (x,r)|_=>we
noncomputable def hd2{j:Type}:List j->Option (j×j×List j)|x::y::r=>wc (x,y,r)|_=>we
noncomputable def non0{j:Type}:List j->Bool|[]=>wf|_=>wg
def nos{j:Type}{x:j}{C:Prop}(h:we=wc x):C:=nomatch h
def nob{C:Prop}(h:wg=wf):C:=nomatch h
def X5{j:Type}{o:Option j}{p:j->Bool}(h:o.any p=wf):∃x,o=wc x/\p x=wf:=by
 cases o with
 |none=>cases h
 |some x=>erw[⟨x,rfl,h⟩]
section
variable{e:Expr}
def Yg{x:Str}(h:Yc e=wc x):∃p,e=.Name x p:=by revert h;cases e<;>first|erw[nos]|(intro h;cases h;erw[⟨_,rfl⟩])
def WZ{x:Const}(h:V5 e=wc x):∃k p,e=.Constant x k p:=by revert h;cases e<;>first|erw[nos]|(intro h;cases h;erw[⟨_,_,rfl⟩])
def Ik{x:Expr×Uh×Expr}(h:BM e=wc x):∃p,e=.BinOp x.1 x.2.1 x.2.2 p:=by revert h;cases e<;>first|erw[nos]|(intro h;cases h;erw[⟨_,rfl⟩])
def DG{x:UnaryOp×Expr}(h:asUn e=wc x):∃p,e=.UnaryOp x.1 x.2 p:=by revert h;cases e<;>first|erw[nos]|(intro h;cases h;erw[⟨_,rfl⟩])
def DH{x:Expr×List CmpOp×List Expr}(h:WW e=wc x):∃p,e=.Compare x.1 x.2.1 x.2.2 p:=by revert h;cases e<;>first|erw[nos]|(intro h;cases h;erw[⟨_,rfl⟩])
def DI{x:BoolOp×List Expr×Pos}(h:WX e=wc x):e=.BoolOp x.1 x.2.1 x.2.2:=by revert h;cases e<;>first|erw[nos]|(intro h;cases h;rfl)
def Il{x:Expr×Expr×Expr}(h:asIf e=wc x):∃p,e=.IfExp x.1 x.2.1 x.2.2 p:=by revert h;cases e<;>first|erw[nos]|(intro h;cases h;erw[⟨_,rfl⟩])
def BN{x:List Expr}(h:VS e=wc x):∃k p,e=.Tuple x k p:=by revert h;cases e<;>first|erw[nos]|(intro h;cases h;erw[⟨_,_,rfl⟩])
def DJ{x:List Expr}(h:WY e=wc x):∃p,e=.List x p:=by revert h;cases e<;>first|erw[nos]|(intro h;cases h;erw[⟨_,rfl⟩])
def Tz{x:List (Option Expr)×List Expr}(h:DF e=wc x):∃p,e=.Dict x.1 x.2 p:=by revert h;cases e<;>first|erw[nos]|(intro h;cases h;erw[⟨_,rfl⟩])
def A0{x:Expr×Expr}(h:V6 e=wc x):∃p,e=.Subscript x.1 x.2 p:=by revert h;cases e<;>first|erw[nos]|(intro h;cases h;erw[⟨_,rfl⟩])
def TB{x:Option Expr×Option Expr×Option Expr}(h:asSl e=wc x):∃p,e=.Slice x.1 x.2.1 x.2.2 p:=by revert h;cases e<;>first|erw[nos]|(intro h;cases h;erw[⟨_,rfl⟩])
def _3{x:Expr×List Expr×List YW×Pos}(h:YU e=wc x):e=.Call x.1 x.2.1 x.2.2.1 x.2.2.2:=by revert h;cases e<;>first|erw[nos]|(intro h;cases h;rfl)
def VT{x:Expr×Str×Pos}(h:Ux e=wc x):e=.Attribute x.1 x.2.1 x.2.2:=by revert h;cases e<;>first|erw[nos]|(intro h;cases h;rfl)
def Im{x:Expr×List Comprehension×Scope}(h:asLC e=wc x):∃p,e=.ListComp x.1 x.2.1 x.2.2 p:=by revert h;cases e<;>first|erw[nos]|(intro h;cases h;erw[⟨_,rfl⟩])
def _4{j:Type}{l:List j}{x:j}(h:the1 l=wc x):l=[x]:=by
 match l,h with
 |[_],h=>cases h;rfl
def DK{j:Type}{l:List j}{x:j×j}(h:the2 l=wc x):l=[x.1,x.2]:=by
 match l,h with
 |[_,_],h=>cases h;rfl
def Yo{j:Type}{l:List j}{x:j×List j}(h:hd1 l=wc x):l=x.1::x.2:=by
 match l,h with
 |_::_,h=>cases h;rfl
def Io{j:Type}{l:List j}{x:j×j×List j}(h:hd2 l=wc x):l=x.1::x.2.1::x.2.2:=by
 match l,h with
 |_::_::_,h=>cases h;rfl
def Y2{j:Type}{l:List j}(h:non0 l=wf):l=[]:=by
 match l,h with
 |[],_=>rfl
end
def Yy(e:Expr):Bool:=(Yc e).isSome||(V5 e).isSome||(BM e).isSome||(asUn e).isSome||(WW e).isSome||(WX e).isSome||(asIf e).isSome||(VS e).isSome||(WY e).isSome||(DF e).isSome||(V6 e).isSome||(YU e).isSome||(asLC e).isSome||(Ux e).isSome
mutual
def Zh(j:Scope)(N:List Str)(lim:Nat)(all:Bool):ITg->Expr->Bool
 |.nm i,e=>(Yc e).any λx=>decide (N[i]?=wc x)&&decide (i<lim)&&(if all then locB j x else decide (j.names.lookup x=wc .local))
 |.tup ts,e=>(VS e).any λes=>chkTgs j N lim all ts es
def chkTgs(j:Scope)(N:List Str)(lim:Nat)(all:Bool):ITgs->List Expr->Bool
 |.nil,l=>non0 l
 |.cons t ts,l=>(hd1 l).any λq=>Zh j N lim all t q.1&&chkTgs j N lim all ts q.2
end
mutual
def chkE(G:GI):IE->Scope->List Str->Expr->Bool
 |.var i,sc,N,e=>(Yc e).any fun x=>decide (N[i]?=wc x)&&visB sc x&& !(x==("__debug__":Str))&& !(x==("__classdict__":Str))
 |.int i,_,_,e=>(V5 e).any λc=>decide (c=.int i)
 |.str x,_,_,e=>(V5 e).any λc=>decide (c=.str x)
 |.bl b,_,_,e=>(V5 e).any λc=>decide (c=.bool b)
 |.non,_,_,e=>(V5 e).any λc=>decide (c=.none)
 |.glb x i,sc,_,e=>(Yc e).any λy=>decide (x=y)&&decide (G.gl.lookup x=wc i)&&glB sc x
 |.ty c,sc,_,e=>(Yc e).any λy=>decide (y=(c.name:Str))&&decide (c≠.none)&&G.bl.contains y&&glB sc y
 |.bin op a b,sc,N,e=>(BM e).any λq=>decide (op=q.2.1)&&chkE G a sc N q.1&&chkE G b sc N q.2.2
 |.neg a,sc,N,e=>(asUn e).any λq=>decide (q.1=.USub)&&chkE G a sc N q.2
 |.not a,sc,N,e=>(asUn e).any λq=>decide (q.1=.Not)&&chkE G a sc N q.2
 |.cmp op a b,sc,N,e=>(WW e).any λq=>(the1 q.2.1).any λo=>(the1 q.2.2).any λr=>decide (op=o)&&chkE G a sc N q.1&&chkE G b sc N r&& !behindInMarks op r
 |.chn op op' a b c,sc,N,e=>(WW e).any λq=>(the2 q.2.1).any λo=>(the2 q.2.2).any λr=>decide (op=o.1)&&decide (op'=o.2)&&chkE G a sc N q.1&&chkE G b sc N r.1&&chkE G c sc N r.2&& !lastMarks [op,op'] [r.1,r.2]
 |.and a b,sc,N,e=>(WX e).any λq=>(hd2 q.2.1).any λv=>decide (q.1=.And)&&chkE G a sc N v.1&&chkE G b sc N (if non0 v.2.2 then v.2.1 else .BoolOp .And (v.2.1::v.2.2) q.2.2)
 |.or a b,sc,N,e=>(WX e).any λq=>(hd2 q.2.1).any λv=>decide (q.1=.Or)&&chkE G a sc N v.1&&chkE G b sc N (if non0 v.2.2 then v.2.1 else .BoolOp .Or (v.2.1::v.2.2) q.2.2)
 |.ife c a b,sc,N,e=>(asIf e).any λq=>tok c&&chkE G c sc N q.1&&chkE G a sc N q.2.1&&chkE G b sc N q.2.2
 |.tup es,sc,N,e=>(VS e).any λxs=>chkEs G es sc N xs
 |.lst es,sc,N,e=>(WY e).any λxs=>chkEs G es sc N xs
 |.dic,_,_,_=>wg
 |.ix a b,sc,N,e=>(V6 e).any λq=>chkE G a sc N q.1&&chkE G b sc N q.2&&VR q.2
 |.sl a lo hi,sc,N,e=>(V6 e).any λq=>(asSl q.2).any λs=>chkE G a sc N q.1&&chkO G lo sc N s.1&&chkO G hi sc N s.2.1&& !s.2.2.isSome
 |.call j f es,sc,N,e=>(YU e).any λq=>(Yc q.1).any λg=>(hd1 q.2.1).any λx=>non0 q.2.2.1&&decide (G.fns[j]?=wc g)&&glB sc g&&chkE G f sc N x.1&&chkEs G es sc N x.2
 |.bi f a es,sc,N,e=>(YU e).any λq=>(Yc q.1).any λg=>(hd1 q.2.1).any λx=>non0 q.2.2.1&&decide (g=(f.name:Str))&&G.bl.contains g&&glB sc g&&chkE G a sc N x.1&&chkEs G es sc N x.2
 |.b2 f a,sc,N,e=>(YU e).any λq=>(Yc q.1).any λg=>(the1 q.2.1).any λy=>(YU y).any λr=>(Yc r.1).any λk=>(the1 r.2.1).any λx=>non0 q.2.2.1&&non0 r.2.2.1&&decide (g=(f.out:Str))&&decide (k=(f.inn:Str))&&G.bl.contains g&&G.bl.contains k&&glB sc g&&glB sc k&&chkE G a sc N x
 |.st3 a,_,_,_=>wg
 |.mxd a,_,_,_=>wg
 |.mt m o es,sc,N,e=>(YU e).any λq=>(Ux q.1).any λa=>non0 q.2.2.1&&decide (a.2.1=(m.name:Str))&&(a.2.2.endLine==q.2.2.2.line)&&chkE G o sc N a.1&&chkEs G es sc N q.2.1&&decide (q.2.1.length<20)
 |.comp own fr src tg test elt,sc,N,e=>(asLC e).any λq=>(the1 q.2.1).any λg=>VI sc q.2.2 N own fr&&WV g.iter&&decide (nC own fr N).Nodup&&chkSr G src sc N g.iter&&Zh (VQ q.2.2 sc) (nC own fr N) own.length wg tg g.target&&
   chkI G test (VQ q.2.2 sc) (nC own fr N) g.ifs&&chkE G elt (VQ q.2.2 sc) (nC own fr N) q.1&&decide (g.is_async=0)
 |.fld c o f,sc,N,e=>(Ux e).any λa=>decide (a.2.1=f)&&G.cls.contains (c,f)&&chkE G o sc N a.1
 |.mcall j c m o es,sc,N,e=>(YU e).any λq=>(Ux q.1).any λa=>non0 q.2.2.1&&decide (a.2.1=m)&&G.mts.contains (j,c,m)&&chkE G o sc N a.1&&chkEs G es sc N q.2.1&&(a.2.2.endLine==q.2.2.2.line)&&decide (q.2.1.length<20)
 |.make j c a es,sc,N,e=>(YU e).any λq=>(Yc q.1).any λg=>(hd1 q.2.1).any λx=>non0 q.2.2.1&&decide (g=c)&&G.mks.contains (j,c)&&glB sc g&&chkE G a sc N x.1&&chkEs G es sc N x.2
 |.disp ps,_,_,_=>wg
def A5(G:GI):IPs->Scope->List Str->List (Option Expr)->List Expr->Bool
 |.nil,_,_,l,r=>non0 l&&non0 r
 |.cons k v ps,sc,N,l,r=>(hd1 l).any λq=>(hd1 r).any λs=>q.1.any λx=>chkE G k sc N x&&chkE G v sc N s.1&&A5 G ps sc N q.2 s.2
def chkEs(G:GI):IEs->Scope->List Str->List Expr->Bool
 |.nil,_,_,l=>non0 l
 |.cons e es,sc,N,l=>(hd1 l).any λq=>chkE G e sc N q.1&&chkEs G es sc N q.2
def chkO(G:GI):IO->Scope->List Str->Option Expr->Bool
 |.none,_,_,o=>!o.isSome
 |.some e,sc,N,o=>o.any λx=>chkE G e sc N x
def chkI(G:GI):IO->Scope->List Str->List Expr->Bool
 |.none,_,_,l=>non0 l
 |.some e,sc,N,l=>(the1 l).any λx=>tok e&&chkE G e sc N x
def chkSr(G:GI):ISr->Scope->List Str->Expr->Bool
 |.seq a,sc,N,e=>chkE G a sc N e
 |.rng a,sc,N,e=>(YU e).any fun q=>(Yc q.1).any fun f=>(the1 q.2.1).any fun x=>non0 q.2.2.1&&decide (f=("range":Str))&&G.bl.contains f&&glB sc f&&chkE G a sc N x
end
def liSp(K:X1)(l:SpM):Sp:=λt H Q _=>∃j M,RMs K H j t/\RH K M H/\l j M (Dn K H Q)
structure Cok (X:Cx)(G:GI)(Φ:List (Str×SpM)):Prop where
 room:X.A.units+70<cLine
 calm:X.calm=wf
 nox:X.xe=λ_ _=>False
 blk:X.env.blockKind=.function
 nd:X.N.Nodup
 bls:∀x,G.bl.contains x=wf->X.mg x=we
 gls:∀x i,G.gl.lookup x=wc i->∃tk,X.mg x=wc (.int i tk)
 fnn:∀(j:Nat)f,G.fns[j]?=wc f->∃sp,Φ[j]?=wc (f,sp)
 mon:∀(j:Nat)f sp,Φ[j]?=wc (f,sp)->MonW sp
 fns:∀(j:Nat)f sp,G.fns[j]?=wc f->Φ[j]?=wc (f,sp)->∃k fa fd ps,Room k X.A/\FnOk X.prog X.w X.K X.mg X.base CX0 k fa fd ps (liSp X.K sp)/\X.mg f=wc (.ref fa)/\Yt X.K (.ref fa)=wf/\Binds X.K fd ps []
 mts:∀(j:Nat)c m,G.mts.contains (j,c,m)=wf->∃f sp,Φ[j]?=wc (f,sp)/\∃k C fa fd ps,Room k X.A/\FnOk X.prog X.w X.K X.mg X.base CX0 k fa fd ps (liSp X.K sp)/\Xn X.K Xi c=wc (wc (.ref C))/\Cls X.K C/\Meth X.K C m fa/\Binds X.K fd ps []
 mks:∀(j:Nat)c,G.mks.contains (j,c)=wf->∃f sp,Φ[j]?=wc (f,sp)/\∃k C fa fd ps,Room (k+1) X.A/\FnOk X.prog X.w X.K X.mg X.base CX0 k fa fd ps (liSp X.K sp)/\Xn X.K Xi c=wc (wc (.ref C))/\X.mg c=wc (.ref C)/\Mk X.K C fa/\Binds X.K fd ps []
 cls:∀c f,G.cls.contains (c,f)=wf->∃C,Xn X.K Xi c=wc (wc (.ref C))/\Cls X.K C/\NoAttr X.K C f
section
variable{X:Cx}{G:GI}{Φ:List (Str×SpM)}
def Ip{j:Scope}{x:Str}(h:visB j x=wf):Vis j x:=by
 unfold visB at h;unfold Vis;cases e:j.names.lookup x with
 |none=>rw[e]at h;cases h
 |some k=>rw[e]at h;cases k<;>first|erw[.inl rfl]|erw[.inr (.inl rfl)]|erw[.inr (.inr rfl)]|cases h
def VU{j:Scope}{x:Str}(h:locB j x=wf):Loc j x:=by
 unfold locB at h;unfold Loc;cases e:j.names.lookup x with
 |none=>rw[e]at h;cases h
 |some k=>rw[e]at h;cases k<;>first|erw[.inl rfl]|erw[.inr rfl]|cases h
def YL{x:Str}(h:glB X.env.scope x=wf):Gl X x/\(x==("__debug__":Str))=wg/\x≠"__name__":=by
 unfold glB at h;simp only[Xs,decide_eq_true_eq,Vt]at h;erw[⟨h.1.1,h.1.2,h.2⟩]
def Iq(f:BI):Ym (f.name:Str)=wc f.val:=by cases f<;>(show Ym _=wc _;decide+kernel)
def TC{c:Ty7}(h:c≠.none):Ym (c.name:Str)=wc (.type c.name):=by cases c<;>first|erw[absurd rfl h]|decide+kernel
def boot_range:Ym ("range":Str)=wc (.type "range"):=by decide+kernel
def TD:∀{l:IE} {z:Scope} {N:List Str} {e:Expr},chkE G l z N e=wf->Yy e=wf:=by
 intro l z N e h;have j:∀{m:Type} {o:Option m} {p:m->Bool},o.any p=wf->(∀x,o=wc x->Yy e=wf)->Yy e=wf:=λh g=>by have⟨x,e,_⟩:=X5 h;erw[g x e]
 have d:∀x,Yc e=wc x->Yy e=wf:=λx h=>by have⟨p,rfl⟩:=Yg h;rfl
 have c:∀x,V5 e=wc x->Yy e=wf:=λx h=>by have⟨k,p,rfl⟩:=WZ h;rfl
 have f:∀x,BM e=wc x->Yy e=wf:=λx h=>by have⟨p,rfl⟩:=Ik h;rfl
 have r:∀x,asUn e=wc x->Yy e=wf:=λx h=>by have⟨p,rfl⟩:=DG h;rfl
 have L:∀x,WW e=wc x->Yy e=wf:=λx h=>by have⟨p,rfl⟩:=DH h;rfl
 have O:∀x,WX e=wc x->Yy e=wf:=λx h=>by obtain rfl:=DI h;rfl
 have P:∀x,asIf e=wc x->Yy e=wf:=λx h=>by have⟨p,rfl⟩:=Il h;rfl
 have R:∀x,VS e=wc x->Yy e=wf:=λx h=>by have⟨k,p,rfl⟩:=BN h;rfl
 have T:∀x,WY e=wc x->Yy e=wf:=λx h=>by have⟨p,rfl⟩:=DJ h;rfl
 have U:∀x,DF e=wc x->Yy e=wf:=λx h=>by have⟨p,rfl⟩:=Tz h;rfl
 have t:∀x,V6 e=wc x->Yy e=wf:=λx h=>by have⟨p,rfl⟩:=A0 h;rfl
 have u:∀x,YU e=wc x->Yy e=wf:=λx h=>by obtain rfl:=_3 h;rfl
 have w:∀x,asLC e=wc x->Yy e=wf:=λx h=>by have⟨p,rfl⟩:=Im h;rfl
 have y:∀x,Ux e=wc x->Yy e=wf:=λx h=>by obtain rfl:=VT h;rfl
 cases l<;>first|erw[nob h]|erw[j h d]|erw[j h c]|erw[j h f]|erw[j h r]|erw[j h L]|erw[j h O]|erw[j h P]|erw[j h R]|erw[j h T]|erw[j h U]|erw[j h t]|erw[j h u]|erw[j h w]|erw[j h y]
def Y8:∀{t:IE} {u:Scope} {N:List Str} {e:Expr} {l:List Expr} {j:Env},chkE G t u N e=wf->Xm (e::l) j=(wg,eval e j)::Xm l j:=by
 intro t u N e l j h;cases e<;>first|rfl|cases TD h
theorem _5:∀{u:IEs} {w:Scope} {N:List Str} {t:List Expr} {j:Env} {l:Pos},chkEs G u w N t=wf->(Xm t j).all (λx=>!x.1)=wf
 |.nil,w,N,t,_,_,h=>by
  cases Y2 h
  rfl
 |.cons e t,w,N,xs,j,l,h=>by
  replace h:=X5 h;have⟨q,z,y⟩:=h;cases Yo z;rw[Xs]at y;rw[Y8 y.1,UQ];erw[_5 (l:=l) y.2]
def TF:∀{j:IE} {l:Scope} {N:List Str} {x:Str} {t p:Pos} {u:List YW},chkE G j l N (.Call (.Name x t) [] u p)=wf->False:=by
 intro j l N x t p u h;revert h;cases j<;>erw[nob]
set_option tactic.hygienic true in
def VW{t:IE}{u:Scope}{N:List Str}{o:Expr}{nm:Str}{j:Env}(h:chkE G t u N o=wf):Ui o nm j (eval o j)=eval o j:=by
 cases o<;>try rfl
 rename_i w l z y
 cases w<;>try rfl
 cases l with
 |cons a r=>rfl
 |nil=>erw[(TF h).elim]
def _i{j:Pos}{l:List (Bool×Sem Value)}(h:l.all (λx=>!x.1)=wf):(XV j l).all (λx=>!x.1)=wf/\(XV j l).any (·.1)=wg:=by
 induction l with
 |nil=>erw[⟨rfl,rfl⟩]
 |cons a r y=>
  rw[UQ,Xs]at h;have⟨u,w⟩:=y h.2;have e:a.1=wg:=by simpa using h.1
  unfold XV at u w ⊢;rw[Xy,UQ,ZB,u,w];have⟨b,t⟩:=a;cases e;erw[⟨rfl,rfl⟩]
end
def tCW2(own:List Str)(fr:List Nat)(g:TG)(e:TT)(L:TE)(w:St)(O:Hp)(Q:VK)(J:It)(D:Addr):Prop:=∃W:Nat->Nat->List V->Hp->Prop,
 (∃m,W 0 m [] (upd O D (.lst [])))/\∀i m z l,W i m z l->
  ((J.stop i l/\Q (.ref D) l)\/(J.go i l/\∃N:List V->Hp->Prop,(∀t d,N t d->∃c,c<m/\W (i+1) c t d)/\∀x f,J.yld i l x f->g x (sC own fr w) f λj P=>Keep (sC own fr w) j/\e j P λb r=>
   if b=wf then L j r λy p=>∃u,p D=wc (.lst u)/\u.length<sizeLine/\N (u++[y]) (upd p D (.lst (u++[y])))else N z r))
def DL(own:List Str)(fr:List Nat)(t:TI)(g:TG)(u:TT)(w:TE):TE:=λj H Q=>t j H λJ l=>∀D,l D=we->tCW2 own fr g u w j l Q J D
section
variable{X:Cx}{pj:List (Addr×Obj)}{σ:St}{H1:Hp}{s2:X0}{tg elt iter:Expr}{ifs:List Expr}{scope:Scope}{pos:Pos}{own:List Str}{fr:List Nat}{g:TG}{tt:TT}{te:TE}
def Ir{J:It}{j:List Addr}{it:Addr}{S:Nat->Heap->Prop}{RR:Value->Addr->Result->X0->Prop}{Q:VK}{E:Value->X0->Prop}(hc:X.calm=wf)(ok:CompOk X.env.scope scope X.N fr)
  (hg:∀C j w f,PG (cxC X scope own fr C j w f) tg g)(ht:∀C j w f,PTs (cxC X scope own fr C j w f) ifs tt)(he:∀C j w f,PE (cxC X scope own fr C j w f) elt te)
  (I2:Inv X pj σ H1 s2)(T:Turn X.prog X.w X.K tg J j it S)(st:S 0 s2.heap)(Z:∀b∈j,FpOk X pj H1 b)
  (h:∀D,H1 D=we->tCW2 own fr g tt te σ H1 Q J D)
  (hRR:∀D C t s',Inv X pj σ t s'->(∃m,s'.heap.Ns C m)->t C=we->C≠X.env.locals->X.s₀.heap.objs.size<=C->(∀x c,X.env.cells.lookup x=wc c->c≠C)->(∀p∈X.pn++pj,p.1≠C)->Q (.ref D) t->RR (.ref D) C (.ok .next) s'):
  X3 (X4 X.prog X.w) X.A (newList []) (λacc w=>X3 (X4 X.prog X.w) X.A (newFunctionEnv scope X.env.globals (clOf X.env.cells scope.names []) [] X.env.qual we .none (wc X.env)) (λB P=>
   YJ (X4 X.prog X.w) X.A (.compStart (.ListComp elt [⟨tg,iter,ifs,0⟩] scope pos) 0 (.ref it) acc {B with scope:=relabel scope X.env}) (RR acc B.locals) P) E w) E s2:=by
 have hD:H1 s2.heap.objs.size=we:=I2.hok.fresh (Xc _);have⟨W,⟨m0,w0⟩,step⟩:=h _ hD;erw[ZS (wpAny_newFunctionEnv ok.nocell (by intro y hy;simp at hy) (λh4 H a=>?_) ok.kind)]
 dsimp only at H a ⊢;have I3:Inv X pj σ (upd H1 s2.heap.objs.size (.lst [])) {s2 with heap:=s2.heap.push {cls:=.type "list",dict:=we,data:=.seq ([]:List Value).toArray},toks:=s2.toks}:=
  I2.laid (λb u e=>Xw _ e) (Xc _) ⟨YQ _,[],0,.nil,XS _ rfl⟩
 have fpo:∀b∈j,∃o,s2.heap.get? b=wc o:=λb l=>by have⟨o,e,_⟩:=T.obj 0 _ st b l;erw[⟨o,e⟩]
 have fpD:∀b∈j,b≠s2.heap.objs.size:=λb l=>by have⟨o,e⟩:=fpo b l;erw[XE (Xu e)]
 have hf3:∀b∈j,FpOk X pj (upd H1 s2.heap.objs.size (.lst [])) b:=λb l=>⟨by rw[XQ (fpD b l)];erw[(Z b l).1],(Z b l).2⟩
 generalize hs3:({s2 with heap:=s2.heap.push {cls:=.type "list",dict:=we,data:=.seq ([]:List Value).toArray},toks:=s2.toks}:X0)=s3 at*;have e3:s2.heap.push {cls:=.type "list",dict:=we,data:=.seq ([]:List Value).toArray}=s3.heap:=by rw[<-hs3]
 rw[e3]at H a ⊢;have kp:∀b o,s3.heap.get? b=wc o->h4.get? b=wc o:=λb o e=>(a.2 b (XE (Xu e))).trans (Xw _ e);have F:∀b∈j,∃o,s3.heap.get? b=wc o:=λb l=>let⟨o,e⟩:=fpo b l;⟨o,by rw[<-e3];erw[Xw _ e]⟩
 have I4:=RQ (own:=own) (scope:=scope) (fr:=fr) (tk:=s2.toks+0) ok I3 rfl hf3 F H kp;have st4:S 0 h4:=T.keep _ _ _ st λb l o e=>kp b o (by rw[<-e3];erw[Xw _ e])
 have fpC:∀b∈j,b≠s3.heap.objs.size:=λb l=>by have⟨o,e⟩:=F b l;erw[XE (Xu e)]
 have R:∀{t:Hp},(∀b∈j,t b=we)->∀b∈j,FpOk (cxC X scope own fr s3.heap.objs.size j s3 (upd H1 s2.heap.objs.size (.lst []))) pj t b:=λhn b l=>by
  erw[⟨hn b l,fpC b l,λz=>?_,.inl l,λx c e=>?_,(Z b l).2.2.2.2.2⟩]
  .rcases Xh.mp (I3.stkSub b z)with z|z
   .erw[(Z b l).2.1 z]
   .erw[(Z b l).2.2.1 z]
  .erw[(Z b l).2.2.2.2.1 x c ((WO _ _ _ _ _ e).elim (λz=>by simp at z) id)]
 have G:YJ (X4 X.prog X.w) X.A (.compLoop (.ListComp elt [⟨tg,iter,ifs,0⟩] scope pos) 0 (.ref it) (.ref s2.heap.objs.size) (compEnvC scope (clOf X.env.cells scope.names []) s3.heap.objs.size X.env))
   (RR (.ref s2.heap.objs.size) s3.heap.objs.size) {s3 with heap:=h4,toks:=s2.toks+0}:=by
  erw[RN (λn s'=>∃i A t,Inv (cxC X scope own fr s3.heap.objs.size j s3 (upd H1 s2.heap.objs.size (.lst []))) pj (sC own fr σ) t s'/\S i s'.heap/\(∀b∈j,t b=we)/\W i n A t) ?_ m0
   ⟨0,[],_,I4,st4,λb l=>(hf3 b l).1,w0⟩]
  rintro n s5 ⟨i,A,H5,I5,st5,fr5,w5⟩;have way:=step i n A H5 w5;rcases way with⟨stop,q⟩|⟨go,N,hN,turn⟩
  .erw[thn (T.done (cxC X scope own fr s3.heap.objs.size j s3 (upd H1 s2.heap.objs.size (.lst []))) rfl rfl rfl hc i pj s5 _ H5 _ I5 (R fr5) st5 stop) λr s6 U=>?_];have⟨hr,I6⟩:=U;subst hr;have J6:Inv X pj σ H5 s6:=I3.call' I6.os I6.base I6.hok I6.bare λb l=>⟨(Z b l).2.2.2.1,(Z b l).2.1,(Z b l).2.2.2.2.1,(Z b l).2.2.2.2.2⟩;have⟨m6,ns6,_⟩:=I6.loc;erw[hRR _ _ H5 s6 J6 ⟨m6,ns6⟩ I6.free (B0 I3.lt) I3.sz (λx c e=>?_) (λp hp=>?_) q]
   .have⟨v,z⟩:=I3.cell x c e;erw[XE z.lt]
   .erw[XE (Xu (I3.pin p hp).1)]
  .erw[thn (T.item (cxC X scope own fr s3.heap.objs.size j s3 (upd H1 s2.heap.objs.size (.lst []))) rfl rfl rfl hc i pj s5 _ H5 _ I5 (R fr5) st5 go) λr s6 U=>?_];have⟨u,hr,h6⟩:=U;subst hr;erw[thn h6 λ_ s7 U=>?_];have⟨x,H7,I7,r7,y7,st7,fr7⟩:=U;have I7':=I7.pinned (R fr7) (T.obj _ _ st7);erw[thn (hg _ _ _ _ _ s7 _ H7 x u _ I7' r7 (turn x H7 y7)) λ_ s8 U=>?_];have⟨L,H8,I8,kp8,q8⟩:=U;have again:∀{Y:Hp} {O:X0},Inv (cxC X scope own fr s3.heap.objs.size j s3 (upd H1 s2.heap.objs.size (.lst []))) (pj++VF j s7.heap) L Y O->∀{ys'},(∃m',m'<n/\W (i+1) m' ys' Y)->
     ∃m,m<n/\∃i A t,Inv (cxC X scope own fr s3.heap.objs.size j s3 (upd H1 s2.heap.objs.size (.lst []))) pj (sC own fr σ) t O/\S i O.heap/\(∀b∈j,t b=we)/\W i m A t:=fun{Y O} I {ys'} ⟨m',hm,w9⟩=>by
    erw[⟨m',hm,i+1,ys',Y,(I.unpinned).weak kp8.1 kp8.2,T.keep _ _ _ st7 λb l o e=>(I.pin (b,o) (YA _ (YA _ (BA l e)))).1,λb l=>?_,w9⟩];have⟨o,e,d⟩:=T.obj _ _ st7 b l;erw[(I.pin (b,o) (YA _ (YA _ (BA l e)))).2.1]
   have fin:∀{ok:Bool} {O:X0} {Y:Hp},Inv (cxC X scope own fr s3.heap.objs.size j s3 (upd H1 s2.heap.objs.size (.lst []))) (pj++VF j s7.heap) L Y O->
     (if ok=wf then te L Y λy H6=>∃zs,H6 s2.heap.objs.size=wc (.lst zs)/\zs.length<sizeLine/\N (zs++[y]) (upd H6 s2.heap.objs.size (.lst (zs++[y])))else N A Y)->
     (if ok=wf then X3 (X4 X.prog X.w) X.A (eval elt (compEnvC scope (clOf X.env.cells scope.names []) s3.heap.objs.size X.env)) (λx P=>
      X3 (X4 X.prog X.w) X.A (call (.builtin "list.append") [.ref s2.heap.objs.size,x]) (fun _ M=>∃m,m<n/\∃i A t,Inv (cxC X scope own fr s3.heap.objs.size j s3 (upd H1 s2.heap.objs.size (.lst []))) pj (sC own fr σ) t M/\S i M.heap/\(∀b∈j,t b=we)/\W i m A t) (fun _ _=>False) P) (fun _ _=>False) O
      else∃m,m<n/\∃i A t,Inv (cxC X scope own fr s3.heap.objs.size j s3 (upd H1 s2.heap.objs.size (.lst []))) pj (sC own fr σ) t O/\S i O.heap/\(∀b∈j,t b=we)/\W i m A t):=fun{ok O Y} I q9=>by
    cases ok with
    |false=>
     rw[if_neg Xx]at q9 ⊢;erw[again I (hN _ _ q9)]
    |true=>
     rw[if_pos rfl]at q9 ⊢;erw[thn (he _ _ _ _ _ O L Y _ I q9) λv s10 U=>?_];have⟨y,H10,I10,r10,zs,hl10,hz5,w10⟩:=U;erw[thn (GN (X:=cxC X scope own fr s3.heap.objs.size j s3 (upd H1 s2.heap.objs.size (.lst []))) _ s10 L H10 (.ref s2.heap.objs.size) [y] (.ref s2.heap.objs.size) [v] (λ_ t=>t=upd H10 s2.heap.objs.size (.lst (zs++[y]))) I10 rfl (.cons r10 .nil) ⟨_,zs,y,rfl,rfl,hl10,hz5,rfl⟩) λ_ s11 U=>?_];have⟨_,H11,I11,_,e11⟩:=U;subst e11;erw[again I11 (hN _ _ w10)]
   rcases ht s3.heap.objs.size j s3 (upd H1 s2.heap.objs.size (.lst []))with⟨e,et⟩|⟨c,e,hcT⟩
   .subst e et;erw[wpAny_tests_nil (fin (ok:=wf) I8 q8)]
   .subst e;erw[wpAny_tests_one (thn (hcT _ s8 L H8 _ I8 q8) λb O ⟨Y,I,q9⟩=>fin I q9)]
 subst hs3;erw[codeAny_compStart_list G (T.self _ 0 _ _ _ st4 G)]
def TH(own:List Str)(fr:List Nat){d:TI}(hx:∀e s,¬X.xe e s)(c:X.calm=wf)(ok:VI X.env.scope scope X.N own fr=wf)(f:PI X tg iter d)
  (r:∀C u j l,PG (cxC X scope own fr C u j l) tg g)(p:∀C u j l,PTs (cxC X scope own fr C u j l) ifs tt)(L:∀C u j l,PE (cxC X scope own fr C u j l) elt te)
  (N:∀x,As iter X.env x=pure x:=by intro _;rfl):
  PE X (.ListComp elt [⟨tg,iter,ifs,0⟩] scope pos) (DL own fr d g tt te):=by
 have t:=VJ ok;intro pj s σ H Q I h;rw[eval_ListComp];erw[wpAny_comprehension_free (use:=we) (cl:=clOf X.env.cells scope.names []) rfl N (GZ λy O P=>I.ok.has y.1 (t.has y O P)) t.kind t.names (thn (f pj s σ H _ I h) λv s1 U=>thn U λW s2 Y=>?_)];have⟨it,u,tn,J,H2,e,Z,T,w,A,R⟩:=Y;subst e;erw[Ir (RR:=λz C=>compPost (X4 X.prog X.w) X.A X.xe we (EP X pj σ Q) z C) (Q:=Q) c t r p L Z T w A R ?_];rintro D C B E F ⟨m,G⟩ M S i n a q;erw[⟨m,G,λh' sb=>⟨.ref D,B,?_,rfl,q⟩⟩];erw[F.turned (y:=E.toks) (λb o hb e=>(sb.2 b hb).trans e) M S (.inr i) n a]
def TJ(own:List Str)(fr:List Nat){i:Nat}{y:Str}{d w:Pos}{B:TI}(M:X.N.Nodup)(S:X.N[i]?=wc y)(r:Loc X.env.scope y)(hx:∀e s,¬X.xe e s)(n:X.calm=wf)(ok:VI X.env.scope scope X.N own fr=wf)(p:PI X tg iter B)
  (hg:∀C c j l,PG (cxC X scope own fr C c j l) tg g)(ht:∀C c j l,PTs (cxC X scope own fr C c j l) ifs tt)(he:∀C c j l,PE (cxC X scope own fr C c j l) elt te)
  (L:Zy (.ListComp elt [⟨tg,iter,ifs,0⟩] scope pos) (wc (.Name y d)) w.line X.env=pure wf:=by rfl)(hs:∀x,As iter X.env x=pure x:=by intro _;rfl)
  (hf:X.fn y=wf\/X.env.scope.names.lookup y=wc .local:=by first|erw[.inl rfl]|erw[.inr rfl]|assumption):
  PS X (.Assign [.Name y d] (.ListComp elt [⟨tg,iter,ifs,0⟩] scope pos) w) (tAsg (DL own fr B g tt te) (By i)):=by
 have t:=VJ ok;intro pj s σ H D I h;rw[exec_Assign_Name_used _ _ _ _ L];erw[X2 (wpAny_standAt (X2 ?_))];show X3 _ X.A (do let _<- comprehension (.ListComp elt [⟨tg,iter,ifs,0⟩] scope pos) scope X.env _ (newList []) wg (eval iter X.env) (wc (assign (.Name y d) X.env))) _ _ s
 erw[X2 (Yd (wpAny_comprehension_free (use:=wc (assign (.Name y d) X.env)) (cl:=clOf X.env.cells scope.names []) (Q:=λ_ f=>SP X pj D .next f) rfl hs (GZ λy r hk=>I.ok.has y.1 (t.has y r hk)) t.kind t.names
  (thn (p pj s σ H _ I h) λv s1 h1=>thn h1 λitv s2 h2=>?_)) (λ_ f hq=>X8 (X8 hq)) λ_ _ e=>e)]
 have⟨it,c,tn,J,H2,e,I2,T,N,f2,R⟩:=h2;subst e;erw[Ir (RR:=λO C=>compPost (X4 X.prog X.w) X.A X.xe (wc (assign (.Name y d) X.env)) (λ_ f=>SP X pj D .next f) O C) (Q:=λv P=>D.nx (σ.set i (wc v)) P) n t hg ht he I2 T N f2 R ?_];rintro E C P f I' ⟨m,ns⟩ c1 F c3 G c5 q;show X3 _ X.A (assign (.Name y d) X.env (.ref E)) _ _ _;erw[wpAny_assign_Name (G3 I' M S r (v:=.ref E) (u:=.ref E) rfl (λU W Y=>?_) hf)];have⟨a,Y,ha⟩:=Y;have Z:C≠a:=by
  rcases ha with z|z
  .rw[z];erw[F]
  .erw[λe=>G _ _ z e.symm]
 erw[⟨m,ns.sameBut Y Z,λh' A=>⟨_,P,?_,q⟩⟩];erw[W.turned (y:=U.toks) (λb o hb e=>(A.2 b hb).trans e) c1 F (.inr c3) G c5]
end
def hide{G:Prop}(h:∀j:Prop,(G->j)->j):G:=h G id
section
variable{G:GI}{sc:Scope}{N:List Str}{e:Expr}
def Xd{a b:Bool}(h:(a&&b)=wf):a=wf/\b=wf:=by rwa [Xs]at h
def Xq{p:Prop} [Decidable p] (h:decide p=wf):p:=of_decide_eq_true h
def not_of{b:Bool}(h:(!b)=wf):b=wg:=by cases b with|false=>rfl|true=>cases h
def TK{i:Nat}(h:chkE G (.var i) sc N e=wf):∃x p,e=.Name x p/\N[i]?=wc x/\visB sc x=wf/\(x==("__debug__":Str))=wg/\(x==("__classdict__":Str))=wg:=by
 erw[hide λ_ k=>?_];replace h:=X5 h;have⟨x,j,h⟩:=h;have⟨p,rfl⟩:=Yg j;replace h:=Xd h;have⟨h,l⟩:=h;replace h:=Xd h;have⟨h,t⟩:=h;replace h:=Xd h;have⟨u,w⟩:=h;erw[k ⟨x,p,rfl,Xq u,w,not_of t,not_of l⟩]
def TL{i:Int}(h:chkE G (.int i) sc N e=wf):∃k p,e=.Constant (.int i) k p:=by
 replace h:=X5 h;have⟨x,j,h⟩:=h;have⟨k,p,rfl⟩:=WZ j;erw[⟨k,p,by rw[Xq h]⟩]
def TM{i:Str}(h:chkE G (.str i) sc N e=wf):∃k p,e=.Constant (.str i) k p:=by
 replace h:=X5 h;have⟨x,j,h⟩:=h;have⟨k,p,rfl⟩:=WZ j;erw[⟨k,p,by rw[Xq h]⟩]
def TN{i:Bool}(h:chkE G (.bl i) sc N e=wf):∃k p,e=.Constant (.bool i) k p:=by
 replace h:=X5 h;have⟨x,j,h⟩:=h;have⟨k,p,rfl⟩:=WZ j;erw[⟨k,p,by rw[Xq h]⟩]
def TQ(h:chkE G .non sc N e=wf):∃k p,e=.Constant .none k p:=by
 replace h:=X5 h;have⟨x,j,h⟩:=h;have⟨k,p,rfl⟩:=WZ j;erw[⟨k,p,by rw[Xq h]⟩]
def TR{x:Str}{i:Int}(h:chkE G (.glb x i) sc N e=wf):∃p,e=.Name x p/\G.gl.lookup x=wc i/\glB sc x=wf:=by
 erw[hide λ_ k=>?_];replace h:=X5 h;have⟨y,j,h⟩:=h;have⟨p,rfl⟩:=Yg j;replace h:=Xd h;have⟨h,l⟩:=h;replace h:=Xd h;have⟨t,u⟩:=h;obtain rfl:=Xq t;erw[k ⟨p,rfl,Xq u,l⟩]
def TU{c:Ty7}(h:chkE G (.ty c) sc N e=wf):∃p,e=.Name (c.name:Str) p/\c≠.none/\G.bl.contains (c.name:Str)=wf/\glB sc (c.name:Str)=wf:=by
 erw[hide λ_ k=>?_];replace h:=X5 h;have⟨y,j,h⟩:=h;have⟨p,rfl⟩:=Yg j;replace h:=Xd h;have⟨h,l⟩:=h;replace h:=Xd h;have⟨h,t⟩:=h;replace h:=Xd h;have⟨u,w⟩:=h;obtain rfl:=Xq u;erw[k ⟨p,rfl,Xq w,t,l⟩]
def TV{j:Uh}{a b:IE}(h:chkE G (.bin j a b) sc N e=wf):∃l r p,e=.BinOp l j r p/\chkE G a sc N l=wf/\chkE G b sc N r=wf:=by
 erw[hide λ_ k=>?_];replace h:=X5 h;have⟨⟨l,o,r⟩,t,h⟩:=h;have⟨p,rfl⟩:=Ik t;replace h:=Xd h;have⟨h,u⟩:=h;replace h:=Xd h;have⟨w,y⟩:=h;obtain rfl:=Xq w;erw[k ⟨l,r,p,rfl,y,u⟩]
def TW{a:IE}(h:chkE G (.neg a) sc N e=wf):∃l p,e=.UnaryOp .USub l p/\chkE G a sc N l=wf:=by
 erw[hide λ_ k=>?_];replace h:=X5 h;have⟨⟨o,l⟩,j,h⟩:=h;have⟨p,rfl⟩:=DG j;replace h:=Xd h;have⟨t,u⟩:=h;obtain rfl:=Xq t;erw[k ⟨l,p,rfl,u⟩]
def TY{a:IE}(h:chkE G (.not a) sc N e=wf):∃l p,e=.UnaryOp .Not l p/\chkE G a sc N l=wf:=by
 erw[hide λ_ k=>?_];replace h:=X5 h;have⟨⟨o,l⟩,j,h⟩:=h;have⟨p,rfl⟩:=DG j;replace h:=Xd h;have⟨t,u⟩:=h;obtain rfl:=Xq t;erw[k ⟨l,p,rfl,u⟩]
def TZ{j:CmpOp}{a b:IE}(h:chkE G (.cmp j a b) sc N e=wf):∃l r p,e=.Compare l [j] [r] p/\chkE G a sc N l=wf/\chkE G b sc N r=wf/\behindInMarks j r=wg:=by
 erw[hide λ_ k=>?_];replace h:=X5 h;have⟨⟨l,os,d⟩,t,h⟩:=h;have⟨p,rfl⟩:=DH t;replace h:=X5 h;have⟨o,u,h⟩:=h;replace h:=X5 h;have⟨r,w,h⟩:=h;obtain rfl:=_4 u;obtain rfl:=_4 w;replace h:=Xd h;have⟨h,y⟩:=h;replace h:=Xd h;have⟨h,z⟩:=h;replace h:=Xd h;have⟨m,g⟩:=h;obtain rfl:=Xq m;erw[k ⟨l,r,p,rfl,g,z,not_of y⟩]
def _ko{t j:CmpOp}{a b c:IE}(h:chkE G (.chn t j a b c) sc N e=wf):∃l m r p,e=.Compare l [t,j] [m,r] p/\chkE G a sc N l=wf/\chkE G b sc N m=wf/\chkE G c sc N r=wf/\lastMarks [t,j] [m,r]=wg:=by
 erw[hide λ_ k=>?_];replace h:=X5 h;have⟨⟨l,os,P⟩,u,h⟩:=h;have⟨p,rfl⟩:=DH u;replace h:=X5 h;have⟨⟨o,R⟩,w,h⟩:=h;replace h:=X5 h;have⟨⟨m,r⟩,y,h⟩:=h;obtain rfl:=DK w;obtain rfl:=DK y;replace h:=Xd h;have⟨h,z⟩:=h;replace h:=Xd h;have⟨h,g⟩:=h;replace h:=Xd h;have⟨h,d⟩:=h;replace h:=Xd h;have⟨h,f⟩:=h;replace h:=Xd h;have⟨L,O⟩:=h;obtain rfl:=Xq L;obtain rfl:=Xq O;erw[k ⟨l,m,r,p,rfl,f,d,g,not_of z⟩]
def _kq{a b:IE}(h:chkE G (.and a b) sc N e=wf):∃l r rest p,e=.BoolOp .And (l::r::rest) p/\chkE G a sc N l=wf/\((rest=[]/\chkE G b sc N r=wf)\/chkE G b sc N (.BoolOp .And (r::rest) p)=wf):=by
 replace h:=X5 h;have⟨⟨o,y,p⟩,u,h⟩:=h;obtain rfl:=DI u;replace h:=X5 h;have⟨⟨l,r,rest⟩,j,h⟩:=h;obtain rfl:=Io j;replace h:=Xd h;have⟨h,t⟩:=h;replace h:=Xd h;have⟨j,w⟩:=h;obtain rfl:=Xq j;erw[⟨l,r,rest,p,rfl,w,?_⟩];cases rest with
 |nil=>erw[.inl ⟨rfl,t⟩]
 |cons _ _=>erw[.inr t]
def _mJ{a b:IE}(h:chkE G (.or a b) sc N e=wf):∃l r rest p,e=.BoolOp .Or (l::r::rest) p/\chkE G a sc N l=wf/\((rest=[]/\chkE G b sc N r=wf)\/chkE G b sc N (.BoolOp .Or (r::rest) p)=wf):=by
 replace h:=X5 h;have⟨⟨o,y,p⟩,u,h⟩:=h;obtain rfl:=DI u;replace h:=X5 h;have⟨⟨l,r,rest⟩,j,h⟩:=h;obtain rfl:=Io j;replace h:=Xd h;have⟨h,t⟩:=h;replace h:=Xd h;have⟨j,w⟩:=h;obtain rfl:=Xq j;erw[⟨l,r,rest,p,rfl,w,?_⟩];cases rest with
 |nil=>erw[.inl ⟨rfl,t⟩]
 |cons _ _=>erw[.inr t]
def _kk{a b c:IE}(h:chkE G (.ife c a b) sc N e=wf):∃t x y p,e=.IfExp t x y p/\tok c=wf/\chkE G c sc N t=wf/\chkE G a sc N x=wf/\chkE G b sc N y=wf:=by
 erw[hide λ_ k=>?_];replace h:=X5 h;have⟨⟨t,x,y⟩,j,h⟩:=h;have⟨p,rfl⟩:=Il j;replace h:=Xd h;have⟨h,l⟩:=h;replace h:=Xd h;have⟨h,u⟩:=h;replace h:=Xd h;have⟨w,z⟩:=h;erw[k ⟨t,x,y,p,rfl,w,z,u,l⟩]
def _kc{l:IEs}(h:chkE G (.tup l) sc N e=wf):∃j k p,e=.Tuple j k p/\chkEs G l sc N j=wf:=by
 replace h:=X5 h;have⟨j,t,h⟩:=h;have⟨k,p,rfl⟩:=BN t;erw[⟨j,k,p,rfl,h⟩]
def _ki{l:IEs}(h:chkE G (.lst l) sc N e=wf):∃j p,e=.List j p/\chkEs G l sc N j=wf:=by
 replace h:=X5 h;have⟨j,t,h⟩:=h;have⟨p,rfl⟩:=DJ t;erw[⟨j,p,rfl,h⟩]
def _mL{a b:IE}(h:chkE G (.ix a b) sc N e=wf):∃x y p,e=.Subscript x y p/\chkE G a sc N x=wf/\chkE G b sc N y=wf/\VR y=wf:=by
 erw[hide λ_ k=>?_];replace h:=X5 h;have⟨⟨x,y⟩,j,h⟩:=h;have⟨p,rfl⟩:=A0 j;replace h:=Xd h;have⟨h,l⟩:=h;replace h:=Xd h;have⟨t,u⟩:=h;erw[k ⟨x,y,p,rfl,t,u,l⟩]
def _mI{a:IE}{lo t:IO}(h:chkE G (.sl a lo t) sc N e=wf):∃x l u p j,e=.Subscript x (.Slice l u we j) p/\chkE G a sc N x=wf/\chkO G lo sc N l=wf/\chkO G t sc N u=wf:=by
 replace h:=X5 h;have⟨⟨x,y⟩,w,h⟩:=h;have⟨p,rfl⟩:=A0 w;replace h:=X5 h;have⟨⟨l,u,st⟩,z,h⟩:=h;have⟨j,rfl⟩:=TB z;replace h:=Xd h;have⟨h,m⟩:=h;replace h:=Xd h;have⟨h,g⟩:=h;replace h:=Xd h;have⟨d,c⟩:=h;cases st with
 |some _=>cases m
 |none=>erw[⟨x,l,u,p,j,rfl,d,c,g⟩]
def _hD{j:Nat}{a:IE}{w:IEs}(h:chkE G (.call j a w) sc N e=wf):∃f p x t u,e=.Call (.Name f p) (x::t) [] u/\G.fns[j]?=wc f/\glB sc f=wf/\chkE G a sc N x=wf/\chkEs G w sc N t=wf:=by
 erw[hide λ_ k=>?_];replace h:=X5 h;have⟨⟨f,l,P,u⟩,y,h⟩:=h;obtain rfl:=_3 y;replace h:=X5 h;have⟨g,z,h⟩:=h;have⟨p,rfl⟩:=Yg z;replace h:=X5 h;have⟨⟨x,t⟩,m,h⟩:=h;obtain rfl:=Yo m;replace h:=Xd h;have⟨h,d⟩:=h;replace h:=Xd h;have⟨h,c⟩:=h;replace h:=Xd h;have⟨h,r⟩:=h;replace h:=Xd h;have⟨L,O⟩:=h;obtain rfl:=Y2 L;erw[k ⟨g,p,x,t,u,rfl,Xq O,r,c,d⟩]
def _mN{f:BI}{a:IE}{u:IEs}(h:chkE G (.bi f a u) sc N e=wf):∃p x j t,e=.Call (.Name (f.name:Str) p) (x::j) [] t/\G.bl.contains (f.name:Str)=wf/\glB sc (f.name:Str)=wf/\chkE G a sc N x=wf/\chkEs G u sc N j=wf:=by
 erw[hide λ_ k=>?_];replace h:=X5 h;have⟨⟨P,l,R,t⟩,w,h⟩:=h;obtain rfl:=_3 w;replace h:=X5 h;have⟨g,y,h⟩:=h;have⟨p,rfl⟩:=Yg y;replace h:=X5 h;have⟨⟨x,j⟩,z,h⟩:=h;obtain rfl:=Yo z;replace h:=Xd h;have⟨h,m⟩:=h;replace h:=Xd h;have⟨h,d⟩:=h;replace h:=Xd h;have⟨h,c⟩:=h;replace h:=Xd h;have⟨h,r⟩:=h;replace h:=Xd h;have⟨L,O⟩:=h;obtain rfl:=Y2 L;obtain rfl:=Xq O;erw[k ⟨p,x,j,t,rfl,r,c,d,m⟩]
def _mO{f:B2}{a:IE}(h:chkE G (.b2 f a) sc N e=wf):∃p t x u j,e=.Call (.Name (f.out:Str) p) [.Call (.Name (f.inn:Str) t) [x] [] j] [] u/\G.bl.contains (f.out:Str)=wf/\G.bl.contains (f.inn:Str)=wf/\glB sc (f.out:Str)=wf/\glB sc (f.inn:Str)=wf/\chkE G a sc N x=wf:=by
 erw[hide λ_ k=>?_];replace h:=X5 h;have⟨⟨C,l,D,u⟩,w,h⟩:=h;obtain rfl:=_3 w;replace h:=X5 h;have⟨g,z,h⟩:=h;have⟨p,rfl⟩:=Yg z;replace h:=X5 h;have⟨y,m,h⟩:=h;obtain rfl:=_4 m;replace h:=X5 h;have⟨⟨d,E,c,j⟩,r,h⟩:=h;obtain rfl:=_3 r;replace h:=X5 h;have⟨k,L,h⟩:=h;have⟨t,rfl⟩:=Yg L;replace h:=X5 h;have⟨x,O,h⟩:=h;obtain rfl:=_4 O;simp only[Xs]at h;have⟨⟨⟨⟨⟨⟨⟨⟨P,R⟩,T⟩,U⟩,W⟩,Y⟩,Z⟩,A⟩,B⟩:=h;obtain rfl:=Y2 P;obtain rfl:=Y2 R;obtain rfl:=Xq T;obtain rfl:=Xq U;erw[k ⟨p,t,x,u,j,rfl,W,Y,Z,A,B⟩]
def _mK{m:MT}{o:IE}{w:IEs}(h:chkE G (.mt m o w) sc N e=wf):∃l t j u,e=.Call (.Attribute l (m.name:Str) t) j [] u/\(t.endLine==u.line)=wf/\chkE G o sc N l=wf/\chkEs G w sc N j=wf/\j.length<20:=by
 erw[hide λ_ k=>?_];replace h:=X5 h;have⟨⟨L,j,O,u⟩,y,h⟩:=h;obtain rfl:=_3 y;replace h:=X5 h;have⟨⟨l,P,t⟩,z,h⟩:=h;obtain rfl:=VT z;replace h:=Xd h;have⟨h,g⟩:=h;replace h:=Xd h;have⟨h,d⟩:=h;replace h:=Xd h;have⟨h,c⟩:=h;replace h:=Xd h;have⟨h,f⟩:=h;replace h:=Xd h;have⟨r,p⟩:=h;obtain rfl:=Y2 r;obtain rfl:=Xq p;erw[k ⟨l,t,j,u,rfl,f,c,d,Xq g⟩]
def Iu{own:List Str}{fr:List Nat}{w:ISr}{g:ITg}{u:IO}{y:IE}(h:chkE G (.comp own fr w g u y) sc N e=wf):∃x t z l j p,e=.ListComp x [⟨t,z,l,0⟩] j p/\VI sc j N own fr=wf/\WV z=wf/\
  (nC own fr N).Nodup/\chkSr G w sc N z=wf/\Zh (VQ j sc) (nC own fr N) own.length wg g t=wf/\chkI G u (VQ j sc) (nC own fr N) l=wf/\chkE G y (VQ j sc) (nC own fr N) x=wf:=by
 replace h:=X5 h;have⟨⟨x,T,j⟩,d,h⟩:=h;have⟨p,rfl⟩:=Im d;replace h:=X5 h;have⟨⟨t,z,l,k⟩,m,h⟩:=h;obtain rfl:=_4 m;replace h:=Xd h;have⟨h,c⟩:=h;replace h:=Xd h;have⟨h,f⟩:=h;replace h:=Xd h;have⟨h,r⟩:=h;replace h:=Xd h;have⟨h,L⟩:=h;replace h:=Xd h;have⟨h,O⟩:=h;replace h:=Xd h;have⟨h,P⟩:=h;replace h:=Xd h;have⟨m,R⟩:=h;obtain rfl:=Xq c;erw[⟨x,t,z,l,j,p,rfl,m,R,Xq P,O,L,r,f⟩]
def _km{c f:Str}{o:IE}(h:chkE G (.fld c o f) sc N e=wf):∃j p,e=.Attribute j f p/\G.cls.contains (c,f)=wf/\chkE G o sc N j=wf:=by
 erw[hide λ_ k=>?_];replace h:=X5 h;have⟨⟨j,y,p⟩,l,h⟩:=h;obtain rfl:=VT l;replace h:=Xd h;have⟨h,t⟩:=h;replace h:=Xd h;have⟨u,w⟩:=h;obtain rfl:=Xq u;erw[k ⟨j,p,rfl,w,t⟩]
def _fK{j:Nat}{c m:Str}{o:IE}{y:IEs}(h:chkE G (.mcall j c m o y) sc N e=wf):∃t u l w,e=.Call (.Attribute t m u) l [] w/\G.mts.contains (j,c,m)=wf/\chkE G o sc N t=wf/\chkEs G y sc N l=wf/\(u.endLine==w.line)=wf/\l.length<20:=by
 erw[hide λ_ k=>?_];replace h:=X5 h;have⟨⟨R,l,T,w⟩,z,h⟩:=h;obtain rfl:=_3 z;replace h:=X5 h;have⟨⟨t,U,u⟩,g,h⟩:=h;obtain rfl:=VT g;simp only[Xs]at h;have⟨⟨⟨⟨⟨⟨d,f⟩,r⟩,p⟩,L⟩,O⟩,P⟩:=h;obtain rfl:=Y2 d;obtain rfl:=Xq f;erw[k ⟨t,u,l,w,rfl,r,p,L,O,Xq P⟩]
def _hC{j:Nat}{c:Str}{a:IE}{w:IEs}(h:chkE G (.make j c a w) sc N e=wf):∃p x t u,e=.Call (.Name c p) (x::t) [] u/\G.mks.contains (j,c)=wf/\glB sc c=wf/\chkE G a sc N x=wf/\chkEs G w sc N t=wf:=by
 erw[hide λ_ k=>?_];replace h:=X5 h;have⟨⟨R,l,T,u⟩,y,h⟩:=h;obtain rfl:=_3 y;replace h:=X5 h;have⟨g,z,h⟩:=h;have⟨p,rfl⟩:=Yg z;replace h:=X5 h;have⟨⟨x,t⟩,m,h⟩:=h;obtain rfl:=Yo m;simp only[Xs]at h;have⟨⟨⟨⟨⟨d,f⟩,r⟩,L⟩,O⟩,P⟩:=h;obtain rfl:=Y2 d;obtain rfl:=Xq f;erw[k ⟨p,x,t,u,rfl,r,L,O,P⟩]
def _e7{j:List (Option Expr)}{l:List Expr}(h:A5 G .nil sc N j l=wf):j=[]/\l=[]:=by
 replace h:=Xd h;erw[⟨Y2 h.1,Y2 h.2⟩]
def _cE{k v:IE}{t:IPs}{u:List (Option Expr)}{w:List Expr}(h:A5 G (.cons k v t) sc N u w=wf):∃x j y l,u=wc x::j/\w=y::l/\chkE G k sc N x=wf/\chkE G v sc N y=wf/\A5 G t sc N j l=wf:=by
 erw[hide λ_ k=>?_];replace h:=X5 h;have⟨⟨o,j⟩,m,h⟩:=h;replace h:=X5 h;have⟨⟨y,l⟩,g,h⟩:=h;replace h:=X5 h;have⟨x,z,h⟩:=h;replace h:=Xd h;have⟨h,d⟩:=h;replace h:=Xd h;have⟨c,f⟩:=h;dsimp only at z;subst z;erw[k ⟨x,j,y,l,Yo m,Yo g,c,f,d⟩]
def DM{l:List Expr}(h:chkEs G .nil sc N l=wf):l=[]:=by
 erw[Y2 h]
def BO{a:IE}{t:IEs}{l:List Expr}(h:chkEs G (.cons a t) sc N l=wf):∃x j,l=x::j/\chkE G a sc N x=wf/\chkEs G t sc N j=wf:=by
 replace h:=X5 h;have⟨⟨x,j⟩,u,h⟩:=h;erw[⟨x,j,Yo u,Xd h⟩]
def _e9(h:chkO G .none sc N o=wf):o=we:=by
 cases o with
 |none=>rfl
 |some _=>cases h
def _e8{a:IE}{o:Option Expr}(h:chkO G (.some a) sc N o=wf):∃x,o=wc x/\chkE G a sc N x=wf:=by
 erw[X5 h]
def _eb{l:List Expr}(h:chkI G .none sc N l=wf):l=[]:=by
 erw[Y2 h]
def _ea{a:IE}{l:List Expr}(h:chkI G (.some a) sc N l=wf):∃x,l=[x]/\tok a=wf/\chkE G a sc N x=wf:=by
 replace h:=X5 h;have⟨x,j,h⟩:=h;erw[⟨x,_4 j,Xd h⟩]
def _ke{a:IE}(h:chkSr G (.rng a) sc N e=wf):∃p x j,e=.Call (.Name ("range":Str) p) [x] [] j/\G.bl.contains ("range":Str)=wf/\glB sc ("range":Str)=wf/\chkE G a sc N x=wf:=by
 erw[hide λ_ k=>?_];replace h:=X5 h;have⟨⟨f,l,r,j⟩,t,h⟩:=h;obtain rfl:=_3 t;replace h:=X5 h;have⟨g,u,h⟩:=h;have⟨p,rfl⟩:=Yg u;replace h:=X5 h;have⟨x,w,h⟩:=h;obtain rfl:=_4 w;replace h:=Xd h;have⟨h,y⟩:=h;replace h:=Xd h;have⟨h,z⟩:=h;replace h:=Xd h;have⟨h,m⟩:=h;replace h:=Xd h;have⟨d,c⟩:=h;obtain rfl:=Y2 d;obtain rfl:=Xq c;erw[k ⟨p,x,j,rfl,m,z,y⟩]
def DN{j:Nat}{all:Bool}{i:Nat}(h:Zh sc N j all (.nm i) e=wf):∃x p,e=.Name x p/\N[i]?=wc x/\i<j/\(if all then locB sc x else decide (sc.names.lookup x=wc .local))=wf:=by
 erw[hide λ_ k=>?_];replace h:=X5 h;have⟨x,l,h⟩:=h;have⟨p,rfl⟩:=Yg l;replace h:=Xd h;have⟨h,t⟩:=h;replace h:=Xd h;have⟨u,w⟩:=h;erw[k ⟨x,p,rfl,Xq u,Xq w,t⟩]
def DO{j:Nat}{all:Bool}{t:ITgs}(h:Zh sc N j all (.tup t) e=wf):∃l k p,e=.Tuple l k p/\chkTgs sc N j all t l=wf:=by
 replace h:=X5 h;have⟨l,u,h⟩:=h;have⟨k,p,rfl⟩:=BN u;erw[⟨l,k,p,rfl,h⟩]
def _cD{j:Nat}{all:Bool}{l:List Expr}(h:chkTgs sc N j all .nil l=wf):l=[]:=by
 erw[Y2 h]
def Iv{j:Nat}{all:Bool}{t:ITg}{w:ITgs}{l:List Expr}(h:chkTgs sc N j all (.cons t w) l=wf):∃x u,l=x::u/\Zh sc N j all t x=wf/\chkTgs sc N j all w u=wf:=by
 replace h:=X5 h;have⟨⟨x,u⟩,y,h⟩:=h;erw[⟨x,u,Yo y,Xd h⟩]
end
def liT(K:X1)(t:TEm):TT:=λu H Q=>∃j M,RS K H j u/\RH K M H/\t j M (λm w=>∃b,m=.bl b/\∀l,Kp H l->RH K w l->Q b l)
def liO(K:X1)(t:Sm->MH->(Option Int->MH->Prop)->Prop):TO:=λu H Q=>∃j M,RS K H j u/\RH K M H/\t j M (λo w=>∀l,Kp H l->RH K w l->Q o l)
section
variable{K:X1}
def DP{t:TEm}(m:MonE t){u:St}{H:Hp}{Q:Bool->Hp->Prop}(h:liT K t u H Q):liE K t u H λx w=>∃c,x=.bl c/\Q c w:=by
 have⟨j,M,y,z,h⟩:=h;erw[⟨j,M,y,z,m (λx M1 g=>?_) h⟩];have⟨b,e,d⟩:=g;subst e;intro v f r r1 l;obtain rfl:=r1.inv;erw[⟨b,rfl,d f r l⟩]
def Iw{t:TEm}(m:MonE t){l:Sm}{M:MH}{H w:Hp}{Q:Bool->Hp->Prop}(k:Kp H w)(h:t l M λx u=>∃b,x=.bl b/\∀j,Kp H j->RH K u j->Q b j):
  t l M λx u=>∃b,x=.bl b/\∀j,Kp w j->RH K u j->Q b j:=
 m (λx u y=>by have⟨b,e,q⟩:=y;erw[⟨b,e,λj z=>q j (k.trans z)⟩]) h
def _k4{t:TAm}(d:MonE te)(mt:MonA t)(h:liA K (λl M Q=>te l M λv M1=>t l M1 λu M2=>Q (v::u) M2) l H Q):Zv (liE K te) (liA K t) l H Q:=by
 have⟨j,M,z,c,h⟩:=h;erw[⟨j,M,z,c,d (λx M1 f=>?_) h⟩];intro v L m r1 w;erw[⟨j,M1,z.mono m,w,mt (λN M2 r=>?_) f⟩];intro u p g e y;erw[r (v::u) p (m.trans g) (.cons (r1.mono g) e) y]
end
def DQ(X:Cx)(H:Hp):Src->It->Prop
 |.tup xs,J=>(∃a j,H a=wc (.tup j)/\RMs X.K H xs j/\J=Itt X.K a)\/∃a j,FrL X.K H a j/\RMs X.K H xs j/\J=Itl X.K a
 |.lst a _,J=>J=Itl X.K a
 |.rng lo n,J=>J=Itr lo n
 |.str x,J=>J=Its x
def BP{X:Cx}{u H:Hp}{M:MH}{S:Src}{J:It}(s:DQ X u S J)(j:RH X.K M H)(ok:S.okT M):∃l,Thw X H l/\Kp H l/\RH X.K (S.thaw M) l:=by
 cases S with
 |tup t=>erw[⟨H,.inl rfl,Kp.refl _,j⟩]
 |lst a t=>erw[⟨H,.inl rfl,Kp.refl _,j⟩]
 |rng a t=>erw[⟨H,.inl rfl,Kp.refl _,j⟩]
 |str x=>erw[⟨H,.inl rfl,Kp.refl _,j⟩]
def Ix{M:MH}{S:Src}(ok:S.ok M):S.okT M:=by
 cases S<;>first|trivial|erw[ok]
def Iy{X:Cx}{d H:Hp}{M:MH}{S:Src}{J:It}(s:DQ X d S J)(k:Kp d H)(f:RH X.K M H)(ok:S.ok M):
  (∀i,i<S.len->J.go i H/\∀x t,J.yld i H x t->t=H/\∃m,S.items[i]?=wc m/\RM X.K H m x)/\∀i,S.len<=i->J.stop i H:=by
 have u:∀{a:Addr} {w:List MV} {l:List V},SqL X.K H a l->RMs X.K H w l->(∀i,i<w.length->(Itl X.K a).go i H/\∀x t,(Itl X.K a).yld i H x t->t=H/\∃m,w[i]?=wc m/\RM X.K H m x)/\∀i,w.length<=i->(Itl X.K a).stop i H:=by
  intro a w l g r;erw[⟨λi j=>⟨⟨l,_,g,Xb (by rw[<-r.length];erw[j])⟩,λx t y=>?_⟩,λi j=>⟨l,g,by rw[<-r.length];erw[j]⟩⟩]
  erw[⟨y.1,r.get' (y.2 l g)⟩]
 cases S with
 |tup w=>
  rcases s with⟨a,l,h,r,rfl⟩|⟨a,l,h,r,rfl⟩
  .have h:=SqT.of (K:=X.K) (k _ _ h rfl);have r:=r.mono k;erw[⟨λi j=>⟨⟨l,_,h,Xb (by rw[<-r.length];erw[j])⟩,λx t y=>?_⟩,λi j=>⟨l,h,by rw[<-r.length];erw[j]⟩⟩]
   erw[⟨y.1,r.get' (y.2 l h)⟩]
  .erw[u (FrL.sq ?_) (r.mono k)];rcases h with⟨o,h⟩|h
   .erw[.inl ⟨o,k _ _ h rfl⟩]
   .erw[.inr h]
 |lst a w=>
  cases s;have⟨l,h,r⟩:=f.lst ok;erw[u (SqL.of h) r]
 |rng lo n=>
  cases s;erw[⟨λi j=>⟨j,λx t y=>⟨y.1,.int (lo+(i:Nat)),?_,?_⟩⟩,λi j=>j⟩]
  .show((Xr n).map _)[i]?=_;rw[Xl,Xb (by simpa using(show i<n from j))]
   simp
  .rw[y.2];erw[.int _]
 |str z=>
  cases s;erw[⟨λi j=>⟨j,λx t y=>?_⟩,λi j=>j⟩];have⟨e,c,p,rfl⟩:=y;erw[⟨e,.str ⟨#[c]⟩,?_,.str _⟩];show(z.cps.toList.map _)[i]?=_;rw[Xl,Ft,p]
  rfl
def liSr(X:Cx)(t:TSm):TI:=λu H R=>∃j M,RS X.K H j u/\RH X.K M H/\t j M (λS w=>∀J l,Kp H l->RH X.K w l->DQ X l S J->R J l)
section
variable{X:Cx}{tg:Expr}
def PI.weak{t:TI}(h:PI X tg e t)(i:∀j H R,t' j H R->t j H R):PI X tg e t':=λl s j H R I q=>h l s j H R I (i _ _ _ q)
end
mutual
def gOf(K:X1):ITg->TG
 |.nm i=>By i
 |.tup ts=>gTup K (ITgs.len ts) (gsOf K ts)
def gsOf(K:X1):ITgs->TGs
 |.nil=>gNil
 |.cons t ts=>G9 (gOf K t) (gsOf K ts)
def ITgs.len:ITgs->Nat
 |.nil=>0
 |.cons _ ts=>ts.len+1
end
mutual
theorem sTg{X:Cx}{lim:Nat}{all:Bool}(hc:X.calm=wf)(u:X.N.Nodup)(y:all=wf->∀x,X.fn x=wf):∀(t:ITg){e:Expr},Zh X.env.scope X.N lim all t e=wf->PG X e (gOf X.K t)
 |.nm i,e,h=>by
  have⟨x,p,rfl,w,z,j⟩:=DN h;cases all with
  |true=>
   rw[if_pos rfl]at j;erw[G8 u w (VU j) (.inl (y rfl _))]
  |false=>
   rw[if_neg Xx,decide_eq_true_eq]at j;erw[G8 u w (.inl j) (.inr j)]
 |.tup m,e,h=>by
  have⟨es,k,p,rfl,h⟩:=DO h;have⟨w,z,j⟩:=sTgs hc u y m h;erw[PY hc w z j]
theorem sTgs{all:Bool}(hc:X.calm=wf)(u:X.N.Nodup)(y:all=wf->∀x,X.fn x=wf):∀(t:ITgs){es:List Expr},chkTgs X.env.scope X.N lim all t es=wf->PGs X es (gsOf X.K t)/\(Zz es X.env).length=t.len/\(Zz es X.env).findIdx? (·.1)=we
 |.nil,l,h=>by
  cases _cD h;rw[gsOf,ITgs.len];erw[⟨PV,rfl,rfl⟩]
 |.cons t m,l,h=>by
  have⟨e,es,rfl,g,c⟩:=Iv h;have⟨w,z,j⟩:=sTgs hc u y m c;have f:=sTg hc u y t g;have d:Zz (e::es) X.env=(wg,assign e X.env)::Zz es X.env:=by
   cases t with
   |nm i=>have⟨x,p,rfl,_⟩:=DN g;rfl
   |tup m=>have⟨x,k,p,rfl,_⟩:=DO g;rfl
  rw[gsOf,ITgs.len];erw[⟨PX f w (by rw[d];rfl),by rw[d,Yr,z],?_⟩]
  rw[d,List.findIdx?_cons,if_neg Xx,j]
  rfl
end
theorem RMs.len_tgs{K:X1}:∀{u:ITgs} {w:List MV} {l:Sm} {P:Sm->Prop},wTgs u w l P->w.length=u.len
 |.nil,w,l,P,h=>by rw[h.1,ITgs.len];rfl
 |.cons t u,w,l,P,h=>by
  have⟨v,r,rfl,h⟩:=h;rw[Yr,ITgs.len];have z:∀(t:ITg){v:MV} {l:Sm},wTg t v l (λj=>wTgs u r j P)->∃j,wTgs u r j P:=by
   have y:(∀(t:ITg){v:MV} {l:Sm} {P:Sm->Prop},wTg t v l P->∃j,P j)/\(∀(t:ITgs){v:List MV} {l:Sm} {P:Sm->Prop},wTgs t v l P->∃j,P j):=by
    erw[⟨λt=>?_,λt=>?_⟩]
    .erw[ITg.rec (motive_1:=λt=>∀{v:MV} {l:Sm} {P:Sm->Prop},wTg t v l P->∃j,P j) (motive_2:=λt=>∀{v:List MV} {l:Sm} {P:Sm->Prop},wTgs t v l P->∃j,P j)
      (λi v l P h=>⟨_,h⟩) (λu m v l P h=>by have⟨w,_,h⟩:=h;erw[m h])
      (fun{v l P} h=>⟨_,h.2⟩) (λt u g d v l P h=>by have⟨x,r,_,h⟩:=h;have⟨j,h⟩:=g h;erw[d h]) t]
    .erw[ITgs.rec (motive_1:=λt=>∀{v:MV} {l:Sm} {P:Sm->Prop},wTg t v l P->∃j,P j) (motive_2:=λt=>∀{v:List MV} {l:Sm} {P:Sm->Prop},wTgs t v l P->∃j,P j)
      (λi v l P h=>⟨_,h⟩) (λu m v l P h=>by have⟨w,_,h⟩:=h;erw[m h])
      (fun{v l P} h=>⟨_,h.2⟩) (λt u g d v l P h=>by have⟨x,r,_,h⟩:=h;have⟨j,h⟩:=g h;erw[d h]) t]
   erw[λt {v l} h=>y.1 t h]
  have⟨j,c⟩:=z t h;rw[RMs.len_tgs (K:=K) c]
mutual
theorem BQ{K:X1}{H:Hp}{lim:Nat}{m:Scope}{N:List Str}{all:Bool}{Ψ:St->Prop}(y:∀u i v,i<lim->Ψ u->Ψ (u.set i (wc v))):∀(t:ITg){e:Expr} {mv:MV} {v:V} {l:Sm} {u:St} {P:Sm->Prop} {Q:St->Hp->Prop},Zh m N lim all t e=wf->
  RM K H mv v->RS K H l u->Ψ u->wTg t mv l P->(∀j w,P j->RS K H j w->Ψ w->Q w H)->gOf K t v u H Q
 |.nm i,e,mv,v,l,u,P,Q,hc,r,rs,ps,h,hq=>by
  have⟨x,p,rfl,_,O,_⟩:=DN hc;erw[hq _ _ h (rs.set r i) (y _ _ _ O ps)]
 |.tup ts,e,mv,v,l,u,P,Q,hc,r,rs,ps,h,hq=>by
  have⟨es,k,p,rfl,hc⟩:=DO hc;have⟨xs,rfl,h⟩:=h;have⟨_,_,rfl,R,L⟩:=r.inv;erw[⟨_,_,rfl,SqT.of R,by rw[<-L.length];erw[RMs.len_tgs (K:=K) h],tgs_ok y ts hc L rs ps h hq⟩]
theorem tgs_ok{K:X1}{H:Hp}{lim:Nat}{m:Scope}{N:List Str}{all:Bool}{Ψ:St->Prop}(y:∀u i v,i<lim->Ψ u->Ψ (u.set i (wc v))):∀(t:ITgs){es:List Expr} {z:List MV} {vs:List V} {l:Sm} {u:St} {P:Sm->Prop} {Q:St->Hp->Prop},chkTgs m N lim all t es=wf->
  RMs K H z vs->RS K H l u->Ψ u->wTgs t z l P->(∀j w,P j->RS K H j w->Ψ w->Q w H)->gsOf K t vs u H Q
 |.nil,es,z,vs,l,u,P,Q,hc,r,rs,ps,h,hq=>by
  have⟨rfl,h⟩:=h;obtain rfl:=r.inv;rw[gsOf];erw[⟨rfl,hq _ _ h rs ps⟩]
 |.cons t ts,es,z,vs,l,u,P,Q,hc,r,rs,ps,h,hq=>by
  have⟨e,es,rfl,g,d⟩:=Iv hc;have⟨x,U,rfl,h⟩:=h;have⟨_,_,rfl,r1,T⟩:=r.inv;rw[gsOf];erw[⟨_,_,rfl,BQ y t g r1 rs ps h λj w h' c f=>tgs_ok y ts d T c f h' hq⟩]
end
def _nr{K:X1}{own:List Str}{fr:List Nat}(u:RS K H σm σ):RS K H (sCm own fr σm) (sC own fr σ):=by
 erw[⟨by simp[sCm,sC],λi m e=>?_⟩]
 unfold sCm at e;unfold sC;by_cases hi:i<own.length
 .rw[ZV (by simpa using hi),Xl]at e
  cases q:own[i]? with
  |none=>rw[q]at e;cases e
  |some z=>rw[q]at e;cases e
 .rw[ZU (by simpa using hi),X7,Xl]at e
  rw[ZU (by simpa using hi),X7,Xl]
  cases q:fr[i - own.length]? with
  |none=>rw[q]at e;cases e
  |some j=>
   rw[q]at e;have l:σm.getD j we=wc m:=Y6 e;have w:σm[j]?=wc (wc m):=by
    rw[YK]at l;cases t:σm[j]? with
    |none=>rw[t]at l;cases l
    |some o=>rw[t]at l;rw[show o=wc m from l]
   have⟨v,y,r⟩:=u.2 j m w;erw[⟨v,?_,r⟩];show wc (σ.getD j we)=_;rw[YK,y]
   rfl
def _hz{own:List Str}{fr:List Nat}(l:i<own.length)(k:Keep (sC own fr σ) σ'):Keep (sC own fr σ) (σ'.set i (wc v)):=by
 erw[⟨by rw[Uo];erw[k.1],λj w h=>?_⟩]
 by_cases hij:i=j
 .subst hij;exfalso;unfold sC at h;rw[ZV (by simpa using l),Xl]at h
  cases q:own[i]? with
  |none=>rw[q]at h;cases h
  |some z=>rw[q]at h;cases h
 .rw[Zd,if_neg hij];erw[k.2 j w h]
def Iz{y:Expr}(h:VR y=wf):GD y:=by
 intro o i;cases y<;>first|rfl|cases h
def DR{j:Expr}(h:WV j=wf)(l:Env):∀x,As j l x=pure x:=by
 intro x;cases j<;>first|rfl|cases h
def Cok.comp(c:Cok X G Φ){own:List Str}{fr:List Nat}(j:scope.kind=.function)(l:(nC own fr X.N).Nodup):Cok (cxC X scope own fr C fp s₃ H₃) G Φ:=
 ⟨c.room,c.calm,rfl,(by show(if scope.kind.isAnnotationScope then Dh else scope.kind)=.function;rw[j];rfl),l,c.bls,c.gls,c.fnn,c.mon,c.fns,c.mts,c.mks,c.cls⟩
def ttOf(K:X1)(j:List (Str×SpM)):IO->TT
 |.none=>tAll
 |.some e=>liT K (wE j e)
def IA{X:Cx}{p:List (Str×SpM)}(L:∀(j:Nat)f sp,p[j]?=wc (f,sp)->MonW sp){own:List Str} {fr:List Nat} {O:ISr} {tg:ITg} {u:IO} {w:IE} {sc:Scope} {N:List Str} {t:Expr}
  (h5:Zh sc N own.length wg tg t=wf){σ:St} {H:Hp} {Q:VK} (hw:liE X.K (wE p (.comp own fr O tg u w)) σ H Q):DL own fr (liSr X (wSr p O)) (gOf X.K tg) (ttOf X.K p u) (liE X.K (wE p w)) σ H (λv P=>∃Y,Thw X P Y/\Q v Y):=by
 have⟨σm,M,rs,rh,hw⟩:=hw;erw[⟨σm,M,rs,rh,mon_sr L O (λS M1 R=>?_) hw⟩];have⟨hz,q⟩:=R;intro J H1 k1 Z A D hD;have⟨Jm,j0,j1,j2,j3⟩:=q D (Z.free hD);erw[⟨λi m ys Y=>m=S.len - i/\i<=S.len/\Kp H1 Y/\∃l M2,RH X.K M2 Y/\Jm i l M2,⟨S.len,rfl,YQ _,Kp.new hD _,[],_,Z.put (Kp.new hD (.lst [])) (o:=.lst []) RMs.nil,j0⟩,?_⟩];rintro i m ys Y ⟨rfl,hi,B,l,M2,g,hj⟩;have⟨d1,d2,d3⟩:=j1 i l M2 hj;have⟨C,T⟩:=Iy A B g d3;by_cases hlt:i<S.len
 .have⟨go,yld⟩:=C i hlt;erw[.inr ⟨go,λys' P=>Kp H1 P/\∃l U,RH X.K U P/\Jm (i+1) l U,λys' P R=>by have⟨a,E,U,b,c⟩:=R;erw[⟨S.len - (i+1),by lia,rfl,hlt,a,E,U,b,c⟩],λx H3 y=>?_⟩]
  have⟨e3,m,hm,rm⟩:=yld x H3 y;subst e3;have ht:=j2 i m l M2 hm hj;erw[BQ (Ψ:=Keep (sC own fr σ)) (lim:=own.length) (λF i v hi k=>_hz hi k) tg h5 rm (_nr (rs.mono (k1.trans B))) ⟨rfl,λ_ _ h=>h⟩ ht λz F hP G keep=>⟨keep,?_⟩];have r:∀{I:MH} {n:Hp},Kp H3 n->RH X.K I n->(wE p w z I λy M5=>M5 D=wc (.lst l)/\Jm (i+1) (l++[y]) (updM M5 D (.lst (l++[y]))))->
    liE X.K (wE p w) F n λy H6=>∃W,H6 D=wc (.lst W)/\W.length<sizeLine/\Kp H1 (upd H6 D (.lst (W++[y])))/\∃l U,RH X.K U (upd H6 D (.lst (W++[y])))/\Jm (i+1) l U:=fun{I n} k5 d q=>by
   erw[⟨z,I,G.mono k5,d,X6 L w (λy M5 R=>?_) q⟩];have⟨hd,hj'⟩:=R;intro v H6 k6 r6 rh6;have⟨W,e,rz⟩:=rh6.lst hd;have ku:=Kp.upd e rfl (.lst (W++[v]));erw[⟨W,e,by rw[<-rz.length];lia,B.trans (k5.trans (k6.trans ku)),_,_,rh6.put ku (o:=.lst (l++[y])) ((rz.append (.cons r6 .nil)).mono ku),hj'⟩]
  cases u with
  |none=>
   rw[wI]at hP;rw[if_pos rfl]at hP;rw[ttOf];erw[RP ?_];dsimp only;rw[if_pos rfl];erw[r (Kp.refl _) g hP]
  |some e=>
   erw[⟨z,M2,G,g,X6 L e (λv I R=>by have⟨b,eb,q⟩:=R;erw[⟨b,eb,λn k5 d=>YG (λq=>r k5 d q) (λq=>⟨B.trans k5,_,_,d,q⟩) q⟩]) hP⟩]
 .erw[.inl ⟨T i (by lia),?_⟩]
  have e:i=S.len:=by lia
  subst e;have⟨P,th,k3,rh3⟩:=BP A g (Ix d3);erw[⟨P,th,j3 l M2 hj _ _ (k1.trans (B.trans k3)) (.ref D) rh3⟩]
def IB{K:X1}{c:List (Str×SpM)}(l:∀(j:Nat)f W,c[j]?=wc (f,W)->MonW W){O t:CmpOp} {a b d:IE} {Y:St} {H:Hp} {Q:VK} (hw:liE K (wE c (.chn O t a b d)) Y H Q):
  Dl (li2 K (wCmp O)) (li2 K (wCmp t)) (liE K (wE c a)) (liE K (wE c b)) (liE K (wE c d)) Y H Q:=by
 have⟨g,M,P,B,hw⟩:=hw;rw[Ih]at hw;erw[⟨g,M,P,B,X6 l a (λx M1 C=>?_) hw⟩];intro v i p r1 R;erw[⟨g,M1,P.mono p,R,X6 l b (λy M2 D=>?_) C⟩];intro u n L Z T;erw[⟨x,y,M2,r1.mono L,Z,T,VN O (λz E F=>?_) D⟩];have⟨k,e,G⟩:=F;subst e;intro z h N I r;obtain rfl:=I.inv;erw[⟨k,rfl,YG (λq=>?_) (λq=>?_) G⟩]
 .erw[⟨g,E,P.mono (p.trans (L.trans N)),r,X6 l d (λw J S=>?_) q⟩];intro w' H4 A X U;erw[⟨y,w,J,Z.mono (N.trans A),X,U,VN t (λm M' o=>o.on (p.trans (L.trans (N.trans A)))) S⟩]
 .erw[q _ _ (p.trans (L.trans N)) (.bl _) r]
def DS{o:Expr}{m:Str}{u l:Pos}{t:List Expr}{j:Env}(w:Ui o m j (eval o j)=eval o j)(y:Wh (t.length+([]:List YW).length) (XV l (Xm t j)) (Zl l (Zm [] j))=wf)(z:(u.endLine==l.line)=wf):
  eval (.Call (.Attribute o m u) t [] l) j=(do
   let ov<- eval o j
   standAt u.atName
   let(f,first)<- Z8 [ov] (getMethod ov m (do return(<- importBound o j).getD wf))
   callWith l f first (XV l (Xm t j)) (Zl l (Zm [] j))):=by
 rw[arm_eval_Call,w];unfold methodCall calleeOf methodCallPos;rw[y,z];simp only[if_true,Vu,Bb,pure_bind]
def trOf(K:X1)(j:List (Str×SpM)):IPs->List (TE×TE)
 |.nil=>[]
 |.cons k v r=>(liE K (wE j k),liE K (wE j v))::trOf K j r
noncomputable def aob:IE->Bool
 |.and ..=>wf
 |.or ..=>wf
 |_=>wg
structure Snd (X:Cx)(Φ:List (Str×SpM))(ie:IE)(e:Expr):Prop where
 pe:PE X e (liE X.K (wE Φ ie))
 pt:tok ie=wf->PT X e (liT X.K (wE Φ ie))
 pw:tok ie=wf->aob ie=wf->PW X e (liT X.K (wE Φ ie))
def Snd.plain(c:Cok X G Φ)(l:PE X e (liE X.K (wE Φ ie)))(u:∀j,isTrue e X.env j=(do let v<- j;standAt e.pos;Z8 [v] (truthy v)))(w:aob ie=wg):Snd X Φ ie e:=
 ⟨l,λ_=>(PD l u).weak λy H Q h=>DP (t:=wE Φ ie) (X6 c.mon ie) h,λ_ h=>by rw[w]at h;cases h⟩
def ID(f:BI):(∃n,f.val=.builtin n)\/∃n,f.val=.type n:=by cases f<;>first|erw[.inl ⟨_,rfl⟩]|erw[.inr ⟨_,rfl⟩]
def IF{G:GI}{b:IE}{j:Scope}{N:List Str}{l:BoolOp}{t:List Expr}{p:Pos}(h:chkE G b j N (.BoolOp l t p)=wf):aob b=wf:=by revert h;cases b<;>first|erw[λ_=>rfl]|erw[nob]
mutual
theorem sE{G:GI}{Φ:List (Str×SpM)}:∀(ie:IE){X:Cx} {e:Expr},Cok X G Φ->chkE G ie X.env.scope X.N e=wf->Snd X Φ ie e
 |.var i,X,e,c,h=>by
  have⟨x,p,rfl,T,O,Y,B⟩:=TK h;erw[.plain c ?_ (λ_=>rfl) rfl];erw[(Bw T (Ip O) Y B).weak λW H Q hw=>?_];have⟨L,M,P,U,hw⟩:=hw;rw[Ig]at hw;have⟨v,e,q⟩:=hw;have⟨u,hu,r⟩:=P.2 i v e;erw[⟨u,hu,q _ _ (Kp.refl _) r U⟩]
 |.int i,X,e,c,h=>by
  have⟨k,p,rfl⟩:=TL h;erw[.plain c ?_ (λ_=>rfl) rfl];erw[pe_int.weak λW H Q hw=>?_];have⟨L,M,P,U,hw⟩:=hw;erw[hw _ _ (Kp.refl _) (.int i) U]
 |.str i,X,e,c,h=>by
  have⟨k,p,rfl⟩:=TM h;erw[.plain c ?_ (λ_=>rfl) rfl];erw[pe_str.weak λW H Q hw=>?_];have⟨L,M,P,U,hw⟩:=hw;erw[hw _ _ (Kp.refl _) (.str i) U]
 |.bl i,X,e,c,h=>by
  have⟨k,p,rfl⟩:=TN h;erw[.plain c ?_ (λ_=>rfl) rfl];erw[pe_bl.weak λW H Q hw=>?_];have⟨L,M,P,U,hw⟩:=hw;erw[hw _ _ (Kp.refl _) (.bl i) U]
 |.non,X,e,c,h=>by
  have⟨k,p,rfl⟩:=TQ h;erw[.plain c ?_ (λ_=>rfl) rfl];erw[pe_non.weak λW H Q hw=>?_];have⟨L,M,P,U,hw⟩:=hw;erw[hw _ _ (Kp.refl _) .non U]
 |.glb x i,X,e,c,h=>by
  have⟨p,rfl,T,O⟩:=TR h;have⟨g1,g2,g3⟩:=YL O;have⟨tk,hm⟩:=c.gls x i T;erw[.plain c ?_ (λ_=>rfl) rfl];erw[(G4 (v:=.int i) g1 hm ⟨tk,rfl⟩ g2).weak λW H Q hw=>?_];have⟨L,M,P,U,hw⟩:=hw;erw[hw _ _ (Kp.refl _) (.int i) U]
 |.ty t,X,e,c,h=>by
  have⟨p,rfl,h0,T,O⟩:=TU h;have⟨g1,g2,g3⟩:=YL O;erw[.plain c ?_ (λ_=>rfl) rfl];erw[(PC (v:=.ty t.name) g1 (c.bls _ T) (TC h0) rfl g3 g2).weak λW H Q hw=>?_];have⟨L,M,P,U,hw⟩:=hw;erw[hw _ _ (Kp.refl _) (.ty t) U]
 |.bin op a b,X,e,c,h=>by
  have⟨l,r,p,rfl,T,O⟩:=TV h;erw[.plain c ?_ (λ_=>rfl) rfl];erw[(Qa (Te op) (sE a c T).pe (sE b c O).pe).weak λW H Q hw=>?_];have:wE Φ (.bin op a b)=λW M Q=>wE Φ a W M λx M1=>wE Φ b W M1 λy M2=>wBin op x y M2 Q:=rfl;rw[this]at hw;erw[DA (t:=wE Φ a) (z:=wE Φ b) (w:=wBin op) (X6 c.mon a) (X6 c.mon b) (HD op) hw]
 |.neg a,X,e,c,h=>by
  have⟨l,p,rfl,T⟩:=TW h;erw[.plain c ?_ (λ_=>rfl) rfl];erw[(Qb Qj (sE a c T).pe).weak λW H Q hw=>?_];have⟨L,M,P,U,hw⟩:=hw;erw[⟨L,M,P,U,X6 c.mon a (λx M1 h'=>?_) hw⟩];have⟨i,e,q⟩:=h';subst e;intro v Z k1 r1 N;obtain rfl:=r1.inv;erw[⟨i,rfl,q _ _ k1 (.int _) N⟩]
 |.not a,X,e,c,h=>by
  have⟨l,p,rfl,T⟩:=TY h;have ih:=sE a c T;erw[⟨(PM ih.pe).weak λW H Q hw=>?_,λJ=>(PF (ih.pt J)).weak λW H Q hw=>?_,λ_ z=>by cases z⟩]
  .have⟨L,M,P,U,hw⟩:=hw;rw[DD]at hw;erw[⟨L,M,P,U,X6 c.mon a (λx M1 h'=>?_) hw⟩];have⟨i,e,q⟩:=h';subst e;intro v Z k1 r1 N;obtain rfl:=r1.inv;erw[⟨i,rfl,q _ _ k1 (.bl _) N⟩]
  .have⟨L,M,P,U,hw⟩:=hw;rw[DD]at hw;erw[⟨L,M,P,U,X6 c.mon a (λx M1 ⟨i,e,b,e2,q⟩=>⟨i,e,λH' k rh'=>?_⟩) hw⟩];cases e2;erw[q H' k rh']
 |.cmp op a b,X,e,c,h=>by
  have⟨l,r,p,rfl,T,O,Y⟩:=TZ h;have rd:∀W H Q,liE X.K (wE Φ (.cmp op a b)) W H Q->tOp (li2 X.K (wCmp op)) (liE X.K (wE Φ a)) (liE X.K (wE Φ b)) W H Q:=λW H Q hw=>by
   have:wE Φ (.cmp op a b)=λW M Q=>wE Φ a W M λx M1=>wE Φ b W M1 λy M2=>wCmp op x y M2 Q:=rfl;rw[this]at hw;erw[DA (t:=wE Φ a) (z:=wE Φ b) (w:=wCmp op) (X6 c.mon a) (X6 c.mon b) (VN op) hw]
  erw[⟨(Qs (VO c.room op) (sE a c T).pe (sE b c O).pe Y).weak rd,λ_=>(Qt (VO c.room op) (sE a c T).pe (sE b c O).pe Y).weak λW H Q hw=>?_,λ_ z=>by cases z⟩]
  erw[rd W H _ (DP (t:=wE Φ (.cmp op a b)) (X6 c.mon _) hw)]
 |.chn op op' a b d,X,e,c,h=>by
  have⟨l,m,r,p,rfl,T,O,Y,B⟩:=_ko h;erw[⟨(Qu (VO c.room op) (VO c.room op') (sE a c T).pe (sE b c O).pe (sE d c Y).pe B).weak λW H Q hw=>IB c.mon hw,
   λ_=>(Qv (VO c.room op) (VO c.room op') (sE a c T).pe (sE b c O).pe (sE d c Y).pe B).weak λW H Q hw=>?_,λ_ z=>by cases z⟩]
  erw[IB c.mon (DP (t:=wE Φ (.chn op op' a b d)) (X6 c.mon _) hw)]
 |.and a b,X,e,c,h=>by
  have⟨l,r,rest,p,rfl,T,O⟩:=_kq h;have ih:=sE a c T;have hb:PE X (.BoolOp .And (r::rest) p) (liE X.K (wE Φ b)):=by
   rcases O with⟨rfl,O⟩|O
   .erw[G5 (sE b c O).pe]
   .erw[(sE b c O).pe]
  have hw':tok (.and a b)=wf->PW X (.BoolOp .And (l::r::rest) p) (liT X.K (wE Φ (.and a b))):=λJ=>by
   have J:(tok a&&tok b)=wf:=J;rw[Xs]at J;have hb2:PW X (.BoolOp .And (r::rest) p) (liT X.K (wE Φ b)):=by
    rcases O with⟨rfl,O⟩|O
    .erw[pw_and1 ((sE b c O).pt J.2)]
    .erw[(sE b c O).pw J.2 ?_];erw[IF O]
   erw[(pw_and (ih.pt J.1) hb2).weak λW H Q hw=>?_];have⟨L,M,P,U,hw⟩:=hw;rw[DE]at hw;erw[⟨L,M,P,U,X6 c.mon a (λx M1 ⟨k,e,q⟩=>⟨k,e,λZ k1 N=>?_⟩) hw⟩];erw[YG (λq=>⟨L,M1,P.mono k1,N,Iw (t:=wE Φ b) (X6 c.mon b) k1 q⟩) (λq=>by have⟨b,e,q⟩:=q;erw[MV.noConfusion e λeb=>eb▸q Z k1 N]) q]
  erw[⟨(PK ih.pe hb).weak λW H Q hw=>?_,λJ=>(hw' J).pt,λJ _=>hw' J⟩];have⟨L,M,P,U,hw⟩:=hw;rw[DE]at hw;erw[⟨L,M,P,U,X6 c.mon a (λx M1 h'=>?_) hw⟩];have⟨k,e,q⟩:=h';subst e;intro v Z k1 r1 N;obtain rfl:=r1.inv;erw[⟨k,rfl,YG (λq=>⟨L,M1,P.mono k1,N,X6 c.mon b (λm M' A=>A.on k1) q⟩) (λq=>q _ _ k1 (.bl _) N) q⟩]
 |.or a b,X,e,c,h=>by
  have⟨l,r,rest,p,rfl,T,O⟩:=_mJ h;have ih:=sE a c T;have hb:PE X (.BoolOp .Or (r::rest) p) (liE X.K (wE Φ b)):=by
   rcases O with⟨rfl,O⟩|O
   .erw[G5 (sE b c O).pe]
   .erw[(sE b c O).pe]
  have hw':tok (.or a b)=wf->PW X (.BoolOp .Or (l::r::rest) p) (liT X.K (wE Φ (.or a b))):=λJ=>by
   have J:(tok a&&tok b)=wf:=J;rw[Xs]at J;have hb2:PW X (.BoolOp .Or (r::rest) p) (liT X.K (wE Φ b)):=by
    rcases O with⟨rfl,O⟩|O
    .erw[pw_or1 ((sE b c O).pt J.2)]
    .erw[(sE b c O).pw J.2 ?_];erw[IF O]
   erw[(pw_or (ih.pt J.1) hb2).weak λW H Q hw=>?_];have⟨L,M,P,U,hw⟩:=hw;rw[x_or]at hw;erw[⟨L,M,P,U,X6 c.mon a (λx M1 ⟨k,e,q⟩=>⟨k,e,λZ k1 N=>?_⟩) hw⟩];erw[YG (λq=>by have⟨b,e,q⟩:=q;erw[MV.noConfusion e λeb=>eb▸q Z k1 N]) (λq=>⟨L,M1,P.mono k1,N,Iw (t:=wE Φ b) (X6 c.mon b) k1 q⟩) q]
  erw[⟨(PL ih.pe hb).weak λW H Q hw=>?_,λJ=>(hw' J).pt,λJ _=>hw' J⟩];have⟨L,M,P,U,hw⟩:=hw;rw[x_or]at hw;erw[⟨L,M,P,U,X6 c.mon a (λx M1 h'=>?_) hw⟩];have⟨k,e,q⟩:=h';subst e;intro v Z k1 r1 N;obtain rfl:=r1.inv;erw[⟨k,rfl,YG (λq=>q _ _ k1 (.bl _) N) (λq=>⟨L,M1,P.mono k1,N,X6 c.mon b (λm M' A=>A.on k1) q⟩) q⟩]
 |.ife d a b,X,e,c,h=>by
  have⟨t,x,y,p,rfl,h0,T,O,Y⟩:=_kk h;erw[⟨(PN ((sE d c T).pt h0) (sE a c O).pe (sE b c Y).pe).weak λW H Q hw=>?_,λz=>(by cases z),λz _=>(by cases z)⟩]
  have⟨L,M,P,U,hw⟩:=hw;rw[Ii]at hw;erw[⟨L,M,P,U,X6 c.mon d (λx M1 ⟨k,e,q⟩=>⟨k,e,λZ k1 N=>?_⟩) hw⟩];erw[YG (λq=>⟨L,M1,P.mono k1,N,X6 c.mon a (λm M' A=>A.on k1) q⟩) (λq=>⟨L,M1,P.mono k1,N,X6 c.mon b (λm M' A=>A.on k1) q⟩) q]
 |.tup es,X,e,c,h=>by
  have⟨xs,k,p,rfl,T⟩:=_kc h;erw[.plain c ?_ (λ_=>rfl) rfl];erw[(QP (sA es c T)).weak λW H Q hw=>?_];have⟨L,M,P,U,hw⟩:=hw;erw[⟨L,M,P,U,mon_es c.mon es (λms M1 h'=>?_) hw⟩];have⟨hz,q⟩:=h';intro vs Z k1 r1 N;erw[⟨by rw[<-r1.length];erw[hz],λp hp=>?_⟩]
  have k2:=Kp.new hp (.tup vs);erw[q _ _ (k1.trans k2) (.tup _G (r1.mono k2)) (N.kept hp _)]
 |.lst es,X,e,c,h=>by
  have⟨xs,p,rfl,T⟩:=_ki h;erw[.plain c ?_ (λ_=>rfl) rfl];erw[(Gj (sA es c T)).weak λW H Q hw=>?_];have⟨L,M,P,U,hw⟩:=hw;erw[⟨L,M,P,U,mon_es c.mon es (λms M1 h'=>?_) hw⟩];have⟨hz,q⟩:=h';intro vs Z k1 r1 N;erw[⟨by rw[<-r1.length];erw[hz],λp hp=>?_⟩]
  have k2:=Kp.new hp (.lst vs);erw[q p (N.free hp) _ _ (k1.trans k2) (.ref p) (N.put k2 (r1.mono k2))]
 |.dic,X,e,c,h=>absurd h Xx
 |.ix a b,X,e,c,h=>by
  have⟨l,r,p,rfl,T,O,Y⟩:=_mL h;erw[.plain c ?_ (λ_=>rfl) rfl];erw[(GE (HR (by have:=c.room;lia)) (sE a c T).pe (sE b c O).pe (Iz Y)).weak λW H Q hw=>?_]
  have:wE Φ (.ix a b)=λW M Q=>wE Φ a W M λx M1=>wE Φ b W M1 λy M2=>wIx x y M2 Q:=rfl;rw[this]at hw;erw[DA (t:=wE Φ a) (z:=wE Φ b) (w:=wIx) (X6 c.mon a) (X6 c.mon b) HP hw]
 |.sl a lo hi,X,e,c,h=>by
  have⟨x,l,u,p,p2,rfl,T,O,Y⟩:=_mI h;erw[.plain c ?_ (λ_=>rfl) rfl];erw[(R7 Tl (sE a c T).pe (sO lo c O) (sO hi c Y)).weak λW H Q hw=>?_];have⟨L,M,P,U,hw⟩:=hw;erw[⟨L,M,P,U,X6 c.mon a (λx M1 S=>?_) hw⟩];intro v Z k1 r1 N;erw[⟨L,M1,P.mono k1,N,mon_o c.mon lo (λl M2 q2=>?_) S⟩];intro H2 k2 D;erw[⟨L,M2,P.mono (k1.trans k2),D,mon_o c.mon hi (λu M3 q3=>?_) q2⟩];intro H3 k3 rh3;erw[⟨x,M3,r1.mono (k2.trans k3),rh3,HS (λm M' A=>A.on (k1.trans (k2.trans k3))) q3⟩]
 |.call j a es,X,e,c,h=>by
  have⟨f,p,x,xs,p2,rfl,T,O,Y,B⟩:=_hD h;have⟨g1,g2,g3⟩:=YL O;have⟨sp,hj⟩:=c.fnn j f T;have⟨k,fa,fd,ps,hr,F,hm,hk,hb⟩:=c.fns j f sp T hj;have ha:PA X (x::xs) (Zv (liE X.K (wE Φ a)) (liA X.K (wEs Φ es))):=YT (sE a c Y).pe (sA es c B) (Y8 Y);erw[.plain c ?_ (λ_=>rfl) rfl];erw[(Gm (E:=E0) F hr g1 hm hk hb .nil BE ha g2 (Y8 Y) (_i (_5 (l:=p2) B)).2).weak λW H Q hw=>?_];have⟨L,M,P,U,hw⟩:=hw;rw[Ij]at hw;erw[⟨L,M,P,U,X6 c.mon a (λv M1 S=>?_) hw⟩];intro u Z k1 r1 N;erw[⟨L,M1,P.mono k1,N,mon_es c.mon es (λvs M2 h'=>?_) S⟩];have⟨f',sp',e,q2⟩:=h';rw[hj]at e;cases e;intro us H2 k2 r2 D;erw[⟨v::vs,M2,?_,D,c.mon j f sp hj (λm M' A=>A.on (k1.trans k2)) q2⟩];rw[Ze];erw[.cons (r1.mono k2) r2]
 |.bi f a es,X,e,c,h=>by
  have⟨p,x,xs,p2,rfl,T,O,Y,B⟩:=_mN h;have⟨g1,g2,g3⟩:=YL O;have ha:PA X (x::xs) (Zv (liE X.K (wE Φ a)) (liA X.K (wEs Φ es))):=YT (sE a c Y).pe (sA es c B) (Y8 Y);have hv:=Iq f;have hcall:=HY (X:=X) c.calm f;have hp:PE X (.Call (.Name (f.name:Str) p) (x::xs) [] p2) (tCB (liW X.K (wBi f)) (Zv (liE X.K (wE Φ a)) (liA X.K (wEs Φ es)))):=by
   rcases ID f with⟨n,hf⟩|⟨n,hf⟩<;>rw[hf]at hv hcall
   .erw[BB hcall g1 (c.bls _ T) hv ha g3 g2 (Y8 Y) (_i (_5 (l:=p2) B)).2]
   .erw[Gv hcall g1 (c.bls _ T) hv ha g3 g2 (Y8 Y) (_i (_5 (l:=p2) B)).2]
  erw[.plain c ?_ (λ_=>rfl) rfl];erw[hp.weak λW H Q hw=>?_];have⟨L,M,P,U,hw⟩:=hw;erw[⟨L,M,P,U,X6 c.mon a (λv M1 S=>?_) hw⟩];intro u Z k1 r1 N;erw[⟨L,M1,P.mono k1,N,mon_es c.mon es (λvs M2 q2=>?_) S⟩];intro us H2 k2 r2 D;erw[⟨v::vs,M2,.cons (r1.mono k2) r2,D,HX f (λm M' A=>A.on (k1.trans k2)) q2⟩]
 |.b2 f a,X,e,c,h=>by
  have⟨p,p',x,p2,p2',rfl,T,O,Y,B,h5⟩:=_mO h;have⟨g1,g2,g3⟩:=YL Y;have⟨k1,k2,k3⟩:=YL B;have hv:Ym (f.out:Str)=wc f.outV:=by cases f<;>decide+kernel
  have hv':Ym (f.inn:Str)=wc (.type f.inn):=by cases f<;>decide+kernel
  have hp:PE X (.Call (.Name (f.out:Str) p) [.Call (.Name (f.inn:Str) p') [x] [] p2'] [] p2) (λW H Q=>liE X.K (wE Φ a) W H λv Z=>li1 X.K (wB2 f) v Z Q):=by
   have hc:=Tq (X:=X) c.calm f;cases f with
   |lrng=>erw[T1 (p:=p) (N:=p') (l:=p2) (j:=p2') hc g1 (c.bls _ T) hv k1 (c.bls _ O) hv' (sE a c h5).pe g3 g2 k3 k2 (Y8 h5)]
   |ssrt=>erw[Dy (p:=p) (N:=p') (l:=p2) (j:=p2') hc g1 (c.bls _ T) hv k1 (c.bls _ O) hv' (sE a c h5).pe g3 g2 k3 k2 (Y8 h5)]
   |lset=>erw[Dy (p:=p) (N:=p') (l:=p2) (j:=p2') hc g1 (c.bls _ T) hv k1 (c.bls _ O) hv' (sE a c h5).pe g3 g2 k3 k2 (Y8 h5)]
   |tset=>erw[Dy (p:=p) (N:=p') (l:=p2) (j:=p2') hc g1 (c.bls _ T) hv k1 (c.bls _ O) hv' (sE a c h5).pe g3 g2 k3 k2 (Y8 h5)]
  erw[.plain c ?_ (λ_=>rfl) rfl];erw[hp.weak λW H Q hw=>?_];have⟨L,M,P,U,hw⟩:=hw;erw[⟨L,M,P,U,X6 c.mon a (λv M1 S=>?_) hw⟩];intro u Z k1 r1 N;erw[⟨v,M1,r1,N,I0 f (λm M' A=>A.on k1) S⟩]
 |.st3 a,X,e,c,h=>absurd h Xx
 |.mxd a,X,e,c,h=>absurd h Xx
 |.mt m o es,X,e,c,h=>by
  have⟨ob,ap,args,cp,rfl,T,O,Y,B⟩:=_mK h;have slot:PySem.Slot m.ty (m.name:Str) m.id/\typeOf (.builtin m.id)=pure (.type "method_descriptor"):=by
   cases m
   .erw[⟨PySem.F.slot_list_append,PySem.F.type_list_append⟩]
   .erw[⟨PySem.F.slot_list_extend,PySem.F.type_list_extend⟩]
  have plain:PlainAttrs m.ty:=by
   cases m<;>first|erw[PySem.F.plainAttrs_list]|erw[PySem.F.plainAttrs_dict]|erw[PySem.F.plainAttrs_str]
  have hu1:X.A.units+1<cLine:=by have:=c.room;lia
  have tyL:∀{Z:Hp} {M1:MH} {mx:MV} {v:V},RH X.K M1 Z->RM X.K Z mx v->mtOk m mx M1->tyV X.K m.ty v Z:=by
   intro Z M1 mx v U r hm;cases m
   all_goals
    have⟨a,xs,rfl,hm⟩:=hm;obtain rfl:=r.inv;have⟨vs,e,_⟩:=U.lst hm;erw[.inl ⟨rfl,vs,SqL.of e⟩]
  erw[.plain c ?_ (λ_=>rfl) rfl];cases args with
  |nil=>
   erw[(Rm plain slot.1 slot.2 (Ib hu1 m) (sE o c O).pe (VW O) T).weak λW H Q hw=>?_];have⟨L,M,P,U,hw⟩:=hw;erw[⟨L,M,P,U,X6 c.mon o (λv M1 h'=>?_) hw⟩];have⟨q0,S⟩:=h';intro u Z k1 r1 N;cases es with
   |cons _ _=>erw[absurd Y Xx]
   |nil=>
    erw[⟨tyL N r1 q0,v,[],M1,r1,.nil,N,DC (λm M' A=>A.on k1) S⟩]
  |cons x xs=>
   cases es with
   |nil=>cases DM Y
   |cons a es=>
    have h3':=Y;have⟨x',xs',e',Y⟩:=BO Y;cases e';have ha:=sA (.cons a es) c h3';have hall:=_i (j:=cp) (_5 (j:=X.env) (l:=cp) h3');erw[(Rn plain slot.1 slot.2 (Ib hu1 m) (sE o c O).pe ha (VW O) ?_ T (Y8 Y.1) (_i (_5 (l:=cp) Y.2)).2).weak λW H Q hw=>?_]
    .rw[hall.1];simp only[Ww,Xs,decide_eq_true_eq];erw[⟨rfl,?_⟩];simp at B ⊢;lia
    have⟨L,M,P,U,hw⟩:=hw;erw[⟨L,M,P,U,X6 c.mon o (λv M1 h'=>?_) hw⟩];have⟨q0,S⟩:=h';intro u Z k1 r1 N;erw[⟨tyL N r1 q0,L,M1,P.mono k1,N,mon_es c.mon (.cons a es) (λvs M2 q2=>?_) S⟩];intro us H2 k2 r2 D;erw[⟨v,vs,M2,r1.mono k2,r2,D,DC (λm M' A=>A.on (k1.trans k2)) q2⟩]
 |.comp own fr src tg test elt,X,e,c,h=>by
  have⟨x,t,it,ifs,scope,p,rfl,T,O,Y,B,h5,h6,h7⟩:=Iu h;erw[.plain c ?_ (λ_=>rfl) rfl];erw[(TH own fr (g:=gOf X.K tg) (te:=liE X.K (wE Φ elt)) (λe s h=>by rw[c.nox]at h;erw[h]) c.calm T (sSr src (tg:=t) c B) (λC fp s₃ H₃=>sTg (X:=cxC X scope own fr C fp s₃ H₃) (lim:=own.length) (all:=wg) c.calm Y (λz=>by cases z) tg h5) (tt:=ttOf X.K Φ test) (λC fp s₃ H₃=>sI (X:=cxC X scope own fr C fp s₃ H₃) test (c.comp (VJ T).kind Y) h6)
   (λC fp s₃ H₃=>(sE (X:=cxC X scope own fr C fp s₃ H₃) elt (c.comp (VJ T).kind Y) h7).pe) (DR O _)).thaw.weak λW H Q hw=>?_]
  erw[IA c.mon h5 hw]
 |.fld cn o f,X,e,c,h=>by
  have⟨ob,p,rfl,T,O⟩:=_km h;have⟨C,hC,cl,na⟩:=c.cls cn f T;erw[.plain c ?_ (λ_=>rfl) rfl];erw[(QJ (sE o c O).pe (VW O)).weak λW H Q hw=>?_];have⟨L,M,P,U,hw⟩:=hw;erw[⟨L,M,P,U,X6 c.mon o (λv M1 h'=>?_) hw⟩];have⟨a,fs,y,e,e2,e3,q⟩:=h';subst e;intro u Z k1 r1 N;obtain rfl:=r1.inv;have⟨C',dx,vs,g1,g2,g3⟩:=N.ins e2;rw[hC]at g2;cases g2;rcases BK (f:=f) g3 with⟨z1,z2⟩|⟨x',u',z1,z2,r'⟩
  .rw[e3]at z1;cases z1
  .rw[e3]at z1;cases z1;erw[⟨a,C,dx,vs,u',rfl,g1,cl,na,z2,q _ _ k1 r' N⟩]
 |.mcall j cn m o es,X,e,c,h=>by
  have⟨ob,ap,args,cp,rfl,T,O,Y,h8,h9⟩:=_fK h;have hform:Wh (args.length+([]:List YW).length) (XV cp (Xm args X.env)) (Zl cp (Zm [] X.env))=wf:=by
   unfold Wh;have e0:Zl cp (Zm [] X.env)=[]:=rfl;rw[(_i (_5 (l:=cp) Y)).1,e0];simp only[Ww,Xs,decide_eq_true_eq];erw[⟨rfl,?_⟩];simp at h9 ⊢;lia
  have⟨fn,sp,hj,k,C,fa,fd,ps,hr,F,hC,cl,hm,hb⟩:=c.mts j cn m T;erw[.plain c ?_ (λ_=>rfl) rfl];cases args with
  |nil=>
   erw[(QS (E:=E0) (sE o c O).pe cl hm F hr hb .nil BE (DS (VW O) hform h8)).weak λW H Q hw=>?_];have⟨L,M,P,U,hw⟩:=hw;erw[⟨L,M,P,U,X6 c.mon o (λv M1 h'=>?_) hw⟩];have⟨a,fs,e,e2,e3,q⟩:=h';subst e;intro u Z k1 r1 N;obtain rfl:=r1.inv;have⟨C',dx,vs,g1,g2,g3⟩:=N.ins e2;rw[hC]at g2;cases g2;have hn:vs.lookup m=we:=by
    rcases BK (f:=m) g3 with⟨_,z2⟩|⟨x',u',z1,_⟩
    .erw[z2]
    .rw[e3]at z1;cases z1
   cases es with
   |cons _ _=>erw[absurd Y Xx]
   |nil=>
    have⟨f',sp',e4,q2⟩:=q;rw[hj]at e4;cases e4;erw[⟨a,dx,vs,rfl,g1,hn,[.ref a],M1,.cons (.ref a) .nil,N,c.mon j fn sp hj (λm M' A=>A.on k1) q2⟩]
  |cons x xs=>
   cases es with
   |nil=>cases DM Y
   |cons a0 es=>
    have h3':=Y;have⟨x',xs',e',B,h5⟩:=BO Y;cases e';erw[(Gn (E:=E0) (sE o c O).pe cl hm F hr hb .nil BE (sA (.cons a0 es) c h3') (Y8 B) (_i (_5 (l:=cp) h5)).2 (DS (VW O) hform h8)).weak λW H Q hw=>?_];have⟨L,M,P,U,hw⟩:=hw;erw[⟨L,M,P,U,X6 c.mon o (λv M1 h'=>?_) hw⟩];have⟨a,fs,e,e2,e3,q⟩:=h';subst e;intro u Z k1 r1 N;obtain rfl:=r1.inv;have⟨C',dx,vs,g1,g2,g3⟩:=N.ins e2;rw[hC]at g2;cases g2;have hn:vs.lookup m=we:=by
     rcases BK (f:=m) g3 with⟨_,z2⟩|⟨x',u',z1,_⟩
     .erw[z2]
     .rw[e3]at z1;cases z1
    erw[⟨a,dx,vs,rfl,g1,hn,L,M1,P.mono k1,N,mon_es c.mon (.cons a0 es) (λws M2 h'=>?_) q⟩];have⟨f',sp',e4,q2⟩:=h';rw[hj]at e4;cases e4;intro us H2 k2 r2 D;erw[⟨.ref a::ws,M2,?_,D,c.mon j fn sp hj (λm M' A=>A.on (k1.trans k2)) q2⟩];rw[Ze];erw[.cons (.ref a) r2]
 |.make j cn a es,X,e,c,h=>by
  have⟨p,x,xs,p2,rfl,T,O,Y,B⟩:=_hC h;have⟨g1,g2,g3⟩:=YL O;have⟨fn,sp,hj,k,C,fa,fd,ps,hr,F,hC,hm,mk,hb⟩:=c.mks j cn T;have ha:PA X (x::xs) (Zv (liE X.K (wE Φ a)) (liA X.K (wEs Φ es))):=YT (sE a c Y).pe (sA es c B) (Y8 Y);erw[.plain c ?_ (λ_=>rfl) rfl];erw[(QU (E:=E0) mk F hr g1 hm hb .nil BE ha g2 (Y8 Y) (_i (_5 (l:=p2) B)).2).weak λW H Q hw=>?_];have⟨L,M,P,U,hw⟩:=hw;erw[⟨L,M,P,U,X6 c.mon a (λv M1 S=>?_) hw⟩];intro u Z k1 r1 N;erw[⟨L,M1,P.mono k1,N,mon_es c.mon es (λvs M2 h'=>?_) S⟩];have⟨f',sp',e,q2⟩:=h';rw[hj]at e;cases e;intro us H2 k2 r2 D;intro q dx A hdx ne;have kk:Kp H2 (upd (upd H2 dx (.own q)) q (.ins C dx [])):=(Kp.new hdx _).trans (Kp.new (by rw[XQ ne.symm];erw[A]) _)
  erw[⟨.ref q::v::vs,updM M2 q (.ins cn []),?_,?_,c.mon j fn sp hj (λm M' ⟨z,hq'⟩=>?_) (q2 q (D.free A))⟩]
  .rw[Ze];erw[.cons (.ref q) (.cons ((r1.mono k2).mono kk) (r2.mono kk))]
  .have k3:=Kp.new (H:=H2) hdx (.own q);have rh3:RH X.K M2 (upd H2 dx (.own q)):=D.kept hdx _;erw[rh3.put (Kp.new (by rw[XQ ne.symm];erw[A]) _) (o:=.ins cn []) ⟨hC,.nil⟩]
  .subst z;intro v' H' k' r' rh';obtain rfl:=r'.inv;erw[⟨rfl,hq' _ _ ((k1.trans k2).trans (kk.trans k')) (.ref q) rh'⟩]
 |.disp ps,X,e,c,h=>absurd h Xx
theorem sP:∀(ps:IPs){X:Cx} {pos:Pos} {ks:List (Option Expr)} {vs:List Expr},Cok X G Φ->A5 G ps X.env.scope X.N ks vs=wf->PPs X pos ks vs (trOf X.K Φ ps)
 |.nil,X,pos,ks,vs,c,h=>by
  have⟨rfl,rfl⟩:=_e7 h;erw[Rz]
 |.cons k v r,X,pos,ks,vs,c,h=>by
  have⟨x,ks',y,vs',rfl,rfl,T,O,Y⟩:=_cE h;erw[RA (sE k c T).pe (sE v c O).pe (sP r c Y)]
theorem sA{G:GI}{Φ:List (Str×SpM)}:∀(ies:IEs){X:Cx} {es:List Expr},Cok X G Φ->chkEs G ies X.env.scope X.N es=wf->PA X es (liA X.K (wEs Φ ies))
 |.nil,X,es,c,h=>by
  cases es with
  |cons _ _=>cases DM h
  |nil=>
   erw[pa_nil.weak λW H Q hw=>?_];have⟨L,M,P,U,hw⟩:=hw;erw[hw _ _ (Kp.refl _) .nil U]
 |.cons a as,X,es,c,h=>by
  cases es with
  |nil=>cases h
  |cons x xs=>
   have⟨x',xs',e',h⟩:=BO h;cases e';erw[(YT (sE a c h.1).pe (sA as c h.2) (Y8 h.1)).weak λW H Q hw=>?_];have:wEs Φ (.cons a as)=λW M Q=>wE Φ a W M λv M1=>wEs Φ as W M1 λvs M2=>Q (v::vs) M2:=rfl;rw[this]at hw;erw[_k4 (te:=wE Φ a) (t:=wEs Φ as) (X6 c.mon a) (mon_es c.mon as) hw]
theorem sO{G:GI}{Φ:List (Str×SpM)}:∀(io:IO){X:Cx} {e:Option Expr},Cok X G Φ->chkO G io X.env.scope X.N e=wf->PO X e (liO X.K (wO Φ io))
 |.none,X,e,c,h=>by
  cases e with
  |some _=>cases _e9 h
  |none=>
   intro pj s W H Q I hw;erw[R5 pj s W H Q I ?_];have⟨L,M,P,U,hw⟩:=hw;erw[hw _ (Kp.refl _) U]
 |.some a,X,e,c,h=>by
  cases e with
  |none=>erw[absurd h Xx]
  |some x=>
   have⟨x',e',h⟩:=_e8 h;cases e';intro pj s W H Q I hw;erw[R6 (sE a c h).pe pj s W H Q I ?_];have⟨L,M,P,U,hw⟩:=hw;erw[⟨L,M,P,U,X6 c.mon a (λv M1 h'=>?_) hw⟩];have⟨i,e,q⟩:=h';subst e;intro u Z k1 r1 N;obtain rfl:=r1.inv;erw[⟨i,rfl,q Z k1 N⟩]
theorem sI{G:GI}{Φ:List (Str×SpM)}:∀(io:IO){X:Cx} {es:List Expr},Cok X G Φ->chkI G io X.env.scope X.N es=wf->PTs X es (ttOf X.K Φ io)
 |.none,X,es,c,h=>by
  cases es with
  |cons _ _=>cases _eb h
  |nil=>erw[.inl ⟨rfl,rfl⟩]
 |.some a,X,es,c,h=>by
  have⟨x,rfl,T,O⟩:=_ea h;erw[.inr ⟨x,rfl,(sE a c O).pt T⟩]
theorem sSr{G:GI}{Φ:List (Str×SpM)}:∀(s:ISr){X:Cx} {tg e:Expr},Cok X G Φ->chkSr G s X.env.scope X.N e=wf->PI X tg e (liSr X (wSr Φ s))
 |.seq a,X,tg,e,c,h=>by
  erw[(SN (sE a c h).pe).weak λW H R hw=>?_];have⟨L,M,P,U,hw⟩:=hw;erw[⟨L,M,P,U,X6 c.mon a (λv M1 q=>?_) hw⟩];intro u Z k1 r1 N;rcases q with⟨xs,e,q⟩|⟨b,xs,e,hb,q⟩|q|⟨z,e,q⟩
  .rcases e with e|e
   .subst e;have⟨_,_,rfl,T,S⟩:=r1.inv;erw[.inl ⟨_,rfl,.inr (.inl ⟨_,SqT.of T,q _ _ k1 N (.inl ⟨_,_,T,S,rfl⟩)⟩)⟩]
   .subst e;have⟨_,_,rfl,T,S⟩:=r1.inv;erw[.inl ⟨_,rfl,.inl ⟨_,T.sq,q _ _ k1 N (.inr ⟨_,_,T,S,rfl⟩)⟩⟩]
  .subst e;obtain rfl:=r1.inv;have⟨vs,e2,_⟩:=N.lst hb;erw[.inl ⟨_,rfl,.inl ⟨_,SqL.of e2,q _ _ k1 N rfl⟩⟩]
  .erw[q.elim]
  .subst e;obtain rfl:=r1.inv;erw[.inr ⟨z,rfl,q _ _ k1 N rfl⟩]
 |.rng a,X,tg,e,c,h=>by
  have⟨p,x,p2,rfl,O,Y,B⟩:=_ke h;erw[(Q7 (YL Y).1 (c.bls _ O) (YT (sE a c B).pe pa_nil (Y8 B)) (Y8 B)).weak λW H R hw=>?_];have⟨L,M,P,U,hw⟩:=hw;erw[⟨L,M,P,U,X6 c.mon a (λv M1 h'=>?_) hw⟩];have⟨j,e,S,q2,q⟩:=h';subst e;intro u Z k1 r1 N;obtain rfl:=r1.inv;erw[⟨j,rfl,S,q2,q _ _ k1 N rfl⟩]
end
end L2
namespace L2
set_option genInjectivity false
set_option genCtorIdx false
open PySem PySem.Spec PyProof.Rows
mutual
inductive IS where
 |pass|brk|cnt|never
 |ret (e:IE)|retN
 |set (i:Nat)(e:IE)
 |asg (t:ITgs)(e:IE)
 |put (o i e:IE)
 |fset (c:Str)(o:IE)(f:Str)(e:IE)
 |expr (e:IE)
 |ite (c:IE)(a b:ISs)
 |for_ (t:ITg)(s:ISr)(b:ISs)
 |while_ (c:IE)(b:ISs)
inductive ISs where|nil|cons (s:IS)(r:ISs)
end
structure EndM where
 nx:Sm->MH->Prop
 rt:QM
 bk:Sm->MH->Prop:=λ_ _=>False
 ct:Sm->MH->Prop:=λ_ _=>False
mutual
def wS(Φ:List (Str×SpM)):IS->EndM->Sm->MH->Prop
 |.pass,D,j,M=>D.nx j M
 |.brk,D,j,M=>D.bk j M
 |.cnt,D,j,M=>D.ct j M
 |.never,_,_,_=>False
 |.ret e,D,j,M=>wE Φ e j M D.rt
 |.retN,D,_,M=>D.rt .non M
 |.set i e,D,j,M=>wE Φ e j M λv M1=>D.nx (j.set i (wc v)) M1
 |.asg t e,D,j,M=>wE Φ e j M λv M1=>∃xs,v=.tup xs/\wTgs t xs j λl=>D.nx l M1
 |.put o i e,D,j,M=>wE Φ e j M λv M1=>wE Φ o j M1 λx M2=>wE Φ i j M2 λy z=>wPut x y v z λg=>D.nx j g
 |.fset c o f e,D,j,M=>wE Φ e j M λv M1=>wE Φ o j M1 λx M2=>∃a fs,x=.ref a/\M2 a=wc (.ins c fs)/\fs.length<1000/\D.nx j (updM M2 a (.ins c (putM fs f v)))
 |.expr e,D,j,M=>wE Φ e j M λ_ M1=>D.nx j M1
 |.ite c a b,D,j,M=>wE Φ c j M λx M1=>onB x λk=>(if k=wf then wSs Φ a D j M1 else wSs Φ b D j M1)
 |.for_ t s b,D,j,M=>wSr Φ s j M λS M1=>∃J:Nat->Sm->MH->Prop,J 0 j M1/\(∀i j M,J i j M->S.ok M)/\
   (∀i x j M,S.items[i]?=wc x->J i j M->wTg t x j λw=>wSs Φ b {nx:=J (i+1),rt:=λv M=>S.okT M/\D.rt v (S.thaw M),bk:=λj M=>S.okT M/\D.nx j (S.thaw M),ct:=J (i+1)} w M)/\∀j M,J S.len j M->D.nx j (S.thaw M)
 |.while_ c b,D,j,M=>∃J:Nat->Sm->MH->Prop,(∃m,J m j M)/\∀m j M,J m j M->wE Φ c j M λx M1=>∃k,x=.bl k/\
   (if k=wf then wSs Φ b {nx:=λl M'=>∃u,u<m/\J u l M',rt:=D.rt,bk:=D.nx,ct:=λl M'=>∃u,u<m/\J u l M'} j M1 else D.nx j M1)
def wSs(Φ:List (Str×SpM)):ISs->EndM->Sm->MH->Prop
 |.nil,D,j,M=>D.nx j M
 |.cons s r,D,j,M=>wS Φ s {nx:=λj M=>wSs Φ r D j M,rt:=D.rt,bk:=D.bk,ct:=D.ct} j M
end
def IG{j:List (Str×SpM)}{c:IE}{a b:ISs}{D:EndM}{l:Sm}{M:MH}:wS j (.ite c a b) D l M=wE j c l M λx M1=>∃k,x=.bl k/\(if k=wf then wSs j a D l M1 else wSs j b D l M1):=by
 show(wE j c l M λx M1=>onB x λk=>(if k=wf then wSs j a D l M1 else wSs j b D l M1))=_;simp only[VP]
structure EndM.Le (D D':EndM):Prop where
 nx:∀σ M,D.nx σ M->D'.nx σ M
 rt:∀v M,D.rt v M->D'.rt v M
 bk:∀σ M,D.bk σ M->D'.bk σ M
 ct:∀σ M,D.ct σ M->D'.ct σ M
mutual
theorem BR{Φ:List (Str×SpM)}(u:∀(j:Nat)f sp,Φ[j]?=wc (f,sp)->MonW sp):∀(s:IS){D g:EndM} {w:Sm} {M:MH},D.Le g->wS Φ s D w M->wS Φ s g w M
 |.pass,D,g,w,M,l,h=>by erw[l.nx _ _ h]
 |.brk,D,g,w,M,l,h=>by erw[l.bk _ _ h]
 |.cnt,D,g,w,M,l,h=>by erw[l.ct _ _ h]
 |.never,D,g,w,M,l,h=>h.elim
 |.ret e,D,g,w,M,l,h=>by erw[X6 u e l.rt h]
 |.retN,D,g,w,M,l,h=>by erw[l.rt _ _ h]
 |.set i e,D,g,w,M,l,h=>by erw[X6 u e (λv M1 d=>l.nx _ _ d) h]
 |.asg t e,D,g,w,M,l,h=>by erw[X6 u e (λv M1 h'=>by have⟨xs,e,d⟩:=h';erw[⟨xs,e,mon_tgs t (λP p=>l.nx _ _ p) d⟩]) h]
 |.put o i e,D,g,w,M,l,h=>by
  erw[X6 u e (λv M1 d=>X6 u o (λx M2 p=>X6 u i (λy E R=>Ic (λF T=>l.nx _ _ T) R) p) d) h]
 |.fset c o f e,D,g,w,M,l,h=>by
  erw[X6 u e (λv M1 d=>X6 u o (λx M2 h'=>by have⟨a,fs,U,W,Y,p⟩:=h';erw[⟨a,fs,U,W,Y,l.nx _ _ p⟩]) d) h]
 |.expr e,D,g,w,M,l,h=>by erw[X6 u e (λv M1 d=>l.nx _ _ d) h]
 |.ite c a b,D,g,w,M,l,h=>by
  rw[IG]at h ⊢;erw[X6 u c (λx M1 h'=>by have⟨k,e,d⟩:=h';erw[⟨k,e,YG (mon_ss u a l) (mon_ss u b l) d⟩]) h]
 |.for_ t s b,D,g,w,M,l,h=>by
  erw[mon_sr u s (λS M1 ⟨J,N,O,Z,A⟩=>⟨J,N,O,λi x w M B L=>?_,λw M L=>l.nx _ _ (A w M L)⟩) h];erw[WU t (λC p=>by erw[mon_ss u b ?_ p];erw[⟨λ_ _ z=>z,λ_ _ z=>⟨z.1,l.rt _ _ z.2⟩,λ_ _ z=>⟨z.1,l.nx _ _ z.2⟩,λ_ _ z=>z⟩]) (Z i x w M B L)]
 |.while_ c b,D,g,w,M,l,h=>by
  have⟨J,N,O⟩:=h;erw[⟨J,N,λm w M L=>X6 u c (λx M1 ⟨k,e,d⟩=>⟨k,e,YG (λz=>by erw[mon_ss u b ?_ z];erw[⟨λ_ _ z=>z,l.rt,l.nx,λ_ _ z=>z⟩]) (l.nx _ _) d⟩) (O m w M L)⟩]
theorem mon_ss{Φ:List (Str×SpM)}(u:∀(j:Nat)f sp,Φ[j]?=wc (f,sp)->MonW sp):∀(s:ISs){D g:EndM} {w:Sm} {M:MH},D.Le g->wSs Φ s D w M->wSs Φ s g w M
 |.nil,D,g,w,M,l,h=>by erw[l.nx _ _ h]
 |.cons s r,D,g,w,M,l,h=>by
  erw[BR u s ?_ h];erw[⟨λw M d=>mon_ss u r l d,l.rt,l.bk,l.ct⟩]
end
noncomputable def II:Expr->Bool
 |.Tuple ..=>wg|_=>wf
noncomputable def VX:Expr->Bool
 |.ListComp ..=>wg|.SetComp ..=>wg|.DictComp ..=>wg|_=>wf
noncomputable def BS:Stmt->Option (Option Expr)|.Return v _=>wc v|_=>we
noncomputable def V7:Stmt->Option (List Expr×Expr)|.Assign ts v _=>wc (ts,v)|_=>we
noncomputable def asEx:Stmt->Option Expr|.Expr v _=>wc v|_=>we
noncomputable def DT:Stmt->Option (Expr×List Stmt×List Stmt)|.If t x y _=>wc (t,x,y)|_=>we
noncomputable def IJ:Stmt->Option (Expr×Expr×List Stmt×List Stmt)|.For t i b r _=>wc (t,i,b,r)|_=>we
noncomputable def asWh:Stmt->Option (Expr×List Stmt×List Stmt)|.While t b r _=>wc (t,b,r)|_=>we
section
variable{e:Stmt}
def DU{x:Option Expr}(h:BS e=wc x):∃p,e=.Return x p:=by revert h;cases e<;>first|erw[nos]|(intro h;cases h;erw[⟨_,rfl⟩])
def VY{x:List Expr×Expr}(h:V7 e=wc x):∃p,e=.Assign x.1 x.2 p:=by revert h;cases e<;>first|erw[nos]|(intro h;cases h;erw[⟨_,rfl⟩])
def DV{x:Expr}(h:asEx e=wc x):∃p,e=.Expr x p:=by revert h;cases e<;>first|erw[nos]|(intro h;cases h;erw[⟨_,rfl⟩])
def IL{x:Expr×List Stmt×List Stmt}(h:DT e=wc x):∃p,e=.If x.1 x.2.1 x.2.2 p:=by revert h;cases e<;>first|erw[nos]|(intro h;cases h;erw[⟨_,rfl⟩])
def _hX{x:Expr×Expr×List Stmt×List Stmt}(h:IJ e=wc x):∃p,e=.For x.1 x.2.1 x.2.2.1 x.2.2.2 p:=by revert h;cases e<;>first|erw[nos]|(intro h;cases h;erw[⟨_,rfl⟩])
def _kL{x:Expr×List Stmt×List Stmt}(h:asWh e=wc x):∃p,e=.While x.1 x.2.1 x.2.2 p:=by revert h;cases e<;>first|erw[nos]|(intro h;cases h;erw[⟨_,rfl⟩])
end
mutual
def chkS(G:GI)(j:Scope)(N:List Str):IS->Stmt->Bool
 |.pass,_=>wg
 |.brk,_=>wg
 |.cnt,_=>wg
 |.never,_=>wf
 |.ret e,s=>(BS s).any λo=>o.any λx=>chkE G e j N x
 |.retN,_=>wg
 |.set i e,s=>(V7 s).any λq=>(the1 q.1).any λt=>(Yc t).any λx=>decide (N[i]?=wc x)&&locB j x&&chkE G e j N q.2
 |.asg t e,s=>(V7 s).any λq=>(the1 q.1).any λg=>(VS g).any λes=>chkTgs j N N.length wf t es&&chkE G e j N q.2&&II q.2
 |.put o i e,s=>(V7 s).any λq=>(the1 q.1).any λt=>(V6 t).any λa=>chkE G o j N a.1&&chkE G i j N a.2&&VR a.2&&chkE G e j N q.2
 |.fset c o f e,s=>(V7 s).any λq=>(the1 q.1).any λt=>(Ux t).any λa=>decide (a.2.1=f)&&G.cls.contains (c,f)&&chkE G o j N a.1&&chkE G e j N q.2
 |.expr e,s=>(asEx s).any λv=>chkE G e j N v&&VX v
 |.ite c a b,s=>(DT s).any λq=>tok c&&chkE G c j N q.1&&chkSs G j N a q.2.1&&chkSs G j N b q.2.2
 |.for_ t r b,s=>(IJ s).any λq=>Zh j N N.length wf t q.1&&chkSr G r j N q.2.1&&WV q.2.1&&chkSs G j N b q.2.2.1&&non0 q.2.2.2
 |.while_ c b,s=>(asWh s).any λq=>tok c&&chkE G c j N q.1&&chkSs G j N b q.2.1&&non0 q.2.2
def chkSs(G:GI)(j:Scope)(N:List Str):ISs->List Stmt->Bool
 |.nil,l=>non0 l
 |.cons s r,l=>(hd1 l).any λq=>chkS G j N s q.1&&chkSs G j N r q.2
end
def liD(K:X1)(H:Hp)(D:Ends):EndM where
 nx:=λl M=>∀t j,Kp H j->RS K j l t->RH K M j->D.nx t j
 rt:=Dn K H D.rt
 bk:=λl M=>∀t j,Kp H j->RS K j l t->RH K M j->D.bk t j
 ct:=λl M=>∀t j,Kp H j->RS K j l t->RH K M j->D.ct t j
theorem liD.on{K:X1}{H u:Hp}{D:Ends}(k:Kp H u):(liD K H D).Le (liD K u D):=
 ⟨λ_ _ h j l t=>h j l (k.trans t),λ_ _ h=>h.on k,λ_ _ h j l t=>h j l (k.trans t),λ_ _ h j l t=>h j l (k.trans t)⟩
def liSt(K:X1)(t:EndM->Sm->MH->Prop):TS:=λD l H=>∃j M,RS K H j l/\RH K M H/\t (liD K H D) j M
def _eH{e:Expr}{x:Str}{p:Pos}{l:Nat}{j:Env}(h:VX e=wf):Zy e (wc (.Name x p)) l j=pure wg:=by cases e<;>first|rfl|cases h
def DW{e:Expr}{l:Nat}{j:Env}(h:VX e=wf):Zy e we l j=pure wg:=by cases e<;>first|rfl|cases h
def _gU{e:Expr}{l:List Expr}{k:Nat}{p:Pos}{t:Nat}{j:Env}:Zy e (wc (.Tuple l k p)) t j=pure wg:=by cases e<;>rfl
def _gW{e a:Expr}{f:Str}{p:Pos}{l:Nat}{j:Env}:Zy e (wc (.Attribute a f p)) l j=pure wg:=by cases e<;>rfl
def _gV{e a b:Expr}{p:Pos}{l:Nat}{j:Env}:Zy e (wc (.Subscript a b p)) l j=pure wg:=by cases e<;>rfl
def _eI{l:Expr}{w:List Comprehension}{j:Scope}{t p:Pos}{x:Str}{y:Nat}{u:Env}:∃b:Bool,Zy (.ListComp l w j t) (wc (.Name x p)) y u=pure b:=⟨_,rfl⟩
def _kD{G:GI}{l:IE}{w:Scope}{N:List Str}{e:Expr}(h:chkE G l w N e=wf):VX e=wf\/∃own fr t y j u,l=.comp own fr t y j u:=by
 revert h;cases e<;>first
  |erw[λ_=>.inl rfl]
  |(cases l<;>first
    |erw[nob]
    |erw[λ_=>.inr ⟨_,_,_,_,_,_,rfl⟩])
section
variable{G:GI}{sc:Scope}{N:List Str}{st:Stmt}
def _hF{e:IE}(h:chkS G sc N (.ret e) st=wf):∃x p,st=.Return (wc x) p/\chkE G e sc N x=wf:=by
 replace h:=X5 h;have⟨o,j,h⟩:=h;have⟨p,rfl⟩:=DU j;replace h:=X5 h;have⟨x,rfl,h⟩:=h;erw[⟨x,p,rfl,h⟩]
def _hE{i:Nat}{e:IE}(h:chkS G sc N (.set i e) st=wf):∃x j v p,st=.Assign [.Name x j] v p/\N[i]?=wc x/\locB sc x=wf/\chkE G e sc N v=wf:=by
 replace h:=X5 h;have⟨⟨g,v⟩,l,h⟩:=h;have⟨p,rfl⟩:=VY l;replace h:=X5 h;have⟨t,u,h⟩:=h;obtain rfl:=_4 u;replace h:=X5 h;have⟨x,w,h⟩:=h;have⟨j,rfl⟩:=Yg w;replace h:=Xd h;have⟨h,y⟩:=h;replace h:=Xd h;have⟨z,m⟩:=h;erw[⟨x,j,v,p,rfl,Xq z,m,y⟩]
def _hJ{t:ITgs}{e:IE}(h:chkS G sc N (.asg t e) st=wf):∃j k pt v p,st=.Assign [.Tuple j k pt] v p/\chkTgs sc N N.length wf t j=wf/\chkE G e sc N v=wf/\II v=wf:=by
 replace h:=X5 h;have⟨⟨d,v⟩,l,h⟩:=h;have⟨p,rfl⟩:=VY l;replace h:=X5 h;have⟨g,u,h⟩:=h;obtain rfl:=_4 u;replace h:=X5 h;have⟨j,w,h⟩:=h;have⟨k,pt,rfl⟩:=BN w;replace h:=Xd h;have⟨h,y⟩:=h;replace h:=Xd h;have⟨z,m⟩:=h;erw[⟨j,k,pt,v,p,rfl,z,m,y⟩]
def _hG{o i e:IE}(h:chkS G sc N (.put o i e) st=wf):∃a b pt v p,st=.Assign [.Subscript a b pt] v p/\chkE G o sc N a=wf/\chkE G i sc N b=wf/\VR b=wf/\chkE G e sc N v=wf:=by
 replace h:=X5 h;have⟨⟨m,v⟩,j,h⟩:=h;have⟨p,rfl⟩:=VY j;replace h:=X5 h;have⟨g,l,h⟩:=h;obtain rfl:=_4 l;replace h:=X5 h;have⟨⟨a,b⟩,t,h⟩:=h;have⟨pt,rfl⟩:=A0 t;replace h:=Xd h;have⟨h,u⟩:=h;replace h:=Xd h;have⟨h,w⟩:=h;replace h:=Xd h;have⟨y,z⟩:=h;erw[⟨a,b,pt,v,p,rfl,y,z,w,u⟩]
def _fM{c f:Str}{o e:IE}(h:chkS G sc N (.fset c o f e) st=wf):∃a pt v p,st=.Assign [.Attribute a f pt] v p/\G.cls.contains (c,f)=wf/\chkE G o sc N a=wf/\chkE G e sc N v=wf:=by
 replace h:=X5 h;have⟨⟨m,v⟩,j,h⟩:=h;have⟨p,rfl⟩:=VY j;replace h:=X5 h;have⟨g,l,h⟩:=h;obtain rfl:=_4 l;replace h:=X5 h;have⟨⟨a,d,pt⟩,t,h⟩:=h;obtain rfl:=VT t;simp only[Xs]at h;have⟨⟨⟨u,w⟩,y⟩,z⟩:=h;obtain rfl:=Xq u;erw[⟨a,pt,v,p,rfl,w,y,z⟩]
def _fN{e:IE}(h:chkS G sc N (.expr e) st=wf):∃v p,st=.Expr v p/\chkE G e sc N v=wf/\VX v=wf:=by
 replace h:=X5 h;have⟨v,j,h⟩:=h;have⟨p,rfl⟩:=DV j;erw[⟨v,p,rfl,Xd h⟩]
def _hH{c:IE}{a b:ISs}(h:chkS G sc N (.ite c a b) st=wf):∃t x y p,st=.If t x y p/\tok c=wf/\chkE G c sc N t=wf/\chkSs G sc N a x=wf/\chkSs G sc N b y=wf:=by
 replace h:=X5 h;have⟨⟨t,x,y⟩,j,h⟩:=h;have⟨p,rfl⟩:=IL j;replace h:=Xd h;have⟨h,l⟩:=h;replace h:=Xd h;have⟨h,u⟩:=h;replace h:=Xd h;have⟨w,z⟩:=h;erw[⟨t,x,y,p,rfl,w,z,u,l⟩]
def _hI{t:ITg}{s:ISr}{b:ISs}(h:chkS G sc N (.for_ t s b) st=wf):∃u l j p,st=.For u l j [] p/\Zh sc N N.length wf t u=wf/\chkSr G s sc N l=wf/\WV l=wf/\chkSs G sc N b j=wf:=by
 replace h:=X5 h;have⟨⟨u,l,j,w⟩,y,h⟩:=h;have⟨p,rfl⟩:=_hX y;replace h:=Xd h;have⟨h,z⟩:=h;replace h:=Xd h;have⟨h,m⟩:=h;replace h:=Xd h;have⟨h,g⟩:=h;replace h:=Xd h;have⟨d,c⟩:=h;obtain rfl:=Y2 z;erw[⟨u,l,j,p,rfl,d,c,g,m⟩]
def _ed{c:IE}{b:ISs}(h:chkS G sc N (.while_ c b) st=wf):∃t j p,st=.While t j [] p/\tok c=wf/\chkE G c sc N t=wf/\chkSs G sc N b j=wf:=by
 replace h:=X5 h;have⟨⟨l,j,u⟩,w,h⟩:=h;have⟨p,rfl⟩:=_kL w;replace h:=Xd h;have⟨h,y⟩:=h;replace h:=Xd h;have⟨h,z⟩:=h;replace h:=Xd h;have⟨m,g⟩:=h;obtain rfl:=Y2 y;erw[⟨l,j,p,rfl,m,g,z⟩]
def _fL{j:List Stmt}(h:chkSs G sc N .nil j=wf):j=[]:=by
 erw[Y2 h]
def _ec{s:IS}{r:ISs}{j:List Stmt}(h:chkSs G sc N (.cons s r) j=wf):∃x l,j=x::l/\chkS G sc N s x=wf/\chkSs G sc N r l=wf:=by
 replace h:=X5 h;have⟨⟨x,l⟩,t,h⟩:=h;erw[⟨x,l,Yo t,Xd h⟩]
end
mutual
theorem sS{G:GI}{Φ:List (Str×SpM)}:∀(is:IS){X:Cx} {st:Stmt},Cok X G Φ->(∀x,X.fn x=wf)->chkS G X.env.scope X.N is st=wf->PS X st (liSt X.K (wS Φ is))
 |.pass,X,st,c,hf,h=>absurd h Xx
 |.brk,X,st,c,hf,h=>absurd h Xx
 |.cnt,X,st,c,hf,h=>absurd h Xx
 |.never,X,st,c,hf,h=>by
  erw[ps_never.weak λD B H hw=>?_];have⟨j,M,L,U,hw⟩:=hw;erw[hw]
 |.ret e,X,st,c,hf,h=>by
  have⟨v,p,rfl,h⟩:=_hF h;erw[(Dk (sE e c h).pe).weak λD B H hw=>?_];have⟨j,M,L,U,hw⟩:=hw;erw[⟨j,M,L,U,hw⟩]
 |.retN,X,st,c,hf,h=>absurd h Xx
 |.set i e,X,st,c,hf,h=>by
   have⟨x,px,v,p,rfl,Y,Z,n⟩:=_hE h;have rd:∀D B H,liSt X.K (wS Φ (.set i e)) D B H->liE X.K (wE Φ e) B H λv H1=>D.nx (B.set i (wc v)) H1:=λD B H hw=>by
    have⟨j,M,L,U,hw⟩:=hw;erw[⟨j,M,L,U,X6 c.mon e (λv M1 q=>?_) hw⟩];intro u H1 k1 r1 N;erw[q _ _ k1 ((L.mono k1).set r1 i) N]
   rcases _kD n with hn|⟨own,fr,src,tg,test,elt,rfl⟩
   .erw[(Bz c.nd Y (VU Z) (sE e c n).pe (_eH hn) (.inl (hf _))).weak rd]
   .have⟨y,t,it,ifs,scope,p3,rfl,i1,i2,i3,i4,i5,i6,i7⟩:=Iu n;have⟨b,hb⟩:=_eI (l:=y) (w:=[⟨t,it,ifs,0⟩]) (j:=scope) (t:=p3) (p:=px) (x:=x) (y:=p.line) (u:=X.env);cases b with
    |false=>erw[(Bz c.nd Y (VU Z) (sE _ c n).pe hb (.inl (hf _))).weak rd]
    |true=>
     erw[(TJ own fr (g:=gOf X.K tg) (te:=liE X.K (wE Φ elt)) (tt:=ttOf X.K Φ test) c.nd Y (VU Z) (λe s h=>by rw[c.nox]at h;erw[h]) c.calm i1 (sSr src (tg:=t) c i4)
      (λC fp E F=>sTg (X:=cxC X scope own fr C fp E F) (lim:=own.length) (all:=wg) c.calm i3 (λz=>by cases z) tg i5) (λC fp E F=>sI (X:=cxC X scope own fr C fp E F) test (c.comp (VJ i1).kind i3) i6)
      (λC fp E F=>(sE (X:=cxC X scope own fr C fp E F) elt (c.comp (VJ i1).kind i3) i7).pe) hb (DR i2 _) (.inl (hf _))).thaw.weak λD B H hw=>?_]
     erw[IA c.mon i5 (rd D B H hw)]
 |.asg t e,X,st,c,hf,h=>by
   have⟨es,k,pt,v,p,rfl,Y,Z,n⟩:=_hJ h;have hT:Zh X.env.scope X.N X.N.length wf (.tup t) (.Tuple es k pt)=wf:=Y;erw[(Ga (sE e c Z).pe (sTg (lim:=X.N.length) (all:=wf) c.calm c.nd (λ_=>hf) (.tup t) hT) (_gU (e:=v) (l:=es) (k:=k) (p:=pt) (t:=p.line) (j:=X.env)) (by cases v<;>first|rfl|cases n) rfl).weak λD B H hw=>?_]
   have⟨j,M,L,U,hw⟩:=hw;erw[⟨j,M,L,U,X6 c.mon e (λv M1 h'=>?_) hw⟩];have⟨xs,e,q⟩:=h';intro u H1 k1 r1 N;erw[BQ (Ψ:=λ_=>True) (lim:=X.N.length) (λ_ _ _ _ z=>z) (.tup t) hT r1 (L.mono k1) trivial (P:=λl=>(liD X.K H D).nx l M1) ⟨xs,e,q⟩ λw l q' O _=>?_];erw[q' _ _ k1 O N]
 |.put o i e,X,st,c,hf,h=>by
   have⟨a,b,pt,v,p,rfl,Y,Z,n,h4⟩:=_hG h;have hg:PG X (.Subscript a b pt) (gSub (liE X.K (wE Φ o)) (liE X.K (wE Φ i)) (Ie X.K)):=PZ (sE o c Y).pe (sE i c Z).pe (Tt (by have:=c.room;lia)) (by intro v;cases b<;>first|rfl|cases n)
   erw[(Ga (sE e c h4).pe hg (_gV (e:=v) (a:=a) (b:=b) (p:=pt) (l:=p.line) (j:=X.env)) rfl rfl).weak λD B H hw=>?_];have⟨j,M,L,U,hw⟩:=hw;erw[⟨j,M,L,U,X6 c.mon e (λv M1 q1=>?_) hw⟩];intro u H1 k1 r1 N;erw[⟨j,M1,L.mono k1,N,X6 c.mon o (λx M2 q2=>?_) q1⟩];intro u2 H2 k2 r2 W;erw[⟨j,M2,L.mono (k1.trans k2),W,X6 c.mon i (λy M3 q3=>?_) q2⟩];intro u3 H3 k3 r3 rh3;erw[⟨x,y,v,M3,r2.mono k3,r3,r1.mono (k2.trans k3),rh3,Ic (λM4 q4=>?_) q3⟩];intro H4 k4 rh4;have kk:=k1.trans (k2.trans (k3.trans k4));erw[q4 _ _ kk (L.mono kk) rh4]
 |.fset cn o f e,X,st,c,hf,h=>by
  have⟨a,pt,v,p,rfl,Y,Z,n⟩:=_fM h;have⟨C,hC,cl,na⟩:=c.cls cn f Y;erw[(QK (sE o c Z).pe (sE e c n).pe _gW).weak λD B H hw=>?_];have⟨j,M,L,U,hw⟩:=hw;erw[⟨j,M,L,U,X6 c.mon e (λv M1 q1=>?_) hw⟩];intro u H1 k1 r1 N;erw[⟨j,M1,L.mono k1,N,X6 c.mon o (λx M2 h'=>?_) q1⟩];have⟨b,fs,e1,e2,e3,q2⟩:=h';subst e1;intro u2 H2 k2 r2 W;obtain rfl:=r2.inv;have⟨C',dx,vs,g1,g2,g3⟩:=W.ins e2;rw[hC]at g2;cases g2;have k3:=Kp.upd g1 rfl (.ins C dx (putF f u vs));have kk:=k1.trans (k2.trans k3);erw[⟨b,C,dx,vs,rfl,g1,cl,na,by rw[<-g3.length];erw[e3],?_⟩]
  erw[q2 _ _ kk (L.mono kk) (W.put k3 (o:=.ins cn (putM fs f v)) ⟨hC,(T8 (r1.mono k2) g3).mono k3⟩)]
 |.expr e,X,st,c,hf,h=>by
  have⟨v,p,rfl,Y,Z⟩:=_fN h;erw[(G6 (sE e c Y).pe (DW Z)).weak λD B H hw=>?_];have⟨j,M,L,U,hw⟩:=hw;erw[⟨j,M,L,U,X6 c.mon e (λv M1 q=>?_) hw⟩];intro u H1 k1 r1 N;erw[q _ _ k1 (L.mono k1) N]
 |.ite d a b,X,st,c,hf,h=>by
  have⟨t,x,y,p,rfl,Y,Z,n,h4⟩:=_hH h;erw[(G7 ((sE d c Z).pt Y) (sSs a c hf n) (sSs b c hf h4)).weak λD B H hw=>?_];have⟨j,M,L,U,hw⟩:=hw;rw[IG]at hw;erw[⟨j,M,L,U,X6 c.mon d (λx M1 ⟨k,e,q⟩=>⟨k,e,λH1 k1 N=>?_⟩) hw⟩];erw[YG (λq=>⟨j,M1,L.mono k1,N,mon_ss c.mon a (liD.on k1) q⟩) (λq=>⟨j,M1,L.mono k1,N,mon_ss c.mon b (liD.on k1) q⟩) q]
 |.for_ t s b,X,st,c,hf,h=>by
   have⟨tg,it,body,p,rfl,Y,Z,n,h4⟩:=_hI h;erw[(Q9 (by rw[c.nox];erw[PassesOwn.never]) c.calm (sSr s (tg:=tg) c Z) (sTg (lim:=X.N.length) (all:=wf) c.calm c.nd (λ_=>hf) t Y) (sSs b c hf h4) (DR n _)).thaw.weak λD B H hw=>?_]
   have⟨j,M,L,U,hw⟩:=hw;erw[⟨j,M,L,U,mon_sr c.mon s (λS M1 h'=>?_) hw⟩];have⟨J,j0,j1,j2,j3⟩:=h';intro I H1 k1 N sit;erw[⟨λi m l A=>m=S.len - i/\i<=S.len/\Kp H1 A/\∃w M',RS X.K A w l/\RH X.K M' A/\J i w M',⟨_,rfl,YQ _,Kp.refl _,j,M1,L.mono k1,N,j0⟩,?_⟩];rintro i m σ2 H2 ⟨rfl,hi,k2,T,M2,rs2,W,hj⟩;have⟨goes,stops⟩:=Iy sit k2 W (j1 i T M2 hj);by_cases hlt:i<S.len
   .have⟨go,yld⟩:=goes i hlt;erw[.inr ⟨go,λl A=>Kp H1 A/\∃w M',RS X.K A w l/\RH X.K M' A/\J (i+1) w M',λl A h'=>by have⟨a,z⟩:=h';erw[⟨S.len - (i+1),by lia,rfl,hlt,a,z⟩],λx A y=>?_⟩]
    have⟨e,m,hm,rm⟩:=yld x A y;subst e;erw[BQ (Ψ:=λ_=>True) (lim:=X.N.length) (λ_ _ _ _ z=>z) t Y rm rs2 trivial (j2 i m T M2 hm hj) λσm3 σ3 q rs3 _=>?_];erw[⟨σm3,M2,rs3,W,?_⟩];erw[mon_ss c.mon b ?_ q];erw[⟨λl M' z Q H3 k3 O R=>⟨k2.trans k3,l,M',O,R,z⟩,λv M' z u H3 k3 r3 R=>?_,λl M' z Q H3 k3 O R=>?_,λl M' z Q H3 k3 O R=>⟨k2.trans k3,l,M',O,R,z⟩⟩]
    .have⟨H4,th,k4,rh4⟩:=BP sit R z.1;erw[⟨H4,th,z.2 u H4 (k1.trans (k2.trans (k3.trans k4))) (r3.mono k4) rh4⟩]
    .have⟨H4,th,k4,rh4⟩:=BP sit R z.1;erw[⟨H4,th,z.2 Q H4 (k1.trans (k2.trans (k3.trans k4))) (O.mono k4) rh4⟩]
   .have e:i=S.len:=by lia
    subst e;have⟨H4,th,k4,rh4⟩:=BP sit W (Ix (j1 _ T M2 hj));erw[.inl ⟨stops _ (Xc _),H4,th,j3 T M2 hj _ _ (k1.trans (k2.trans k4)) (rs2.mono k4) rh4⟩]
 |.while_ d b,X,st,c,hf,h=>by
   have⟨tst,body,p,rfl,Y,Z,n⟩:=_ed h;erw[(Q1 (by rw[c.nox];erw[PassesOwn.never]) ((sE d c Z).pt Y) (sSs b c hf n)).weak λD B H hw=>?_]
   have⟨j,M,L,U,hw⟩:=hw;have⟨J,⟨m0,j0⟩,j1⟩:=hw;erw[⟨λm l A=>Kp H A/\∃w M',RS X.K A w l/\RH X.K M' A/\J m w M',⟨m0,Kp.refl _,j,M,L,U,j0⟩,?_⟩];rintro m σ2 H2 ⟨k2,T,M2,rs2,W,hj⟩;erw[⟨T,M2,rs2,W,X6 c.mon d (λx M1 ⟨k,e,q⟩=>⟨k,e,λH3 k3 rh3=>?_⟩) (j1 m T M2 hj)⟩];erw[YG (λq=>?_) (λq=>q _ _ (k2.trans k3) (rs2.mono k3) rh3) q];erw[⟨λl A=>∃m',m'<m/\Kp H A/\∃w M',RS X.K A w l/\RH X.K M' A/\J m' w M',λl A z=>z,T,M1,rs2.mono k3,rh3,?_⟩];erw[mon_ss c.mon b ?_ q];erw[⟨?_,λv M' z=>z.on (k2.trans k3),λl M' z Q H4 k4=>z Q H4 (k2.trans (k3.trans k4)),?_⟩]
   .rintro l M' ⟨m',hm,z⟩ Q H4 k4 O R;erw[⟨m',hm,k2.trans (k3.trans k4),l,M',O,R,z⟩]
   .rintro l M' ⟨m',hm,z⟩ Q H4 k4 O R;erw[⟨m',hm,k2.trans (k3.trans k4),l,M',O,R,z⟩]
theorem sSs{G:GI}{Φ:List (Str×SpM)}:∀(is:ISs){X:Cx} {sts:List Stmt},Cok X G Φ->(∀x,X.fn x=wf)->chkSs G X.env.scope X.N is sts=wf->PSs X sts (liSt X.K (wSs Φ is))
 |.nil,X,sts,c,hf,h=>by
   cases _fL h;erw[pss_nil.weak λD B H hw=>?_];have⟨j,M,L,U,hw⟩:=hw;erw[hw B H (Kp.refl _) L U]
 |.cons s r,X,sts,c,hf,h=>by
   have⟨x,xs,rfl,Y,Z⟩:=_ec h;erw[(Bx (sS s c hf Y) (sSs r c hf Z)).weak λD B H hw=>?_];have⟨j,M,L,U,hw⟩:=hw;erw[⟨j,M,L,U,?_⟩];erw[BR c.mon s ?_ hw];erw[⟨λl M' z Q H1 k1 O R=>?_,λv M' z=>z,λl M' z=>z,λl M' z=>z⟩];erw[⟨l,M',O,R,mon_ss c.mon r (liD.on k1) z⟩]
end
end L2
namespace L2
open PySem PySem.Spec PyProof.Rows
structure Fts (P:Xk)(w:Xe)(K:X1)(mg:Str->Option Value)(base:Heap)(k:Nat)(G:GI)(Φ:List (Str×SpM)):Prop where
 bls:∀x,G.bl.contains x=wf->mg x=we
 gls:∀x i,G.gl.lookup x=wc i->∃tk,mg x=wc (.int i tk)
 fnn:∀(j:Nat)f,G.fns[j]?=wc f->∃sp,Φ[j]?=wc (f,sp)
 mon:∀(j:Nat)f sp,Φ[j]?=wc (f,sp)->MonW sp
 fns:∀(j:Nat)f sp,G.fns[j]?=wc f->Φ[j]?=wc (f,sp)->∃fa fd ps,FnOk P w K mg base CX0 k fa fd ps (liSp K sp)/\mg f=wc (.ref fa)/\Yt K (.ref fa)=wf/\Binds K fd ps []
 mts:∀(j:Nat)c m,G.mts.contains (j,c,m)=wf->∃f sp,Φ[j]?=wc (f,sp)/\∃C fa fd ps,FnOk P w K mg base CX0 k fa fd ps (liSp K sp)/\Xn K Xi c=wc (wc (.ref C))/\Cls K C/\Meth K C m fa/\Binds K fd ps []
 mks:∀(j:Nat)c,G.mks.contains (j,c)=wf->∃f sp,Φ[j]?=wc (f,sp)/\∃k' C fa fd ps,k'+1<=k/\FnOk P w K mg base CX0 k' fa fd ps (liSp K sp)/\Xn K Xi c=wc (wc (.ref C))/\mg c=wc (.ref C)/\Mk K C fa/\Binds K fd ps []
 cls:∀c f,G.cls.contains (c,f)=wf->∃C,Xn K Xi c=wc (wc (.ref C))/\Cls K C/\NoAttr K C f
noncomputable def Z6(n:Nat)(j:List MV):Sm:=j.map wc++Xg (n - j.length) we
def DX{K:X1}(r:RMs K H ms vs):RS K H (Z6 N.length ms) (ZI N vs):=by
 unfold Z6 ZI;have j:=r.length;erw[⟨by simp[j],λi m e=>?_⟩]
 by_cases hi:i<ms.length
 .rw[ZV (by simpa using hi),Xl]at e
  cases q:ms[i]? with
  |none=>rw[q]at e;cases e
  |some x=>
   rw[q]at e;have l:x=m:=Y6 (Y6 e);subst l;have⟨u,t,w⟩:=r.get q;erw[⟨u,by rw[ZV (by simpa [<-j]using hi),Xl,t];rfl,w⟩]
 .rw[ZU (by simpa using hi),Fl]at e
  split at e<;>cases e
def Fun.okM{K:X1}{st:Stmt}{k:Nat}
  (F:Fun K x qual st f g)(S:FnScope N t (Xz st))(T:Fts P w K mg base k G Φ)(O:ISs)(o:chkSs G (Xz st) N O (Y7 st)=wf)
  (len:∀u M Q,l u M Q->u.length=t.length)(h:∀u M Q,l u M Q->wSs Φ O {nx:=λ_ U=>Q .non U,rt:=Q} (Z6 N.length u) M):FnOk P w K mg base CX0 (k+1) f g t (liSp K l):=by
 erw[F.ok S (λu H Q E W=>?_) λY A y s H u Q E R W=>?_]
 .have⟨Z,M,r,X,q⟩:=W;rw[<-r.length];erw[len _ _ _ q]
 have⟨Z,M,r,X,q⟩:=W;have c:Cok (cxOf CX0 P w K mg base N qual (Xz st) f Y A y s H E).nox G Φ:=
  ⟨(by have:=R.un;show(A.deeper _).units+70<cLine;lia),rfl,rfl,(by show(if(Xz st).kind.isAnnotationScope then Dh else(Xz st).kind)=.function;rw[S.kind];rfl),S.nd,T.bls,T.gls,T.fnn,T.mon,
   (λj f l i d=>by have⟨p,g,t,F,e,B,L⟩:=T.fns j f l i d;erw[⟨k,p,g,t,R,F,e,B,L⟩]),
   (λj c m h=>by have⟨f,l,d,C,p,g,t,F,D,n,e,L⟩:=T.mts j c m h;erw[⟨f,l,d,k,C,p,g,t,R,F,D,n,e,L⟩]),
   (λj c h=>by have⟨f,l,d,b,C,p,g,t,B,F,D,e,I,L⟩:=T.mks j c h;erw[⟨f,l,d,b,C,p,g,t,R.mono B,F,D,e,I,L⟩]),T.cls⟩
 erw[⟨_,sSs O c (λ_=>rfl) o,Z6 N.length Z,M,DX r,X,?_⟩];erw[mon_ss T.mon O ?_ (h Z M _ q)];erw[⟨λσ U z a H' k1 rs' J=>z _ _ k1 .non J,λv U z=>z,λ_ _ z=>z.elim,λ_ _ z=>z.elim⟩]
def IM:SpM:=λl M Q=>∃j:List Int,l=[.frl (j.map .int)]/\j.length<=63/\∀t,Q (.bl wf) t
noncomputable def BU(K:X1):Sp:=λl H Q _=>∃(a:Addr) (j:List Int),l=[.ref a]/\FrL K H a (j.map V.int)/\j.length<=63/\∀t,Q (.bl wf) t
def _k6{K:X1}{k:Nat}(F:FnOk P w K mg base CX0 k f fd ps (liSp K IM)):FnOk P w K mg base CX0 k f fd ps (BU K):=
 F.imp λu H Q E ⟨a,j,e,l,t,q⟩=>by
  subst e;erw[⟨[.frl (j.map .int)],λ_=>we,.cons (.frl l (RMs.ints j)) .nil,λ_ _ z=>(by cases z),j,rfl,t,λy=>?_⟩]
  intro v m k r g;cases r;erw[q _]
def _mT{K:X1}(o:Only H)(h:SqL K H a vs):FrL K H a vs:=by
 rcases h with(h|⟨j,h⟩)|h
 .rcases o a with z|⟨j,l,z⟩
  .rw[h]at z;cases z
  .rw[h]at z;cases z
 .erw[.inl ⟨j,h⟩]
 .erw[.inr h]
def _mu{K:X1}{k:Nat}(r:∀x∈G.bl,mg x=we)(L:∀p∈G.gl,∃N,mg p.1=wc (.int p.2 N))(g:Φ.map (·.1)=G.fns)
  (O:∀p∈Φ++Ψ,MonW p.2)(R:∀p∈Φ,∃l u y,FnOk P w K mg base CX0 k l u y (liSp K p.2)/\mg p.1=wc (.ref l)/\Yt K (.ref l)=wf/\Binds K u y [])
  (T:∀q∈G.mts,∃f t,(Φ++Ψ)[q.1]?=wc (f,t)/\∃C l u y,FnOk P w K mg base CX0 k l u y (liSp K t)/\Xn K Xi q.2.1=wc (wc (.ref C))/\Cls K C/\Meth K C q.2.2 l/\Binds K u y [])
  (U:∀q∈G.mks,∃f t,(Φ++Ψ)[q.1]?=wc (f,t)/\∃d C l u y,d+1<=k/\FnOk P w K mg base CX0 d l u y (liSp K t)/\Xn K Xi q.2=wc (wc (.ref C))/\mg q.2=wc (.ref C)/\Mk K C l/\Binds K u y [])
  (W:∀q∈G.cls,∃C,Xn K Xi q.1=wc (wc (.ref C))/\Cls K C/\NoAttr K C q.2):Fts P w K mg base k G (Φ++Ψ)where
 bls:=λx h=>r x (by simpa using h)
 gls:=λx i h=>L (x,i) (VB h)
 fnn:=λj f h=>by
  rw[<-g,Xl]at h;cases e:Φ[j]? with
  |none=>rw[e]at h;cases h
  |some p=>rw[e]at h;cases h;erw[⟨p.2,by rw[ZV (XF.mp e).1,e]⟩]
 mon:=λj f t h=>O (f,t) (Xv h)
 fns:=λj f t z h=>by
  rw[<-g,Xl]at z;cases e:Φ[j]? with
  |none=>rw[e]at z;cases z
  |some p=>
   rw[ZV (XF.mp e).1,e]at h;cases h;erw[R (f,t) (Xv e)]
 mts:=λj c m h=>T (j,c,m) (by simpa using h)
 mks:=λj c h=>U (j,c) (by simpa using h)
 cls:=λc f h=>W (c,f) (by simpa using h)
def _mt{K:X1}{k:Nat}(e:Φ++Ψ=Χ)(z:∀x∈G.bl,mg x=we)(m:∀p∈G.gl,∃g,mg p.1=wc (.int p.2 g))(d:Φ.map (·.1)=G.fns)
  (c:∀p∈Χ,MonW p.2)(r:∀p∈Φ,∃j l t,FnOk P w K mg base CX0 k j l t (liSp K p.2)/\mg p.1=wc (.ref j)/\Yt K (.ref j)=wf/\Binds K l t [])
  (L:∀q∈G.mts,∃f u,Χ[q.1]?=wc (f,u)/\∃C j l t,FnOk P w K mg base CX0 k j l t (liSp K u)/\Xn K Xi q.2.1=wc (wc (.ref C))/\Cls K C/\Meth K C q.2.2 j/\Binds K l t [])
  (N:∀q∈G.mks,∃f u,Χ[q.1]?=wc (f,u)/\∃y C j l t,y+1<=k/\FnOk P w K mg base CX0 y j l t (liSp K u)/\Xn K Xi q.2=wc (wc (.ref C))/\mg q.2=wc (.ref C)/\Mk K C j/\Binds K l t [])
  (O:∀q∈G.cls,∃C,Xn K Xi q.1=wc (wc (.ref C))/\Cls K C/\NoAttr K C q.2):Fts P w K mg base k G Χ:=by
 subst e;erw[_mu z m d c r L N O]
structure Fn1 (K:X1)(x:Str)(st:Stmt)(f:Addr)(d:YV):Prop where
 a:Xn K Xi x=wc (wc (.ref f))
 F:Fun K x x st f d
structure Mt1 (K:X1)(C:Addr)(m qual:Str)(st:Stmt)(f:Addr)(d:YV):Prop where
 M:Meth K C m f
 F:Fun K m qual st f d
def mt_mk{K:X1}{C:Addr}{x j:Str}{st:Stmt}{f:Addr}{g:Value}{d y:Option Addr}{w:Array (Option Value)}{kV u z t m:Value}(a:Y0 K (.ref C) x=wc (wc (.ref f)))(i:AT K (.ref f)=wf)
  (l:K.lookup f=wc ⟨g,d,.func (ZC x j (Uv st) (Y7 st) (Xz st) .none kV u z y t m),w⟩)(c:AR K t j=wf)(k:Yt K (.ref f)=wf):Mt1 K C x j st f (ZC x j (Uv st) (Y7 st) (Xz st) .none kV u z y t m):=⟨⟨a,i,k⟩,fun_mk l c k⟩
def Fn1.bt{K:X1}{st:Stmt}(H:Fn1 K x st f d)
  (r:∀(kV j t:Value)(u:Option Addr)(l w v:Value),bindArgs (ZC x x (Uv st) (Y7 st) (Xz st) .none kV j t u l w) ⟨[v],[]⟩=pure [(y,v)])(s:X0)(v:Value):BindsTo s d ⟨[v],[]⟩ [(y,v)]:=by
 have⟨_,_,kV,j,t,u,l,w,_,rfl,_⟩:=H.F.ex;erw[.of_eq (r kV j t u l w v)]
def us0{p:List Value->Prop}(h:p [])(j:List Value)(l:j.length=0):p j:=by cases j with|nil=>erw[h]|cons _ _=>cases l
def us1{p:List Value->Prop}(h:∀t,p [t])(j:List Value)(l:j.length=1):p j:=by cases j with|nil=>cases l|cons a r=>erw[us0 (p:=λr=>p (a::r)) (h a) r (WF l)]
def us2{p:List Value->Prop}(h:∀t u,p [t,u])(j:List Value)(l:j.length=2):p j:=by cases j with|nil=>cases l|cons a r=>erw[us1 (p:=λr=>p (a::r)) (h a) r (WF l)]
def us3{p:List Value->Prop}(h:∀t u w,p [t,u,w])(j:List Value)(l:j.length=3):p j:=by cases j with|nil=>cases l|cons a r=>erw[us2 (p:=λr=>p (a::r)) (h a) r (WF l)]
def us4{p:List Value->Prop}(h:∀t u w y,p [t,u,w,y])(j:List Value)(l:j.length=4):p j:=by cases j with|nil=>cases l|cons a r=>erw[us3 (p:=λr=>p (a::r)) (h a) r (WF l)]
def us5{p:List Value->Prop}(h:∀t u w y z,p [t,u,w,y,z])(j:List Value)(l:j.length=5):p j:=by cases j with|nil=>cases l|cons a r=>erw[us4 (p:=λr=>p (a::r)) (h a) r (WF l)]
section
variable{M:MH}{Q:QM}{i j:Int}{x y:MV}{a b:Addr}
def _od:wBin .Add (.int i) (.int j) M Q=Q (.int (i+j)) M:=rfl
def _nG:wBin .Sub (.int i) (.int j) M Q=Q (.int (i - j)) M:=rfl
def _o0:wBin .Mult (.int i) (.int j) M Q=(CMul i j/\Q (.int (i*j)) M):=rfl
def _lP:wBin .FloorDiv (.int i) (.int j) M Q=(WN i j/\Q (.int (i/j)) M):=rfl
def _o1:wBin .Mod (.int i) (.int j) M Q=(0<j/\Q (.int (i%j)) M):=rfl
def _nR:wBin .Pow (.int i) (.int j) M Q=(CPow i j/\Q (.int (i^j.toNat)) M):=rfl
def _ob:wBin .BitAnd (.int i) (.int j) M Q=Q (.int (Bs i j)) M:=rfl
def _nu:wBin .BitXor (.int i) (.int j) M Q=Q (.int (Bt i j)) M:=rfl
def _lT{x y:Str}:wBin .Add (.str x) (.str y) M Q=(x.length+y.length<=sizeLine/\Q (.str (x++y)) M):=rfl
def _lC{x:Str}:wBin .Mult (.str x) (.int i) M Q=(x.length<=16/\ -1000<=i/\i<=1000/\Q (.str (Txt.mul x i)) M):=rfl
def _lS:wBin .Add (.tup xs) (.tup ys) M Q=(xs≠ []/\xs.length+ys.length<=sizeLine/\Q (.tup (xs++ys)) M):=rfl
def _lB:wBin .Mult (.tup xs) (.int i) M Q=(xs≠ []/\1<=i/\xs.length*i.toNat<=1000000/\Q (.tup (Xg i.toNat xs).flatten) M):=rfl
def _lD:wBin .Mult (.ref a) (.int i) M Q=∃l,M a=wc (.lst l)/\ -(2^63)<=i/\i<2^63/\l.length*i.toNat<=sizeLine/\∀p,M p=we->Q (.ref p) (updM M p (.lst (Xg i.toNat l).flatten)):=rfl
def _lU:wBin .Add (.ref a) (.ref b) M Q=∃l t,M a=wc (.lst l)/\M b=wc (.lst t)/\l.length+t.length<=sizeLine/\∀p,M p=we->Q (.ref p) (updM M p (.lst (l++t))):=rfl
def q_lt:wCmp .Lt (.int i) (.int j) M Q=Q (.bl (decide (i<j))) M:=propext ⟨λl=>by have⟨_,_,e,f,h⟩:=l;cases e;cases f;erw[h],λh=>⟨i,j,rfl,rfl,h⟩⟩
def q_le:wCmp .LtE (.int i) (.int j) M Q=Q (.bl (decide (i<=j))) M:=propext ⟨λh=>Or.elim h (λl=>by have⟨_,_,e,f,h⟩:=l;cases e;cases f;erw[h]) (λl=>by have⟨_,_,e,_⟩:=l;erw[nomatch e]),λh=>Or.inl ⟨i,j,rfl,rfl,h⟩⟩
def _o2{x y:Str}:wCmp .LtE (.str x) (.str y) M Q=Q (.bl (!decide (y.cps.toList<x.cps.toList))) M:=propext ⟨λh=>Or.elim h (λl=>by have⟨_,_,e,_⟩:=l;erw[nomatch e]) (λl=>by have⟨_,_,e,f,h⟩:=l;cases e;cases f;erw[h]),λh=>Or.inr ⟨x,y,rfl,rfl,h⟩⟩
def q_gt:wCmp .Gt (.int i) (.int j) M Q=Q (.bl (decide (j<i))) M:=propext ⟨λl=>by have⟨_,_,e,f,h⟩:=l;cases e;cases f;erw[h],λh=>⟨i,j,rfl,rfl,h⟩⟩
def _o9:wCmp .Eq (.int i) (.int j) M Q=Q (.bl (decide (i=j))) M:=rfl
def _nZ:wCmp .NotEq (.int i) (.int j) M Q=Q (.bl (!decide (i=j))) M:=rfl
def _o7{x y:Str}:wCmp .Eq (.str x) (.str y) M Q=Q (.bl (decide (x=y))) M:=rfl
def _nX{x y:Str}:wCmp .NotEq (.str x) (.str y) M Q=Q (.bl (!decide (x=y))) M:=rfl
def q_is:wCmp .Is x .non M Q=Q (.bl (Uw x)) M:=propext ⟨λh=>Or.elim h (λh=>h.2) (λl=>by have⟨_,e,_⟩:=l;erw[nomatch e]),λh=>Or.inl ⟨rfl,h⟩⟩
def _jl:wCmp .IsNot x .non M Q=Q (.bl (!Uw x)) M:=propext ⟨λh=>Or.elim h (λh=>h.2) (λl=>by have⟨_,e,_⟩:=l;erw[nomatch e]),λh=>Or.inl ⟨rfl,h⟩⟩
def _o8{y:MV}:wCmp .Eq (.ref a) y M Q=wEq (.ref a) y M λb=>Q (.bl b) M:=rfl
def _nY:wCmp .NotEq (.ref a) y M Q=wEq (.ref a) y M λb=>Q (.bl (!b)) M:=rfl
def _nW{l:List MV}{y:MV}:wCmp .NotEq (.tup l) y M Q=wEq (.tup l) y M λb=>Q (.bl (!b)) M:=rfl
def q_in:wCmp .In x y M Q=wIn x y M λb=>Q (.bl b) M:=rfl
def _nV:wCmp .NotIn x y M Q=wIn x y M λb=>Q (.bl (!b)) M:=rfl
def DY{k:Bool->Prop}(h:M a=wc (.lst xs))(l:M b=wc (.lst []))(q:k xs.isEmpty):wEq (.ref a) (.ref b) M k:=.inr (.inr (.inl ⟨a,b,xs,rfl,rfl,h,l,q⟩))
def IN{k:Bool->Prop}(n:eqS x y=we)(h:Alike M m x y)(le:m<=60)(q:k wf):wEq x y M k:=by
 unfold wEq;rw[n];erw[.inr (.inl ⟨m,le,h,q⟩)]
def Alike.flat(n:Nat)(f:Yn x=wf):Alike M n x x:=by
 cases n<;>rw[Alike]
 .erw[⟨f,rfl⟩]
 .erw[.inl ⟨f,rfl⟩]
theorem Alike.tup(e:xs.length=ys.length)(h:∀(i:Nat)u v,xs[i]?=wc u->ys[i]?=wc v->Alike M n u v):Alike M (n+1) (.tup xs) (.tup ys):=by
 rw[Alike];erw[.inr (.inl ⟨xs,ys,rfl,rfl,e,h⟩)]
def Alike.lst(l:LstM M x xs)(t:LstM M y ys)(e:xs.length=ys.length)(h:∀(i:Nat)u v,xs[i]?=wc u->ys[i]?=wc v->Alike M n u v):Alike M (n+1) x y:=by
 rw[Alike];erw[.inr (.inr (.inl ⟨xs,ys,l,t,e,h⟩))]
def ixO(o:Option MO)(y:MV)(M:MH)(Q:QM):Prop:=match o with
 |wc (.lst xs)=>∃i v,y=.int i/\atI xs i=wc v/\Q v M
 |wc (.dic kvs)=>∃l v,keyM y=wc l/\valM kvs l=wc v/\Q v M
 |wc (.fdic _ kvs)=>∃l v,keyM y=wc l/\valM kvs l=wc v/\Q v M
 |_=>False
def IP:wIx (.ref a) y M Q=ixO (M a) y M Q:=propext ⟨λh=>by
  rcases h with⟨u,i,v,e,r⟩|⟨l,t,v,e,r⟩|⟨o,l,t,v,e,r⟩
  .rw[e];erw[⟨i,v,r⟩]
  .rw[e];erw[⟨t,v,r⟩]
  .rw[e];erw[⟨t,v,r⟩],λh=>by
  cases e:M a with
  |none=>rw[e]at h;erw[h.elim]
  |some o=>
   rw[e]at h;cases o with
   |lst u=>have⟨i,v,r⟩:=h;erw[.inl ⟨u,i,v,e,r⟩]
   |dic l=>have⟨t,v,r⟩:=h;erw[.inr (.inl ⟨l,t,v,e,r⟩)]
   |ins _ _=>erw[h.elim]
   |fdic o l=>have⟨t,v,r⟩:=h;erw[.inr (.inr ⟨o,l,t,v,e,r⟩)]⟩
def IQ:ixO (wc (.lst xs)) (.int i) M Q=∃v,atI xs i=wc v/\Q v M:=propext ⟨λl=>by have⟨_,v,e,h⟩:=l;cases e;erw[⟨v,h⟩],λl=>by have⟨v,h⟩:=l;erw[⟨i,v,rfl,h⟩]⟩
def _jj{l:List (Key×MV)}{x:Str}:ixO (wc (.dic l)) (.str x) M Q=∃v,valM l (Xo x)=wc v/\Q v M:=propext ⟨λt=>by have⟨_,v,e,h⟩:=t;cases e;erw[⟨v,h⟩],λt=>by have⟨v,h⟩:=t;erw[⟨_,v,rfl,h⟩]⟩
def IU:wIx (.tup xs) (.int i) M Q=∃v,atI xs i=wc v/\Q v M:=propext ⟨λl=>by have⟨_,v,e,h⟩:=l;cases e;erw[⟨v,h⟩],λl=>by have⟨v,h⟩:=l;erw[⟨i,v,rfl,h⟩]⟩
def _o4:wIx (.frl xs) (.int i) M Q=∃v,atI xs i=wc v/\Q v M:=propext ⟨λl=>by have⟨_,v,e,h⟩:=l;cases e;erw[⟨v,h⟩],λl=>by have⟨v,h⟩:=l;erw[⟨i,v,rfl,h⟩]⟩
def _o3:wIx (.str z) (.int i) M Q=(z.length<=sizeLine/\∃c,atI z.cps.toList i=wc c/\Q (.str ⟨#[c]⟩) M):=propext ⟨λl=>by have⟨_,c,e,t,u⟩:=l;cases e;erw[⟨t,c,u⟩],λl=>by have⟨t,c,u⟩:=l;erw[⟨i,c,rfl,t,u⟩]⟩
def _nM{lo:Option Int}:wSl (.frl xs) lo hi M Q=∀p,M p=we->Q (.ref p) (updM M p (.lst (cutM xs lo hi))):=rfl
def _nL{lo l:Option Int}{z:Str}:wSl (.str z) lo l M Q=(z.length<=sizeLine/\Q (.str (cutS z lo l)) M):=rfl
def _nK{lo:Option Int}:wSl (.tup xs) lo hi M Q=Q (.tup (cutM xs lo hi)) M:=rfl
def _lG:wBi .len [.tup xs] M Q=Q (.int xs.length) M:=rfl
def _lJ:wBi .len [.frl xs] M Q=Q (.int xs.length) M:=rfl
def _lH:wBi .len [.str z] M Q=(z.length<=sizeLine/\Q (.int z.length) M):=rfl
def lenO(o:Option MO)(M:MH)(Q:QM):Prop:=match o with
 |wc (.lst xs)=>Q (.int xs.length) M
 |wc (.dic kvs)=>Q (.int kvs.length) M
 |_=>False
def _lI:wBi .len [.ref a] M Q=lenO (M a) M Q:=propext ⟨λh=>by
  rcases h with⟨t,e,h⟩|⟨l,e,h⟩<;>(rw[e];erw[h]),λh=>by
  cases e:M a with
  |none=>rw[e]at h;erw[h.elim]
  |some o=>
   rw[e]at h;cases o with
   |lst t=>erw[.inl ⟨t,e,h⟩]
   |dic l=>erw[.inr ⟨l,e,h⟩]
   |ins _ _=>erw[h.elim]
   |fdic _ _=>erw[h.elim]⟩
def _ji:lenO (wc (.lst xs)) M Q=Q (.int xs.length) M:=rfl
def isO(o:Option Ty7)(c:Ty7)(M:MH)(Q:QM):Prop:=match o with
 |wc T=>c≠.none/\Q (.bl (isTy T c)) M
 |we=>False
def _o5:wBi .isinst [x,.ty c] M Q=isO (tyM M x) c M Q:=propext (by
 have e:wBi .isinst [x,.ty c] M Q=∃T,tyM M x=wc T/\c≠.none/\Q (.bl (isTy T c)) M:=by cases x<;>rfl
 rw[e];erw[⟨λl=>by have⟨T,e,h⟩:=l;rw[e];erw[h],λh=>by
  cases e:tyM M x with
  |none=>rw[e]at h;erw[h.elim]
  |some T=>rw[e]at h;erw[⟨T,rfl,h⟩]⟩])
def isO2(o:Option Ty7)(c d:Ty7)(M:MH)(Q:QM):Prop:=match o with
 |wc T=>c≠.none/\d≠.none/\Q (.bl (isTy T c||isTy T d)) M
 |we=>False
def _lN:wBi .isinst [x,.tup [.ty c,.ty d]] M Q=isO2 (tyM M x) c d M Q:=propext (by
 have e:wBi .isinst [x,.tup [.ty c,.ty d]] M Q=∃T,tyM M x=wc T/\c≠.none/\d≠.none/\Q (.bl (isTy T c||isTy T d)) M:=by cases x<;>rfl
 rw[e];erw[⟨λl=>by have⟨T,e,h⟩:=l;rw[e];erw[h],λh=>by
  cases e:tyM M x with
  |none=>rw[e]at h;erw[h.elim]
  |some T=>rw[e]at h;erw[⟨T,rfl,h⟩]⟩])
def _jk:isO2 (wc T) c d M Q=(c≠.none/\d≠.none/\Q (.bl (isTy T c||isTy T d)) M):=rfl
def _lM:isO (wc T) c M Q=(c≠.none/\Q (.bl (isTy T c)) M):=rfl
def _ny:tyM M (.int i)=wc .int:=rfl
def _nw{k:Str}:tyM M (.str k)=wc .str:=rfl
def _nv:tyM M (.tup xs)=wc .tuple:=rfl
def _nx:tyM M (.ref a)=tyO (M a):=rfl
def _lv:tyO (wc (.lst xs))=wc .list:=rfl
def _oc:wBi .all [.ref a] M Q=∃bs:List Bool,M a=wc (.lst (bs.map MV.bl))/\Q (.bl (bs.all id)) M:=rfl
def _jn:wBi .dictL [.ref a] M Q=∃l:List (Key×MV),M a=wc (.lst (l.map prM))/\∀p,M p=we->Q (.ref p) (updM M p (.dic (Ua l))):=rfl
def _jg:wBi .list [.tup xs] M Q=∀p,M p=we->Q (.ref p) (updM M p (.lst xs)):=rfl
def _jh:wBi .list [.ref a] M Q=∃l,M a=wc (.lst l)/\∀p,M p=we->Q (.ref p) (updM M p (.lst l)):=rfl
def _lw:wBi .tuple [.ref a] M Q=∃l,M a=wc (.lst l)/\Q (.tup l) M:=rfl
def _jm:wBi .dict [.tup xs] M Q=∃l:List (Key×MV),xs=l.map prM/\∀p,M p=we->Q (.ref p) (updM M p (.dic (Ua l))):=rfl
def _lQ:wBi .dict [.ref a] M Q=∃l,M a=wc (.dic l)/\∀p,M p=we->Q (.ref p) (updM M p (.dic l)):=rfl
def apO(o:Option MO)(a:Addr)(y:MV)(M:MH)(Q:QM):Prop:=match o with
 |wc (.lst xs)=>xs.length<sizeLine/\Q .non (updM M a (.lst (xs++[y])))
 |_=>False
def _oa:wMts .append (.ref a) [y] M Q=apO (M a) a y M Q:=propext ⟨λt=>by have⟨l,e,h⟩:=t;rw[e];erw[h],λh=>by
  cases e:M a with
  |none=>rw[e]at h;erw[h.elim]
  |some o=>
   rw[e]at h;cases o with
   |lst l=>erw[⟨l,e,h⟩]
   |dic u=>erw[h.elim]
   |ins _ _=>erw[h.elim]
   |fdic _ _=>erw[h.elim]⟩
def _lR:apO (wc (.lst xs)) a y M Q=(xs.length<sizeLine/\Q .non (updM M a (.lst (xs++[y])))):=rfl
def _o6:wMts .extend (.ref a) [.ref b] M Q=∃l,M a=wc (.lst l)/\∃t,M b=wc (.lst t)/\l.length+t.length<=sizeLine/\Q .non (updM M a (.lst (l++t))):=rfl
def _lA:mtOk .append x M=(∃a l,x=.ref a/\M a=wc (.lst l)):=rfl
def _lz:mtOk .extend x M=(∃a l,x=.ref a/\M a=wc (.lst l)):=rfl
def puO(o:Option MO)(a:Addr)(i v:MV)(M:MH)(Q:MH->Prop):Prop:=match o with
 |wc (.lst xs)=>∃k j,i=.int k/\ixN xs.length k=wc j/\Q (updM M a (.lst (xs.set j v)))
 |wc (.dic kvs)=>∃l,keyM i=wc l/\kvs.length<sizeLine/\Q (updM M a (.dic (putM kvs l v)))
 |_=>False
def _nQ:wPut (.ref a) x v M R=puO (M a) a x v M R:=propext ⟨λh=>by
  rcases h with⟨u,k,j,e,r⟩|⟨l,t,e,r⟩
  .rw[e];erw[⟨k,j,r⟩]
  .rw[e];erw[⟨t,r⟩],λh=>by
  cases e:M a with
  |none=>rw[e]at h;erw[h.elim]
  |some o=>
   rw[e]at h;cases o with
   |lst u=>have⟨k,j,r⟩:=h;erw[.inl ⟨u,k,j,e,r⟩]
   |dic l=>have⟨t,r⟩:=h;erw[.inr ⟨l,t,e,r⟩]
   |ins _ _=>erw[h.elim]
   |fdic _ _=>erw[h.elim]⟩
def _ly:puO (wc (.lst xs)) a (.int i) v M R=∃j,ixN xs.length i=wc j/\R (updM M a (.lst (xs.set j v))):=propext ⟨λl=>by have⟨_,j,e,h⟩:=l;cases e;erw[⟨j,h⟩],λl=>by have⟨j,h⟩:=l;erw[⟨i,j,rfl,h⟩]⟩
def _jf:puO (wc (.dic kvs)) a (.str z) v M R=(kvs.length<sizeLine/\R (updM M a (.dic (putM kvs (Xo z) v)))):=propext ⟨λl=>by have⟨_,e,h⟩:=l;cases e;erw[h],λh=>⟨_,rfl,h⟩⟩
def srO(o:Option MO)(a:Addr)(M:MH)(Q:Src->MH->Prop):Prop:=match o with
 |wc (.lst xs)=>Q (.lst a xs) M
 |_=>False
def srV(v:MV)(M:MH)(Q:Src->MH->Prop):Prop:=(∃l,(v=.tup l\/v=.frl l)/\Q (.tup l) M)\/(∃a l,v=.ref a/\M a=wc (.lst l)/\Q (.lst a l) M)\/False\/∃z,v=.str z/\Q (.str z) M
def _nN:wSr Φ (.seq e) σ M R=wE Φ e σ M λv M1=>srV v M1 R:=rfl
def _nJ:srV (.ref a) M R=srO (M a) a M R:=propext ⟨λh=>by
  rcases h with⟨l,e,h⟩|⟨b,l,e,f,h⟩|h|⟨z,e,_⟩
  .rcases e with e|e<;>cases e
  .cases e;rw[f];erw[h]
  .erw[h.elim]
  .erw[(nomatch e)],λh=>by
  cases e:M a with
  |none=>rw[e]at h;erw[h.elim]
  |some o=>
   rw[e]at h;cases o with
   |lst l=>erw[.inr (.inl ⟨a,l,rfl,e,h⟩)]
   |dic t=>erw[h.elim]
   |ins _ _=>erw[h.elim]
   |fdic _ _=>erw[h.elim]⟩
def _nI:srV (.str z) M R=R (.str z) M:=propext ⟨λh=>by
  rcases h with⟨l,e,h⟩|⟨_,_,e,_⟩|h|⟨_,e,h⟩
  .rcases e with e|e<;>erw[(nomatch e)]
  .erw[(nomatch e)]
  .erw[h.elim]
  .cases e;erw[h],λh=>.inr (.inr (.inr ⟨z,rfl,h⟩))⟩
def _nB:Src.thaw M (.tup xs)=M:=rfl
def _nA:Src.thaw M (.lst a xs)=M:=rfl
def _nz:Src.thaw M (.rng i n)=M:=rfl
def _nU:Src.okT M (.tup xs)=True:=rfl
def _nT:Src.okT M (.lst a xs)=True:=rfl
def _nS:Src.okT M (.rng i n)=True:=rfl
def _lx:srO (wc (.lst xs)) a M R=R (.lst a xs) M:=rfl
def _nH:srV (.tup zs) M R=R (.tup zs) M:=propext ⟨λh=>by
  rcases h with⟨l,e,h⟩|h
  .rcases e with e|e
   .cases e;erw[h]
   .erw[nomatch e]
  .rcases h with⟨_,_,e,_⟩|h|⟨_,e,_⟩<;>first|erw[h.elim]|erw[(nomatch e)],λh=>.inl ⟨zs,.inl rfl,h⟩⟩
def rgV(v:MV)(M:MH)(Q:Src->MH->Prop):Prop:=∃j,v=.int j/\ -(2^62)<=j/\j<2^62/\Q (.rng 0 j.toNat) M
def _nO:wSr Φ (.rng e) σ M R=wE Φ e σ M λv M1=>rgV v M1 R:=rfl
def _nP:rgV (.int i) M R=(-(2^62)<=i/\i<2^62/\R (.rng 0 i.toNat) M):=propext ⟨λl=>by have⟨_,e,h⟩:=l;cases e;erw[h],λh=>⟨i,rfl,h⟩⟩
def _lF:wBi .max [.int i,.int j] M Q=Q (.int (if j>i then j else i)) M:=rfl
def _lE:wBi .min [.int i,.int j] M Q=Q (.int (if j<i then j else i)) M:=rfl
def _lO{k:Bool}:wBi .int [.bl k] M Q=Q (.int (if k then 1 else 0)) M:=rfl
end
def v_s{k:MV->Prop}:onV (wc (wc v)) k=k v:=rfl
def b_0{k:Bool->Prop}:onB (.bl b) k=k b:=rfl
def f_s{k:SpM->Prop}:onF (wc (f,sp)) k=k sp:=rfl
def _ov:wE Φ (.var i) σ M Q=onV σ[i]? (λv=>Q v M):=rfl
def _oC:wE Φ (.int i) σ M Q=(Q (.int i) M):=rfl
def _ox:wE Φ (.str x) σ M Q=(Q (.str x) M):=rfl
def e_bl:wE Φ (.bl b) σ M Q=(Q (.bl b) M):=rfl
def _oz:wE Φ (.non) σ M Q=(Q .non M):=rfl
def _oE:wE Φ (.glb x i) σ M Q=(Q (.int i) M):=rfl
def e_ty:wE Φ (.ty c) σ M Q=(Q (.ty c) M):=rfl
def _oI:wE Φ (.bin op a b) σ M Q=(wE Φ a σ M λx M1=>wE Φ b σ M1 λy M2=>wBin op x y M2 Q):=rfl
def _oA:wE Φ (.neg a) σ M Q=(wE Φ a σ M λx M1=>∃i,x=.int i/\Q (.int (-i)) M1):=rfl
def _oy:wE Φ (.not a) σ M Q=(wE Φ a σ M λx M1=>onB x λb=>Q (.bl (!b)) M1):=rfl
def _oG:wE Φ (.cmp op a b) σ M Q=(wE Φ a σ M λx M1=>wE Φ b σ M1 λy M2=>wCmp op x y M2 Q):=rfl
def _oH:wE Φ (.chn op op' a b c) σ M Q=(wE Φ a σ M λx M1=>wE Φ b σ M1 λy M2=>wCmp op x y M2 λz j=>onB z λk=>(if k=wf then wE Φ c σ j λw l=>wCmp op' y w l Q else Q (.bl wg) j)):=rfl
def _oJ:wE Φ (.and a b) σ M Q=(wE Φ a σ M λx M1=>onB x λc=>(if c=wf then wE Φ b σ M1 Q else Q (.bl wg) M1)):=rfl
def e_or:wE Φ (.or a b) σ M Q=(wE Φ a σ M λx M1=>onB x λc=>(if c=wf then Q (.bl wf) M1 else wE Φ b σ M1 Q)):=rfl
def _oD:wE Φ (.ife c a b) σ M Q=(wE Φ c σ M λx M1=>onB x λk=>(if k=wf then wE Φ a σ M1 Q else wE Φ b σ M1 Q)):=rfl
def _ow:wE Φ (.tup es) σ M Q=(wEs Φ es σ M λj M1=>j.length<=sizeLine/\Q (.tup j) M1):=rfl
def _oB:wE Φ (.lst es) σ M Q=(wEs Φ es σ M λj M1=>j.length<=sizeLine/\∀p,M1 p=we->Q (.ref p) (updM M1 p (.lst j))):=rfl
def e_ix:wE Φ (.ix a b) σ M Q=(wE Φ a σ M λx M1=>wE Φ b σ M1 λy M2=>wIx x y M2 Q):=rfl
def e_sl{lo:IO}:wE Φ (.sl a lo hi) σ M Q=(wE Φ a σ M λx M1=>wO Φ lo σ M1 λl M2=>wO Φ hi σ M2 λh j=>wSl x l h j Q):=rfl
def _n2:wE Φ (.call j e es) σ M Q=(wE Φ e σ M λv M1=>wEs Φ es σ M1 λl M2=>onF Φ[j]? λt=>t (v::l) M2 Q):=rfl
def e_b2:wE Φ (.b2 f e) σ M Q=(wE Φ e σ M λv M1=>wB2 f v M1 Q):=rfl
def e_bi:wE Φ (.bi f e es) σ M Q=(wE Φ e σ M λv M1=>wEs Φ es σ M1 λj M2=>wBi f (v::j) M2 Q):=rfl
def e_mt:wE Φ (.mt m o es) σ M Q=(wE Φ o σ M λx M1=>mtOk m x M1/\wEs Φ es σ M1 λj M2=>wMts m x j M2 Q):=rfl
def _oF:wE Φ (.fld c o f) σ M Q=(wE Φ o σ M λx M1=>∃a fs v,x=.ref a/\M1 a=wc (.ins c fs)/\valM fs f=wc v/\Q v M1):=rfl
def _kA:wE Φ (.mcall j c m o es) σ M Q=(wE Φ o σ M λx M1=>∃a fs,x=.ref a/\M1 a=wc (.ins c fs)/\valM fs m=we/\wEs Φ es σ M1 λt M2=>∃f l,Φ[j]?=wc (f,l)/\l (.ref a::t) M2 Q):=rfl
def _n1:wE Φ (.make j c e es) σ M Q=(wE Φ e σ M λv M1=>wEs Φ es σ M1 λt M2=>∃f l,Φ[j]?=wc (f,l)/\∀p,M2 p=we->l (.ref p::v::t) (updM M2 p (.ins c [])) λu w=>u=.non/\Q (.ref p) w):=rfl
def BV{own:List Str}{fr:List Nat}:wE Φ (.comp own fr src tg test elt) σ M Q=(wSr Φ src σ M λS M1=>S.len<sizeLine/\∀D,M1 D=we->∃J:Nat->List MV->MH->Prop,J 0 [] (updM M1 D (.lst []))/\
   (∀i j M2,J i j M2->M2 D=wc (.lst j)/\j.length<=i/\S.ok M2)/\
   (∀i x j M2,S.items[i]?=wc x->J i j M2->wTg tg x (sCm own fr σ) λl=>wI Φ test l M2 λb t=>
    if b=wf then wE Φ elt l t λy u=>u D=wc (.lst j)/\J (i+1) (j++[y]) (updM u D (.lst (j++[y])))else J (i+1) j t)/\
   ∀j M2,J S.len j M2->Q (.ref D) (S.thaw M2)):=rfl
def DZ{M j:MH}{S:Src}(h:S.okF M):S.thaw j=j:=by
 cases S<;>first|rfl|erw[h.elim]
def _L{own:List Str}{fr:List Nat}{N:Type}(l:List N)(f g:N->MV)
  (T:wSr Φ src σ M λS M1=>S.items=l.map f/\l.length<sizeLine/\S.okF M1/\M1=M)
  (U:∀x∈l,∀r,(∀a o,M a=wc o->r a=wc o)->wTg tg (f x) (sCm own fr σ) λt=>wE Φ elt t r λy M2=>y=g x/\M2=r)
  (u:∀(j:Nat)f O,Φ[j]?=wc (f,O)->MonW O)(q:∀D,M D=we->Q (.ref D) (updM M D (.lst (l.map g)))):wE Φ (.comp own fr src tg .none elt) σ M Q:=by
 rw[BV];erw[mon_sr u src (λS M1 p=>?_) T];have⟨P,W,w,Y⟩:=p;subst Y;have R:S.len=l.length:=by rw[<-S.items_len,P,X7]
 erw[⟨by rw[R];erw[W],λD m=>⟨λi d M2=>M2=updM M1 D (.lst d)/\d=(l.take i).map g,⟨rfl,by simp⟩,?_,?_,?_⟩⟩]
 .rintro i d M2 ⟨rfl,rfl⟩;erw[⟨Xa,by rw[X7,Ys];lia,?_⟩]
  cases S with
  |tup _=>trivial
  |rng _ _=>trivial
  |str _=>trivial
  |lst a Z=>
   have:a≠D:=by intro e;subst e;have w:M1 a=wc (.lst Z):=w;rw[w]at m;cases m
   show updM M1 D _ a=_;rw[X9 this];erw[w]
 .rintro i x d M2 c ⟨rfl,rfl⟩;rw[P]at c;have L:i<l.length:=by have:=(XF.mp c).1;rw[X7]at this;erw[this]
  rw[Xl,Xb L]at c;cases c;erw[WU tg (λt h=>?_) (U l[i] (XW L) (updM M1 D (.lst ((l.take i).map g))) (λa o e=>by
   rw[X9 (by intro z;subst z;rw[e]at m;cases m)];erw[e]))]
  rw[wI,if_pos rfl];erw[X6 u elt (λy M2 p=>?_) h];have⟨A,B⟩:=p;subst A B;erw[⟨Xa,YF,?_⟩];rw[ZX,Xb L,XX]
  rfl
 .rintro d M2 ⟨rfl,rfl⟩;rw[R,UO (Xc _),DZ w];erw[q D m]
def _gd{own:List Str}{fr:List Nat}{R:Type}(l:List R)(f g:R->MV)
  (B:wSr Φ src σ M λS M1=>S.items=l.map f/\l.length<sizeLine/\S.okF M1/\∀a o,M a=wc o->M1 a=wc o)
  (C:∀x∈l,∀t,(∀a o,M a=wc o->t a=wc o)->wTg tg (f x) (sCm own fr σ) λc=>wE Φ elt c t λy M2=>y=g x/\∀a o,t a=wc o->M2 a=wc o)
  (r:∀(j:Nat)f T,Φ[j]?=wc (f,T)->MonW T)(q:∀D t,M D=we->(∀a o,M a=wc o->t a=wc o)->t D=wc (.lst (l.map g))->Q (.ref D) t):wE Φ (.comp own fr src tg .none elt) σ M Q:=by
 rw[BV];erw[mon_sr r src (λS M1 u=>?_) B];have⟨U,E,W,N⟩:=u;have Y:S.len=l.length:=by rw[<-S.items_len,U,X7]
 have O:∀D,M1 D=we->M D=we:=λD w=>by
  cases e:M D with
  |none=>rfl
  |some o=>rw[N _ _ e]at w;cases w
 have Z:∀{a D:Addr} {o:MO},M1 a=wc o->M1 D=we->a≠D:=λh u z=>by subst z;rw[h]at u;cases u
 erw[⟨by rw[Y];erw[E],λD w=>⟨λi p M2=>(∀a o,M1 a=wc o->M2 a=wc o)/\M2 D=wc (.lst p)/\p=(l.take i).map g,⟨λa o e=>by rw[X9 (Z e w)];erw[e],Xa,by simp⟩,?_,?_,?_⟩⟩]
 .rintro i p M2 ⟨m,d,rfl⟩;erw[⟨d,by rw[X7,Ys];lia,?_⟩]
  cases S with
  |tup _=>trivial
  |rng _ _=>trivial
  |str _=>trivial
  |lst a G=>erw[m _ _ W]
 .rintro i x p M2 L ⟨m,d,rfl⟩;rw[U]at L;have P:i<l.length:=by have:=(XF.mp L).1;rw[X7]at this;erw[this]
  rw[Xl,Xb P]at L;cases L;erw[WU tg (λc h=>?_) (C l[i] (XW P) M2 (λa o e=>m _ _ (N _ _ e)))];rw[wI,if_pos rfl];erw[X6 r elt (λy I u=>?_) h];have⟨F,A⟩:=u;subst F;erw[⟨A _ _ d,λa o e=>by rw[X9 (Z e w)];erw[A _ _ (m _ _ e)],Xa,?_⟩]
  rw[ZX,Xb P,XX]
  rfl
 .rintro p M2 ⟨m,d,rfl⟩;rw[Y,UO (Xc _)]at d;rw[DZ W];erw[q D M2 (O D w) (λa o e=>m _ _ (N _ _ e)) d]
def _nF:wTg (.nm i) v σ R=R (σ.set i (wc v)):=rfl
def _nC:wTg (.tup ts) (.tup xs) σ R=wTgs ts xs σ R:=by
 erw[propext ⟨λj=>by have⟨_,e,h⟩:=j;cases e;erw[h],λh=>⟨_,rfl,h⟩⟩]
def _nE{t:ITg}:wTgs (.cons t ts) (v::r) σ R=wTg t v σ λj=>wTgs ts r j R:=by
 erw[propext ⟨λl=>by have⟨_,_,e,h⟩:=l;cases e;erw[h],λh=>⟨_,_,rfl,h⟩⟩]
def _nD:wTgs .nil [] σ R=R σ:=propext ⟨λh=>h.2,λh=>⟨rfl,h⟩⟩
section
variable{M:MH}
def Alike.lstFlat(n:Nat)(l:LstM M x xs)(t:LstM M y xs)(f:∀v∈xs,Yn v=wf):Alike M (n+1) x y:=
 .lst l t rfl λi u v e j=>by
  rw[e]at j;cases j;erw[.flat n (f u (Xv e))]
def Alike.tupFlat{j:List MV}(n:Nat)(f:j.all Yn=wf):Alike M (n+1) (.tup j) (.tup j):=
 .tup rfl λi u v e l=>by
  rw[e]at l;cases l;erw[.flat n (Ul.mp f u (Xv e))]
end
section
variable{Φ:List (Str×SpM)}{D:EndM}{σ:Sm}{M:MH}
def _nm:wSs Φ .nil D σ M=D.nx σ M:=rfl
def IV{s:IS}:wSs Φ (.cons s r) D σ M=wS Φ s {nx:=λσ M=>wSs Φ r D σ M,rt:=D.rt,bk:=D.bk,ct:=D.ct} σ M:=rfl
def _nk:wS Φ (.ret e) D σ M=wE Φ e σ M D.rt:=rfl
def _nj:wS Φ (.set i e) D σ M=wE Φ e σ M λv M1=>D.nx (σ.set i (wc v)) M1:=rfl
def _nq{t:ITgs}:wS Φ (.asg t e) D σ M=wE Φ e σ M λv M1=>∃l,v=.tup l/\wTgs t l σ λj=>D.nx j M1:=rfl
def _nl:wS Φ (.put o i e) D σ M=wE Φ e σ M λv M1=>wE Φ o σ M1 λx M2=>wE Φ i σ M2 λy j=>wPut x y v j λl=>D.nx σ l:=rfl
def _lh:wS Φ (.fset c o f e) D σ M=wE Φ e σ M λv M1=>wE Φ o σ M1 λx M2=>∃a fs,x=.ref a/\M2 a=wc (.ins c fs)/\fs.length<1000/\D.nx σ (updM M2 a (.ins c (putM fs f v))):=rfl
def _lj:wS Φ (.expr e) D σ M=wE Φ e σ M λ_ M1=>D.nx σ M1:=rfl
def _nn:wS Φ (.ite c a b) D σ M=wE Φ c σ M λx M1=>onB x λk=>(if k=wf then wSs Φ a D σ M1 else wSs Φ b D σ M1):=rfl
def _no{t:ITg}{s:ISr}:wS Φ (.for_ t s b) D σ M=wSr Φ s σ M λS M1=>∃J:Nat->Sm->MH->Prop,J 0 σ M1/\(∀i σ M,J i σ M->S.ok M)/\
   (∀i x σ M,S.items[i]?=wc x->J i σ M->wTg t x σ λj=>wSs Φ b {nx:=J (i+1),rt:=λv M=>S.okT M/\D.rt v (S.thaw M),bk:=λσ M=>S.okT M/\D.nx σ (S.thaw M),ct:=J (i+1)} j M)/\∀σ M,J S.len σ M->D.nx σ (S.thaw M):=rfl
def _j8:wS Φ (.while_ c b) D σ M=∃J:Nat->Sm->MH->Prop,(∃m,J m σ M)/\∀m σ M,J m σ M->wE Φ c σ M λx M1=>∃k,x=.bl k/\
   (if k=wf then wSs Φ b {nx:=λj t=>∃l,l<m/\J l j t,rt:=D.rt,bk:=D.nx,ct:=λj t=>∃l,l<m/\J l j t} σ M1 else D.nx σ M1):=rfl
def _mo:wO Φ .none σ M Q=Q we M:=rfl
def _mn:wO Φ (.some e) σ M Q=wE Φ e σ M λv M1=>∃i,v=.int i/\Q (wc i) M1:=rfl
def _mQ{Q:Bool->MH->Prop}:wI Φ .none σ M Q=Q wf M:=rfl
def _n0:wEs Φ .nil σ M Q=Q [] M:=rfl
def _kz:wEs Φ (.cons e es) σ M Q=wE Φ e σ M λv M1=>wEs Φ es σ M1 λj M2=>Q (v::j) M2:=rfl
end
section
variable{Φ:List (Str×SpM)}{σ σ':Sm}{M M':MH}{Q:QM}{x x' y y' z z':MV}{o o':Option MO}{vs vs':List MV}
end
def ObjOk.there{P:Xk}{w:Xe}{H:Hp}{h:Heap}{a:Addr}{o:HO}(x:ObjOk P w H h a o):∃u,h.get? a=wc u:=by
 cases o with
 |lst l=>have⟨_,_,_,_,e⟩:=x;erw[⟨_,e⟩]
 |tup l=>have⟨_,_,_,_,o,e,_⟩:=x;erw[⟨_,e⟩]
 |dK j=>have⟨_,_,_,_,o,_,_,e,_⟩:=x;erw[⟨_,e⟩]
 |dT j=>have⟨_,_,_,_,o,_,_,e,_⟩:=x;erw[⟨_,e⟩]
 |set S n=>have⟨o,_,_,_,e,_⟩:=x;erw[⟨_,e⟩]
 |ins C t fs=>have⟨_,_,_,e,_⟩:=x;erw[⟨_,e⟩]
 |own y=>erw[x]
 |xd fs=>have⟨_,⟨_,_,_,e,_⟩,_⟩:=x;erw[⟨_,e⟩]
 |rng lo z=>have⟨_,_,_,e⟩:=x;erw[⟨_,e⟩]
 |frz m u=>have⟨e,_⟩:=x;erw[⟨_,e⟩]
 |tbl g=>erw[⟨_,(show h.get? a=wc _ from x)⟩]
 |met f y=>erw[⟨_,(show h.get? a=wc _ from x)⟩]
 |ext d=>erw[x.2.1]
def CX1(P:Xk)(w:Xe):CXT:=λj H s E e l=>
 ∃(a C t:Addr) (B:Heap) (y:Hp),e=.ref a/\l.os=s.os/\AllBare l.gens/\Un (frs j) [] H y s.heap l.heap/\HOk P w y l.heap/\Vs B j a (.ref C) (.ref t) l.heap/\
  (∀b o,s.heap.get? b=wc o->b∉frs j->(H b=we->B.get? b=wc o)/\∃z,B.get? b=wc z)/\(∀b u,y b=wc u->∃o,B.get? b=wc o)/\E (.ref C) we y
section
variable{P:Xk}{w:Xe}{K:X1}{mg:Str->Option Value}{base:Heap}{N:List Str}{qual:Str}{scope:Scope}{f:Addr}{cd:Value}{A:Xp}{outer:List Env}{s₀:X0}{H₀:Hp}{E:XK}
 {pj:List (Addr×Obj)} {σ:St} {H:Hp} {s:X0}
def IW{a C t:Addr}{B:Heap}{y:X0}(I:Inv (cxOf (CX1 P w) P w K mg base N qual scope f cd A outer s₀ H₀ E) pj σ H s){m:Hp}{h:Heap}(os:y.os=s.os)(g:AllBare y.gens)(d:Un (frs outer) [] H₀ m s₀.heap h)(Z:HOk P w m h)
  (st:B.StaysIn h)(T:Vs B outer a (.ref C) (.ref t) y.heap)(p:h.UpToSlots y.heap)(L:h.FunFrames B (envOfC qual scope s₀.heap.objs.size f cd::outer))
  (l:∀b o,s₀.heap.get? b=wc o->b∉frs outer->(H₀ b=we->B.get? b=wc o)/\∃U,B.get? b=wc U)(own:∀b u,m b=wc u->∃o,B.get? b=wc o)(q:E (.ref C) we m):CX1 P w outer H₀ s₀ E (.ref a) y:=by
 have O:∀b∈frs outer,∃o,h.get? b=wc o/\∀Q,o.data≠.fields Q:=λb j=>(L.2.2.mem j).2;erw[⟨a,C,t,B,m,rfl,os.trans I.os,g,⟨λb o e n j _=>T.1 b o ((l b o e j).1 n),λb o e n j W=>?_,λb o e n W=>d.free b o e n W,λb o e W=>?_,d.tups,d.frzs,d.tbls⟩,λb u e=>?_,T,l,own,q⟩]
 .have⟨i,J⟩:=d.slot b o e n j W;have⟨S,Y,D⟩:=O b j;rw[J]at Y;cases Y;have⟨R,F⟩:=p b _ J D;erw[⟨R,F⟩]
 .by_cases j:b∈frs outer
  .have⟨S,Y,D⟩:=O b j;have⟨R,F⟩:=p b _ Y D;erw[⟨_,F⟩]
  .have⟨U,X⟩:=(l b o e j).2;erw[⟨U,T.1 b U X⟩]
 .erw[(Z b u e).stay (λc v G r=>?_) (λ_ z=>z) λ_ _ z=>z];obtain⟨o,M⟩:∃o,B.get? c=wc o:=by
   rcases G with rfl|G
   .erw[own _ _ e]
   .erw[own _ _ G]
  have:=st c o M;rw[r]at this;cases this;erw[T.1 c _ M]
def _lu{a C:Addr}{r:Heap}{R:List Value}(I:Inv (cxOf (CX1 P w) P w K mg base N qual scope f cd A outer s₀ H₀ E) pj σ H s)(p:D4 s.heap r a (.ref C) R)(q:E (.ref C) we H):
  (cxOf (CX1 P w) P w K mg base N qual scope f cd A outer s₀ H₀ E).xe (.ref a) {s with heap:=r}:=by
 have y:=I.stack;have T:frs (cxOf (CX1 P w) P w K mg base N qual scope f cd A outer s₀ H₀ E).stack=s₀.heap.objs.size::frs outer:=rfl;have L:(Wr s.heap (frs (envOfC qual scope s₀.heap.objs.size f cd::outer))).StaysIn s.heap:=λb o e=>PySem.W.of_hideAll _ e;have get:∀b o,s.heap.get? b=wc o->b∉frs (envOfC qual scope s₀.heap.objs.size f cd::outer)->(Wr s.heap (frs (envOfC qual scope s₀.heap.objs.size f cd::outer))).get? b=wc o:=λb o e n=>Fq _ e n;have j:∀b o,s₀.heap.get? b=wc o->b∉frs outer->b∉frs (envOfC qual scope s₀.heap.objs.size f cd::outer):=λb o e n z=>by
  rcases Xh.mp (show b∈s₀.heap.objs.size::frs outer from z)with rfl|z
  .erw[absurd (Xu e) (U1 _)]
  .erw[n z]
 have O:=PySem.W.funFrames_hide y λm U b W=>CL.mpr ⟨m,U,W⟩;have un:Un (frs outer) [] H₀ H s₀.heap s.heap:=I.base;have g:∀b o,s₀.heap.get? b=wc o->b∉frs outer->(H₀ b=we->(Wr s.heap (frs (envOfC qual scope s₀.heap.objs.size f cd::outer))).get? b=wc o)/\∃l,(Wr s.heap (frs (envOfC qual scope s₀.heap.objs.size f cd::outer))).get? b=wc l:=λb o e n=>by
  erw[⟨λz=>get b o (un.keep b o e z n (by simp)) (j b o e n),?_⟩]
  have⟨l,Y⟩:=un.there b o e (by simp)
  erw[⟨l,get b l Y (j b o e n)⟩]
 erw[wpAny_leaves_madeW I.ok.frames rfl L O p λd t Z _ _ c=>?_];erw[IW (h:=s.heap) (y:={s with heap:=d}) I rfl I.bare un I.hok L Z ((Heap.UpToSlots.of_keeps p.keeps).trans c) O g (λb u e=>?_) q];have⟨o,B⟩:=(I.hok b u e).there;erw[⟨o,get b o B λz=>by rw[I.stkFree b z]at e;cases e⟩]
def _oj:U8 (CX1 P w) (cxOf (CX1 P w) P w K mg base N qual scope f cd A outer s₀ H₀ E) E:=by
 intro pj σ H s e r I p;have⟨a,C,t,B,T,rfl,os,j,un,l,m,u,own,q⟩:=p;have L:=I.call' os un l j (λ_ z=>nomatch z);erw[wpAny_leaves_onW I.ok.frames rfl m λg d c=>?_];erw[IW (h:=r.heap) (y:={r with heap:=g}) I os j L.base l m.1 d c m.2.2.1 (λb o e n=>?_) own q];have y:b∉frs (envOfC qual scope s₀.heap.objs.size f cd::outer):=λz=>by
  rcases Xh.mp (show b∈s₀.heap.objs.size::frs outer from z)with rfl|z
  .erw[absurd (Xu e) (U1 _)]
  .erw[n z]
 erw[⟨λz=>?_,?_⟩]
 .erw[(u b o (I.base.keep b o e z n (by simp[cxOf])) y).1 (I.base.free b o e z (by simp[cxOf]))]
 .have⟨O,R⟩:=I.base.there b o e (by simp[cxOf])
  erw[(u b O R y).2]
end
noncomputable def nsOk(K:X1)(N:Addr):Bool:=match K.lookup N with
 |wc ⟨_,_,.dict es _,_⟩=>es.toList.all (fun e=>match e.key with|.str _ _=>wf|_=>wg)&&(nsFind es "__init__").isNone
 |_=>wg
set_option tactic.hygienic true in
def IX{K:X1}{N:Addr}(e:nsOk K N=wf):∃j,(∀h:Heap,K.In h->h.Ns N j)/\j "__init__"=we:=by
 unfold nsOk at e;split at e
 .rename_i c d l u m w
  rw[Xs]at e;erw[⟨nsFind l,λh X=>⟨_,l,u,X _ _ w,rfl,λx y=>?_,λ_=>rfl⟩,Option.isNone_iff_eq_none.mp e.2⟩];have:=Ul.mp e.1 x (by simpa using y)
  split at this
  .rename_i n t z;erw[⟨n,t,z⟩]
  .cases this
 .cases e
noncomputable abbrev veMro:List Value:=[.type "ValueError",.type "Exception",.type "BaseException",.type "object"]
def XCls(K:X1)(C:Addr)(t:List Value):Prop:=
 ∃u q N bs j w sub y l z m g d c f,K.lookup C=wc (UM u q C N bs t j w sub y l z m g d c f "ValueError.__new__")/\nsOk K N=wf
def _hg{K:X1}{h:Heap}{F:Addr}(X:K.In h)(t:XCls K F veMro):OwnTail h veMro (.ref F::veMro):=by
 have⟨w,q,N,bs,j,y,sub,z,u,m,g,d,c,f,r,l,n⟩:=t;have⟨p,a,b⟩:=IX n;erw[.own (X _ _ l) (a h X) b .base]
section
variable{X:Cx}{C F:Addr}{x:Str}{a:Expr}{t:TA}{R:Hp->Prop}{np cpos pos:Pos}
def _h6(Y:XCls X.K F veMro)(Z:XCls X.K C (.ref F::veMro))(A:X.calm=wf)(B:Gl X x)(c:X.mg x=wc (.ref C))(E:PA X [a] t)
  (f:∀y u H s m e g,Inv X y u H s->D4 s.heap m e (.ref C) g->R H->X.xe (.ref e) {s with heap:=m})
  (p:(x==("__debug__":Str))=wg)(U:Xm [a] X.env=(wg,eval a X.env)::Xm [] X.env):
  PS X (.Raise (wc (.Call (.Name x np) [a] [] cpos)) we pos) (λ_ u H=>t u H λg L=>g.length<=sizeLine/\R L):=by
 intro y s u H D I h;have⟨G,q,N,bs,w,J,sub,M,O,Q,S,v,o,i,b,l,n⟩:=Z;have j:(XV cpos (Xm [a] X.env)).any (·.1)=wg:=by rw[U];rfl
 have⟨mN,P,T⟩:=IX n;erw[wpAny_Raise_call_subT (mN:=mN) (C:=C) (nm:=G) (q:=q) (N:=N) (bs:=bs) (bm:=.ref F::veMro) (hdct:=w) (sn:=J) (sub:=sub) (ab:=M) (col:=O) (dd:=Q) (k0:=S) (k1:=v) (k2:=o) (k3:=i) (k5:=b) PySem.F.excBase_ValueError (by rw[Vm,show veMro.contains (Zg "BaseException")=wf by decide+kernel,Vv]) (I.ok.hd A) j T ?_]
 erw[VE I B c ⟨rfl,?_⟩ p];have W:=E cpos y s u H _ I h;rw[U]at W ⊢;erw[Calls.evalArgs_plain (Yd W (λus s1 hs=>?_) λ_ _ z=>z)];have⟨g,L,d,r,hl,q1⟩:=hs;erw[⟨rfl,by rw[<-r.length];erw[hl],d.kIn _ _ l,P _ d.kIn,_hg d.kIn Y,λm e c=>f y u L s1 m e us d c q1⟩]
end
structure ShortT (x:Str):Prop where
 len:x.length<=100
 cps:∀c∈x.cps.toList,c<16^8
def ShortT.rep{x:Str}(h:ShortT x):(reprText x).length<=1002:=by
 have:=StrLaws.reprText_len x h.cps;have:=h.len
 omega
def VZ(j:Scope)(N:List Str)(i:Nat):List Expr->Bool
 |[]=>wf
 |.FormattedValue (.Name x _) 114 we _::r=>decide (N[i]?=wc x)&&visB j x&& !(x==("__debug__":Str))&& !(x==("__classdict__":Str))&&VZ j N i r
 |.Constant (.str s) _ _::r=>decide (s.length<=1000)&&VZ j N i r
 |_=>wg
section
variable{X:Cx}{pj:List (Addr×Obj)}{σ:St}{H:Hp}{i:Nat}{x:Str}{R:Str->X0->Prop}
set_option tactic.hygienic true in
def _hA(L:ShortT x)(d:σ[i]?=wc (wc (.str x))):∀(j:List Expr)(l:Str)(s:X0),VZ X.env.scope X.N i j=wf->Inv X pj σ H s->l.length+1100*j.length<=sizeLine->
  (∀out w,Inv X pj σ H w->out.length<=sizeLine->R out w)->Joins (X4 X.prog X.w) X.A X.xe (evalEach j X.env) l R s:=by
 intro j
 induction j with
 |nil=>intro l s _ I m k;erw[k l s I (by simpa using m)]
 |cons e r f=>
  intro l s h I m k;have m:l.length+1100+1100*r.length<=sizeLine:=by rw[Yr]at m;omega
  unfold VZ at h;split at h
  .cases ‹_::_=[]›
  .rename_i c
   cases c;simp only[Xs,Vt,decide_eq_true_eq]at h;have⟨⟨⟨⟨N,O⟩,P⟩,T⟩,U⟩:=h;have B:=L.rep;have z:∀p w,Inv X pj σ H w->∃y t,YR (reprText x) p=.str y t/\(l++y).length<=sizeLine/\Joins (X4 X.prog X.w) X.A X.xe (evalEach r X.env) (l++y) R w:=λp w g=>by
    erw[⟨_,_,rfl,?_,f _ _ U g ?_ k⟩]
    .rw[strLen_append];omega
    .rw[strLen_append];omega
   erw[wpAny_FormattedValue_repr (thn (Bw N (Ip O) P T pj s σ H (λv W=>v=.str x/\W=H) I ⟨_,d,rfl,rfl⟩) λu w ⟨v,C,g,r1,Y,Z⟩=>?_)];subst Y Z;have⟨t,rfl⟩:=r1;erw[pyReprObj_str (wpAny_handedOn (z _ _ (g.tok _)) (z _ _ (g.tok _)) (by omega)) (by omega)]
  .rename_i c
   cases c;simp only[Xs,decide_eq_true_eq]at h;have⟨D,A⟩:=h;erw[Calls.Constant_str ⟨_,_,rfl,?_,f _ _ A (I.tok _) ?_ k⟩]
   .rw[strLen_append];omega
   .rw[strLen_append];omega
  .cases h
noncomputable def asFs:Expr->Option (List Expr)|.JoinedStr (a::b::r) _=>wc (a::b::r)|_=>we
def IY{e:Expr}{q:List Expr}(h:asFs e=wc q):∃a b r p,q=a::b::r/\e=.JoinedStr (a::b::r) p:=by
 unfold asFs at h;split at h
 .cases h;erw[⟨_,_,_,_,rfl,rfl⟩]
 .cases h
def tFs(i:Nat):TE:=λσ H Q=>∃x,σ[i]?=wc (wc (.str x))/\ShortT x/\∀y,Q (.str y) H
def _oh{e:Expr}{q:List Expr}(l:asFs e=wc q)(z:q.length<=10)(t:VZ X.env.scope X.N i q=wf):PE X e (tFs i):=by
 have⟨a,b,r,p,rfl,rfl⟩:=IY l;rintro pj s σ H Q I ⟨x,j,u,q⟩;erw[wpAny_JoinedStr (_hA u j _ _ _ t I ?_ λout m w y=>⟨y,?_⟩)]
 .have:(V2).length=0:=rfl;have:20000<=sizeLine:=by decide
  omega
 .erw[⟨.str out,H,w.tok _,⟨_,rfl⟩,q out⟩]
end
end L2
namespace L2
set_option genInjectivity false
open PySem PySem.Spec PyProof.Rows
abbrev SmM(M j:MH):Prop:=∀a o,M a=wc o->j a=wc o
abbrev SpR:=List MV->MH->Prop
def liXR(K:X1)(t:Str)(E:XK)(H:Hp)(M:MH):Prop:=∀C j l,Xn K Xi t=wc (wc (.ref C))->Kp H j->RH K l j->SmM M l->E (.ref C) we j
def Uy(K:X1)(l:Str)(t:SpR):Sp:=λu H _ E=>∃j M,RMs K H j u/\RH K M H/\t j M/\liXR K l E H M
inductive IC where
 |fn (j:Nat)(e:IE)(es:IEs)
 |mt (j:Nat)(c m:Str)(o e:IE)(es:IEs)
inductive IK where
 |ex|rt|rb (f:BI)|ix (i:Nat)(e:IE)
inductive IR where
 |no
 |pl (s:IS)(r:IR)
 |rf (i:Nat)
 |st (k:IK)(c:IC)
 |ite (c:IE)(a r:IR)
section
variable(Φ:List (Str×SpM))(Ψ:List (Str×SpR))(M0:MH)
def wIC:IC->Sm->MH->Prop
 |.fn j e es,σ,M=>wE Φ e σ M λv M1=>wEs Φ es σ M1 λt M2=>∃f l,Ψ[j]?=wc (f,l)/\l (v::t) M2/\SmM M0 M2
 |.mt j c m o e es,σ,M=>wE Φ o σ M λx M1=>∃a fs,x=.ref a/\M1 a=wc (.ins c fs)/\valM fs m=we/\wEs Φ (.cons e es) σ M1 λt M2=>∃f l,Ψ[j]?=wc (f,l)/\l (.ref a::t) M2/\SmM M0 M2
def wR:IR->Sm->MH->Prop
 |.no,_,_=>False
 |.pl s r,j,M=>wS Φ s {nx:=λj M=>wR r j M,rt:=λ_ _=>False} j M
 |.rf i,j,M=>∃x,j[i]?=wc (wc (.str x))/\ShortT x/\SmM M0 M
 |.st _ c,j,M=>wIC Φ Ψ M0 c j M
 |.ite c a r,j,M=>wE Φ c j M λx M1=>∃k,x=.bl k/\(if k=wf then wR a j M1 else wR r j M1)
end
noncomputable def E1:Stmt->Option (Str×Expr)
 |.Raise (wc (.Call (.Name x _) [a] [] _)) we _=>wc (x,a)
 |_=>we
def _eo{st:Stmt}{q:Str×Expr}(h:E1 st=wc q):∃t j l,st=.Raise (wc (.Call (.Name q.1 t) [q.2] [] j)) we l:=by
 unfold E1 at h;split at h
 .cases h;erw[⟨_,_,_,rfl⟩]
 .cases h
structure GX where
 g:GI
 xf:List Str
 xm:List (Nat×Str×Str)
 c0:Str
 xb:Str
 xc:List Str
def W0(G:GX)(l:Scope)(N:List Str)(c:IC)(v:Expr):Bool:=(YU v).any λq=>(hd1 q.2.1).any λy=>non0 q.2.2.1&&match c with
 |.fn j e es=>(Yc q.1).any λf=>decide (G.xf[j]?=wc f)&&glB l f&&chkE G.g e l N y.1&&chkEs G.g es l N y.2
 |.mt j c m o e es=>(Ux q.1).any λa=>decide (a.2.1=m)&&G.xm.contains (j,c,m)&&chkE G.g o l N a.1&&chkEs G.g (.cons e es) l N q.2.1&&(a.2.2.endLine==q.2.2.2.line)&&decide (q.2.1.length<20)
def IZ(G:GX)(j:Scope)(N:List Str)(k:IK)(c:IC)(st:Stmt):Bool:=match k with
 |.ex=>(asEx st).any λv=>W0 G j N c v
 |.rt=>(BS st).any λo=>o.any λv=>W0 G j N c v
 |.rb f=>(BS st).any λo=>o.any λx=>(YU x).any λq=>(Yc q.1).any λg=>(hd1 q.2.1).any λy=>non0 q.2.2.1&&non0 y.2&&decide (g=(f.name:Str))&&G.g.bl.contains g&&glB j g&&W0 G j N c y.1
 |.ix i e=>(V7 st).any λq=>(the1 q.1).any λt=>(Yc t).any λx=>(V6 q.2).any λz=>decide (N[i]?=wc x)&&locB j x&&VR z.2&&chkE G.g e j N z.2&&W0 G j N c z.1
def chkR(G:GX)(j:Scope)(N:List Str):IR->List Stmt->Bool
 |.no,_=>wf
 |.pl s r,l=>(hd1 l).any λq=>chkS G.g j N s q.1&&chkR G j N r q.2
 |.rf i,l=>(hd1 l).any λz=>(E1 z.1).any λq=>(asFs q.2).any λl=>decide (q.1=G.c0)&&glB j G.c0&&decide (l.length<=10)&&VZ j N i l
 |.st k c,l=>(hd1 l).any λq=>IZ G j N k c q.1
 |.ite c a r,l=>(hd1 l).any λz=>(DT z.1).any λq=>tok c&&chkE G.g c j N q.1&&chkR G j N a q.2.1&&non0 q.2.2&&chkR G j N r z.2
section
variable{X:Cx}{E:Value->X0->Prop}
theorem PA.nox{es:List Expr}{t:TA}(h:PA X.nox es t):PA X es t:=λj l s u H Q I w=>
 Yd (h j l s u H Q (I.wish _) w) (λ_ _ ⟨v,y,m,r,q⟩=>⟨v,y,m.unwish,r,q⟩) λ_ _ z=>XN z
theorem PS.nox{st:Stmt}{t:TS}(h:PS X.nox st t):PS X st t:=λj s l H D I u=>
 Yd (h j s l H D (I.wish _) u) (λ_ _ q=>q.unwish) λ_ _ z=>XN z
def J0{st:Stmt}{r:List Stmt}{t:St->Hp->Prop}(h:PS X st λ_ j H=>t j H):PSs X (st::r) λ_ j H=>t j H:=λl s j H D I u=>
 Aq (Yd (h l s j H {nx:=λ_ _=>False,rt:=λ_ _=>False} I u) (λf w q=>by
  cases f with
  |next=>have⟨_,_,_,z⟩:=q;erw[z.elim]
  |ret v=>have⟨_,_,_,_,_,z⟩:=q;erw[z.elim]
  |brk=>have⟨_,_,_,z⟩:=q;erw[z.elim]
  |cont=>have⟨_,_,_,z⟩:=q;erw[z.elim]) λ_ _ z=>z)
end
structure BW (X:Cx)(G:GX)(Φ:List (Str×SpM))(Ψ:List (Str×SpR))(E:XK):Prop where
 c:Cok X.nox G.g Φ
 calm:X.calm=wf
 pass:U8 (CX1 X.prog X.w) X E
 rais:∀pj σ H s h' e C vs,Inv X pj σ H s->D4 s.heap h' e (.ref C) vs->E (.ref C) we H->X.xe (.ref e) {s with heap:=h'}
 fns:∀(j:Nat)f,G.xf[j]?=wc f->∃sp,Ψ[j]?=wc (f,sp)/\∃k fa fd ps,Room k X.A/\FnOk X.prog X.w X.K X.mg X.base (CX1 X.prog X.w) k fa fd ps (Uy X.K G.c0 sp)/\X.mg f=wc (.ref fa)/\Yt X.K (.ref fa)=wf/\Binds X.K fd ps []
 mts:∀(j:Nat)c m,G.xm.contains (j,c,m)=wf->∃f sp,Ψ[j]?=wc (f,sp)/\∃k C fa fd ps,Room k X.A/\FnOk X.prog X.w X.K X.mg X.base (CX1 X.prog X.w) k fa fd ps (Uy X.K G.c0 sp)/\Xn X.K Xi c=wc (wc (.ref C))/\Cls X.K C/\Meth X.K C m fa/\Binds X.K fd ps []
 exc:∃C F,X.mg G.c0=wc (.ref C)/\Xn X.K Xi G.c0=wc (wc (.ref C))/\XCls X.K F veMro/\XCls X.K C (.ref F::veMro)
def liR(K:X1)(j:Hp)(t:Sm->MH->Prop)(u:St)(H:Hp):Prop:=Kp j H/\∃l M,RS K H l u/\RH K M H/\t l M
section
variable{X:Cx}{G:GX}{Φ:List (Str×SpM)}{Ψ:List (Str×SpR)}{H₀:Hp}{E:XK}{M0:MH}
def sIC(x:BW X G Φ Ψ E)(T:liXR X.K G.c0 E H₀ M0)(c:IC){v:Expr}(h:W0 G X.env.scope X.N c v=wf):PE X v (λD H _=>liR X.K H₀ (wIC Φ Ψ M0 c) D H)/\VX v=wf/\∀t d,Xm (v::t) d=(wg,eval v d)::Xm t d:=by
 replace h:=X5 h;have⟨⟨fx,args,ks,O⟩,h1,h⟩:=h;obtain rfl:=_3 h1;replace h:=X5 h;have⟨⟨y,I⟩,h3,h⟩:=h;obtain rfl:=Yo h3;rw[Xs]at h;have⟨h0,h⟩:=h;obtain rfl:=Y2 h0;erw[⟨?_,rfl,λ_ _=>rfl⟩];have g:=x.c;cases c with
 |fn j a t=>
  replace h:=X5 h;have⟨f,J,h⟩:=h;have⟨p,e⟩:=Yg J;have e:fx=_:=e;subst e;simp only[Xs]at h;have⟨⟨⟨S,i⟩,P⟩,R⟩:=h;have⟨n,Z,g3⟩:=YL i;have⟨sp,b,k,fa,fd,ps,hr,F,hm,hk,hb⟩:=x.fns j f (Xq S);have ha:PA X (y::I) (Zv (liE X.K (wE Φ a)) (liA X.K (wEs Φ t))):=PA.nox (YT (X:=X.nox) (sE a g P).pe (sA t g R) (Y8 P));erw[(Gm (E:=E) F hr n hm hk hb .nil x.pass ha Z (Y8 P) (_i (_5 (l:=O) R)).2).weak λD H Q r=>?_];have⟨k0,l,M,U,rh,r⟩:=r;erw[⟨l,M,U,rh,X6 g.mon a (λv M1 q1=>?_) r⟩];intro u H1 W r1 w;erw[⟨l,M1,U.mono W,w,mon_es g.mon t (λA M2 ⟨f',sp',e,q2,sm⟩=>?_) q1⟩];rw[b]at e;cases e;intro us H2 B r2 L;erw[⟨v::A,M2,?_,L,q2,λC H' M' Y kk rr s=>T C H' M' Y (k0.trans (W.trans (B.trans kk))) rr (λa o z=>s a o (sm a o z))⟩];rw[Ze];erw[.cons (r1.mono B) r2]
 |mt j cn m o a0 t=>
  replace h:=X5 h;have⟨⟨ob,nm,ap⟩,J,h⟩:=h;have e:=VT J;have e:fx=_:=e;subst e;simp only[Xs]at h;have⟨⟨⟨⟨⟨S,i⟩,P⟩,R⟩,a6⟩,a7⟩:=h;obtain rfl:=Xq S;have a7:=Xq a7;have N:Wh ((y::I).length+([]:List YW).length) (XV O (Xm (y::I) X.env)) (Zl O (Zm [] X.env))=wf:=by
   unfold Wh;have e0:Zl O (Zm [] X.env)=[]:=rfl;rw[(_i (_5 (l:=O) R)).1,e0];simp only[Ww,Xs,decide_eq_true_eq];erw[⟨rfl,?_⟩];simp at a7 ⊢;lia
  have⟨fn,sp,b,k,C,fa,fd,ps,hr,F,hC,cl,hm,hb⟩:=x.mts j cn _ i;have⟨x',xs',Y,h4,h5⟩:=BO R;cases Y;erw[(Gn (E:=E) (PE.nox (sE o g P).pe) cl hm F hr hb .nil x.pass (PA.nox (sA (.cons a0 t) g R)) (Y8 h4) (_i (_5 (l:=O) h5)).2 (DS (VW P) N a6)).weak λD H Q r=>?_];have⟨k0,l,M,U,rh,r⟩:=r;erw[⟨l,M,U,rh,X6 g.mon o (λv M1 h'=>?_) r⟩];have⟨a,fs,e,e2,e3,q⟩:=h';subst e;intro u H1 W r1 w;obtain rfl:=r1.inv;have⟨C',dx,A,n,Z,g3⟩:=w.ins e2;have hC:Xn X.K Xi cn=_:=hC;rw[show Xn X.nox.K Xi cn=_ from hC]at Z;cases Z;have hn:A.lookup nm=we:=by
   rcases BK (f:=nm) g3 with⟨_,z2⟩|⟨x',u',z1,_⟩
   .erw[z2]
   .rw[e3]at z1;cases z1
  erw[⟨a,dx,A,rfl,n,hn,l,M1,U.mono W,w,mon_es g.mon (.cons a0 t) (λws M2 h'=>?_) q⟩];have⟨f',sp',e4,q2,sm⟩:=h';rw[b]at e4;cases e4;intro us H2 B r2 L;erw[⟨.ref a::ws,M2,?_,L,q2,λC H' M' Y kk rr s=>T C H' M' Y (k0.trans (W.trans (B.trans kk))) rr (λa o z=>s a o (sm a o z))⟩];rw[Ze];erw[.cons (.ref a) r2]
def sIK(x:BW X G Φ Ψ E)(l:liXR X.K G.c0 E H₀ M0)(r:∀y,X.fn y=wf)(k:IK)(c:IC){st:Stmt}(h:IZ G X.env.scope X.N k c st=wf):PS X st (λ_ u H=>liR X.K H₀ (wIC Φ Ψ M0 c) u H):=by
 have d:=x.c;cases k with
 |ex=>
  replace h:=X5 h;have⟨v,w,h⟩:=h;have⟨p,rfl⟩:=DV w;have⟨z,A,_⟩:=sIC x l c h;erw[(G6 z (DW A)).weak λD u H m=>m]
 |rt=>
  replace h:=X5 h;have⟨o,w,h⟩:=h;have⟨p,rfl⟩:=DU w;replace h:=X5 h;have⟨v,rfl,h⟩:=h;erw[(Dk (sIC x l c h).1).weak λD u H m=>m]
 |rb f=>
  replace h:=X5 h;have⟨o,w,h⟩:=h;have⟨p,rfl⟩:=DU w;replace h:=X5 h;have⟨v,rfl,h⟩:=h;replace h:=X5 h;have⟨⟨M,B,ks,Q⟩,w,h⟩:=h;obtain rfl:=_3 w;replace h:=X5 h;have⟨g,N,h⟩:=h;have⟨S,e⟩:=Yg N;have e:M=_:=e;subst e;replace h:=X5 h;have⟨⟨y,ys⟩,O,h⟩:=h;obtain rfl:=Yo O;simp only[Xs]at h;have⟨⟨⟨⟨⟨P,R⟩,T⟩,L⟩,U⟩,a6⟩:=h;obtain rfl:=Y2 P;obtain rfl:ys=[]:=Y2 R;obtain rfl:=Xq T;have⟨C,F,I⟩:=YL U;have⟨z,A,W⟩:=sIC x l c a6;have J:PA X [y] (Zv (λu H _=>liR X.K H₀ (wIC Φ Ψ M0 c) u H) tNil):=YT z pa_nil (W _ _);have Y:=Iq f;have j:=HY (X:=X) x.calm f;have z:PE X (.Call (.Name (f.name:Str) S) [y] [] Q) (tCB (liW X.K (wBi f)) (Zv (λu H _=>liR X.K H₀ (wIC Φ Ψ M0 c) u H) tNil)):=by
   rcases ID f with⟨n,r⟩|⟨n,r⟩<;>rw[r]at Y j
   .erw[BB j C (d.bls _ L) Y J I F (W _ _) rfl]
   .erw[Gv j C (d.bls _ L) Y J I F (W _ _) rfl]
  erw[(Dk z).weak λD u H m=>m]
 |ix i e=>
  replace h:=X5 h;have⟨⟨ts,v⟩,w,h⟩:=h;have⟨p,rfl⟩:=VY w;replace h:=X5 h;have⟨t,N,h⟩:=h;obtain rfl:=_4 N;replace h:=X5 h;have⟨y,O,h⟩:=h;have⟨px,rfl⟩:=Yg O;replace h:=X5 h;have⟨⟨a,b⟩,h4,h⟩:=h;have⟨ps,Z⟩:=A0 h4;have Z:v=_:=Z;subst Z;simp only[Xs]at h;have⟨⟨⟨⟨P,R⟩,T⟩,L⟩,U⟩:=h;have⟨z,_,_⟩:=sIC x l c U;have hq:=GE (pos:=ps) (HR (X:=X) (by have:X.A.units+70<cLine:=d.room;lia)) z (PE.nox (sE e d L).pe) (Iz T)
  erw[(Bz (X:=X) d.nd (Xq P) (VU R) hq rfl (.inl (r _))).weak λD u H m=>m]
theorem sR(x:BW X G Φ Ψ E)(g:liXR X.K G.c0 E H₀ M0)(U:∀y,X.fn y=wf):∀(is:IR){j:List Stmt},chkR G X.env.scope X.N is j=wf->PSs X j (λ_ L H=>liR X.K H₀ (wR Φ Ψ M0 is) L H)
 |.no,j,h=>λpj s L H D I w=>by
  have⟨_,_,_,_,_,z⟩:=w;erw[z.elim]
 |.pl s r,j,h=>by
  replace h:=X5 h;have⟨⟨y,J⟩,f,h⟩:=h;obtain rfl:=Yo f;rw[Xs]at h;erw[(Bx (PS.nox (sS s x.c U h.1)) (sR x g U r h.2)).weak λD L H w=>?_];have⟨P,m,M,N,W,w⟩:=w;erw[⟨m,M,N,W,?_⟩];erw[BR x.c.mon s ?_ w];erw[⟨λO B z σv H1 T Q S=>⟨P.trans T,O,B,Q,S,z⟩,λv B z=>z.elim,λO B z=>z.elim,λO B z=>z.elim⟩]
 |.rf i,j,h=>by
  replace h:=X5 h;have⟨⟨y,J⟩,f,h⟩:=h;obtain rfl:=Yo f;replace h:=X5 h;have⟨⟨n,a⟩,f,h⟩:=h;have⟨np,cpos,pos,e⟩:=_eo f;have e:y=_:=e;subst e;replace h:=X5 h;have⟨l,h2,h⟩:=h;simp only[Xs]at h;have⟨⟨⟨Y,o⟩,b⟩,a5⟩:=h;have Y:n=G.c0:=Xq Y;subst Y;have⟨g1,g2,g3⟩:=YL o;have⟨C,F,m1,m2,cF,cC⟩:=x.exc;have Z:Xm [a] X.env=(wg,eval a X.env)::Xm [] X.env:=by have⟨_,_,_,_,_,e⟩:=IY h2;cases e;rfl
  have ha:PA X [a] (Zv (tFs i) tNil):=YT (_oh h2 (Xq b) a5) pa_nil Z;erw[J0 ((_h6 (R:=λH=>E (.ref C) we H) cF cC x.calm g1 m1 ha (λpj L H s h' e vs I hm q=>x.rais pj L H s h' e C vs I hm q) g2 Z).weak λD L H w=>?_)];have⟨P,m,M,N,W,y,hy,hs,w⟩:=w;have⟨v,hv,rv⟩:=N.2 i _ hy;cases rv;erw[⟨y,hv,hs,λz=>⟨by rw[CH];decide,?_⟩⟩]
  erw[g C H M m2 P W w]
 |.st k c,j,h=>by
  replace h:=X5 h;have⟨⟨y,J⟩,f,h⟩:=h;obtain rfl:=Yo f;erw[J0 (sIK x g U k c h)]
 |.ite d a r,j,h=>by
  replace h:=X5 h;have⟨⟨y,J⟩,f,h⟩:=h;obtain rfl:=Yo f;replace h:=X5 h;have⟨⟨t,u,v⟩,f,h⟩:=h;have⟨p,e⟩:=IL f;have e:y=_:=e;subst e;simp only[Xs]at h;have⟨⟨⟨⟨Y,a2⟩,o⟩,b⟩,a5⟩:=h;obtain rfl:v=[]:=Y2 b;erw[(Bx (G7 (PT.nox ((sE d x.c a2).pt Y)) (sR x g U a o) pss_nil) (sR x g U r a5)).weak λD L H w=>?_];have⟨P,m,M,N,W,w⟩:=w;erw[⟨m,M,N,W,X6 x.c.mon d (λy M1 ⟨k,e,q⟩=>⟨k,e,λH1 T A=>?_⟩) w⟩];erw[YG (λq=>⟨P.trans T,m,M1,N.mono T,A,q⟩) (λq=>⟨P.trans T,m,M1,N.mono T,A,q⟩) q]
end
end L2
namespace L2
open PySem PySem.Spec PyProof.Rows
section
variable{prog:Xk}{w:Xe}{A:Xp}{E:Value->X0->Prop}{h:Heap}{g:Array GenState}{d:Drawn}{t:Nat}{os:OsState}{a:Addr}{o:Obj}
 {nm q:Str} {C N:Addr} {bs bm:List Value} {hdct:Bool} {sn:List Str} {sub:List Value} {ab:Bool} {col:Option Bool} {dd:Option Addr} {k0 k1 k2 k3 k5:Option Value} {newId:String}
def _aM{R:Result->X0->Prop}(z:h.get? C=wc (UM nm q C N bs bm hdct sn sub ab col dd k0 k1 k2 k3 k5 newId))(m:bm.contains (.type "object")=wf)
  (u:h.get? a=wc o)(y:o.cls=.ref C)(c:R (.ok (.ret (.ref C))) ⟨h,g,d,t,os⟩):
  YJ (X4 prog w) A (.call (.builtin "getset_descriptor.__get__") ⟨[.builtin "object.__class__",.ref a,.ref C],[]⟩) R ⟨h,g,d,t,os⟩:=by
 have j:(⟨h,g,d,t,os⟩:X0).TypeIs (.builtin "object.__class__") "getset_descriptor":=De;have l:(Xt C::bm).contains (.type (".".intercalate ("object.__class__".cutAt (Char.ofNat 46)).dropLast))=wf:=by
  rw[F.owner_object_class,Vm,m];rfl
 erw[We F.slot_gs_get.plain F.entry_gs_get (F.slot_gs_get.check _ _ _ _ _ _ _ _ j (F.args_gs_get _ _ _) ?_)]
 repeat (any_goals (first|assumption|(with_reducible erw[ZT u ?_];rw[y])|(with_reducible erw[Wi z ?_];rw[l])|wp_step))
 erw[⟨Code.quiet_builtin _ (by decide+kernel),YZ F.entry_object_class ?_⟩]
 repeat (any_goals (first|assumption|(with_reducible erw[ZT u ?_];rw[y])|wp_step))
abbrev Lk(prog:Xk)(w:Xe)(h:Heap)(C:Addr)(n:Str)(r:Option Value):Prop:=∀(A:Xp)(Q:Option Value->X0->Prop)(E:Value->X0->Prop)(g:Array GenState)(d:Drawn)(t:Nat)(os:OsState),Q r ⟨h,g,d,t,os⟩->X3 (X4 prog w) A (typeLookup (.ref C) n) Q E ⟨h,g,d,t,os⟩
def _8T{u:Tok}{Q:Fin->X0->Prop}(y:h.get? C=wc (UM nm q C N bs bm hdct sn sub ab col dd k0 k1 k2 k3 k5 newId))(z:bm.contains (.type "object")=wf)
  (m:Lk prog w h C "__class__" (wc (.builtin "object.__class__")))(j:h.get? a=wc o)(l:o.cls=.ref C)(f:Q (.done (.ret (.ref C))) ⟨h,g,d,t,os⟩):
  X3 (X4 prog w) A (Builtin.«object.__getattribute__» ⟨[.ref a,.str "__class__" u],[]⟩) Q E ⟨h,g,d,t,os⟩:=by
 have c:(⟨h,g,d,t,os⟩:X0).TypeIs (.builtin "object.__class__") "getset_descriptor":=De;have r:=De;have p:=F.slot_gs_get.lookup;have e:=F.slot_gs_set.lookup
 repeat (any_goals (first|assumption|(with_reducible erw[ZT j ?_];rw[l])|with_reducible erw[m _ _ _ _ _ _ _ ?_]|wp_step))
 erw[_aM y z j l ?_]
 repeat (any_goals (first|assumption|wp_step))
def _bN{M:Model}{j:Value}{Q:Unit->X0->Prop}(y:h.get? C=wc (UM nm q C N bs bm hdct sn sub ab col dd k0 k1 k2 k3 k5 newId))(z:bm.contains (.type "BaseException")=wf)
  (m:h.get? a=wc o)(c:o.cls=.ref C)(f:Q () ⟨h,g,d,t,os⟩):X3 M A (checkBuiltinCall "BaseException.__getattribute__" ⟨[.ref a,j],[]⟩) Q E ⟨h,g,d,t,os⟩:=by
 have r:builtinKind "BaseException.__getattribute__"=wc .slot:=by decide+kernel
 have l:splitId "BaseException.__getattribute__"=wc ("BaseException","__getattribute__"):=by decide+kernel
 have u:(Xt C::bm).contains (.type "BaseException")=wf:=by rw[Vm,z];rfl
 have p:=F.args_bexc_ga (.ref a) j;simp only[checkBuiltinCall,r,l];erw[X2 ?_]
 .unfold isInstance
  repeat (first|(with_reducible erw[ZT m ?_];rw[c])|(with_reducible erw[Wi y ?_];rw[u])|wp_step)
  erw[f]
def _9o{Q:Option Value->X0->Prop}(m:h.get? C=wc (UM nm q C N bs bm hdct sn sub ab col dd k0 k1 k2 k3 k5 newId))(f:bm.contains (.type "BaseException")=wf)(j:bm.contains (.type "object")=wf)
  (r:Lk prog w h C "__getattribute__" (wc (.builtin "BaseException.__getattribute__")))(p:Lk prog w h C "__getattr__" we)(e:Lk prog w h C "__class__" (wc (.builtin "object.__class__")))(l:h.get? a=wc o)(u:o.cls=.ref C)
  (L:Q (wc (.ref C)) ⟨h,g,d,t+1,os⟩):X3 (X4 prog w) A (getAttr? (.ref a) "__class__") Q E ⟨h,g,d,t,os⟩:=by
 have y:∀{c:Tok} {A:Xp} {Q:Value->X0->Prop} {E:Value->X0->Prop} {t:Nat},Q (.ref C) ⟨h,g,d,t,os⟩->X3 (X4 prog w) A (getAttrBy (.ref a) (.str "__class__" c) wg) Q E ⟨h,g,d,t,os⟩:=by
  intro c A Q E t L;have R:=F.attr_ValueError.ga.bind (.ref a);have O:(wg&&onTheHeap (Vw "BaseException.__getattribute__"))=wg:=rfl;have z:(Vw "BaseException.__getattribute__"==Vw "object.__getattribute__")=wg:=by decide+kernel
  have P:(onTheHeap (Xt C)&&Vw "BaseException.__getattribute__"==Vw "object.__getattribute__")=wg:=by rw[z];rfl
  repeat (any_goals (first|assumption|(with_reducible erw[ZT l ?_];rw[u])|with_reducible erw[r _ _ _ _ _ _ _ ?_]|with_reducible erw[p _ _ _ _ _ _ _ ?_]|wp_step))
  erw[We F.attr_ValueError.ga.plain F.entry_bexc_ga (_bN m f l u (_8T m j e l u ?_))]
  repeat (any_goals (first|assumption|wp_step))
 unfold getAttr? getAttrBy?
 repeat (any_goals (first|assumption|with_reducible apply y|wp_step))
end
end L2
namespace L2
open PySem PySem.Spec PyProof.Rows PySem.W PySem.Calls
noncomputable def Uz(K:X1)(C j:Addr):Bool:=(clsIn K j).isSome&&typeIn K (.ref j)==wc (.type "type")&&instIn K (.ref j) (.type "type")==wc wf&&subIn K (.ref C) (.ref j)==wc wg&& !(Xt C==Xt j)
section
variable{prog:Xk}{w:Xe}{A:Xp}{E:Value->X0->Prop}{s:X0}{K:X1}{C C' a:Addr}{o:Obj}
def E2{M:Model}{h:Heap}(j:h.get? a=wc o)(l:o.cls=.ref C):Looks M h (typeOf (.ref a)) (.ref C):=by
 intro A Q E s k q;have⟨t,g,d,u,os⟩:=s;have j:=k _ _ j
 repeat (first|(with_reducible erw[ZT j ?_];rw[l])|wp_step)
 erw[q]
set_option tactic.hygienic true in
def _9h{j:Int}{c:Tok}{Q:Fin->X0->Prop}(X:K.In s.heap)(f:s.heap.get? a=wc o)(r:o.cls=.ref C)(e:Uz K C C'=wf)
  (p:∀{A:Xp} {E:Value->X0->Prop} {Q:Option Value->X0->Prop},Q (wc (.ref C)) {s with toks:=s.toks+1}->X3 (X4 prog w) A (getAttr? (.ref a) "__class__") Q E s)(l:(clsIn K C).isSome=wf)
  (h:Q (.done (.ret (.bool wg))) {s with toks:=s.toks+1}):
  X3 (X4 prog w) A (Builtin.«isinstance.nested» ⟨[.ref a,.ref C',.int j c],[]⟩) Q E s:=by
 have y:=E2 (M:=X4 prog w) f r;have⟨z,g,d,W,os⟩:=s;unfold Builtin.«isinstance.nested»;erw[X2 (y.at ?_)];unfold Uz at e;simp only[Xs,Vt]at e;have⟨⟨⟨⟨t,L⟩,N⟩,O⟩,P⟩:=e;rw[P,if_neg (by simp)]
 have R:=looks_typeIn (M:=X4 prog w) X (beq_iff_eq.mp L);have Y:=looks_instIn (M:=X4 prog w) X (beq_iff_eq.mp N);have m:Looks (X4 prog w) z (isSubtype (.ref C) (.ref C')) wg:=looks_subIn X (beq_iff_eq.mp O);have T:Looks (X4 prog w) z (isInstance (.ref a) (.ref C')) wg:=y.andThen m;erw[X2 (R.at ?_)];rw[if_pos (by decide)]
 k_delta "plainIsInstance"
 unfold isType
 repeat lk
 unfold clsIn at t;split at t
 .rename_i U
  erw[nd_load (X _ _ U) (nd_pure (X8 ?_))];simp only[Vu,Yv,if_false];erw[X2 (T.at ?_)];simp only[Yv,if_false];erw[X2 (p ?_)];unfold clsIn at l;split at l
  .rename_i u
   erw[X2 ?_];erw[nd_load (X _ _ u) (nd_pure ?_)];simp only[Vu,Yv,if_false];erw[X2 (Vk ?_)];erw[m.at ?_];erw[X8 h]
  .cases l
 .cases t
noncomputable def UA(K:X1)(C:Addr):Bool:=findIn K (.ref C) "__getattribute__"==wc (wc (.builtin "BaseException.__getattribute__"))&&findIn K (.ref C) "__getattr__"==wc we&&findIn K (.ref C) "__class__"==wc (wc (.builtin "object.__class__"))
def E3{h:Heap}{n:Str}{r:Option Value}(X:K.In h)(e:findIn K (.ref C) n=wc r):Lk prog w h C n r:=λA Q E g d t os q=>(looks_findIn (M:=X4 prog w) X e).here (s:=⟨h,g,d,t,os⟩) q
def _hP{j:List Value}(X:K.In s.heap)(m:XCls K C j)(u:UA K C=wf)(c:j.contains (.type "BaseException")=wf)(y:j.contains (.type "object")=wf)(f:s.heap.get? a=wc o)(r:o.cls=.ref C){A:Xp}{E:Value->X0->Prop}{Q:Option Value->X0->Prop}
  (q:Q (wc (.ref C)) {s with toks:=s.toks+1}):X3 (X4 prog w) A (getAttr? (.ref a) "__class__") Q E s:=by
 have⟨h,g,d,t,os⟩:=s;have⟨P,R,N,bs,z,T,sub,U,p,W,Y,Z,B,D,F,l,n⟩:=m;unfold UA at u;simp only[Xs,beq_iff_eq]at u;have⟨⟨e,L⟩,O⟩:=u;erw[_9o (X _ _ l) c y (E3 X e) (E3 X L) (E3 X O) f r q]
def _bQ{j:List Value}{b:Bool}{Q:Value->X0->Prop}(X:K.In s.heap)(d:XCls K C j)(r:UA K C=wf)(p:j.contains (.type "BaseException")=wf)(u:j.contains (.type "object")=wf)(y:s.heap.get? a=wc o)(m:o.cls=.ref C)
  (e:(if b then isIn K (.ref C) C' else Uz K C C')=wf)(q:∀t,Q (.bool b) {s with toks:=t}):X3 (X4 prog w) A (call (.builtin "isinstance") [.ref a,.ref C']) Q E s:=by
 cases b with
 |true=>erw[isi_call X (λM=>E2 y m) e (by intro z;cases z) (q s.toks)]
 |false=>
  have L:(clsIn K C).isSome=wf:=by
   have⟨P,T,N,bs,c,U,sub,W,O,Y,Z,B,D,F,G,l,n⟩:=d;unfold clsIn;rw[l];rfl
  erw[call_isinstance (S:=λ_ R f=>f=s/\R (.ok (.ret (.bool wg))) {s with toks:=s.toks+1}) (λ_ _ _ _ f g=>?_) ⟨rfl,q _⟩];have⟨rfl,g⟩:=g;erw[isinstance_outer (_9h X y m e (λq=>?_) L g) (by intro z;cases z)]
  erw[_hP X d r p u y m q]
def _aC{t:List Value}{u:Int}{f:Tok}{Q:Fin->X0->Prop}(X:K.In s.heap)(r:XCls K C t)(p:t.contains (.type "ValueError")=wf)(j:s.heap.get? a=wc o)(z:o.cls=.ref C)(h:Q (.done (.ret (.bool wf))) s):
  X3 (X4 prog w) A (Builtin.«isinstance.nested» ⟨[.ref a,.type "ValueError",.int u f],[]⟩) Q E s:=by
 have e:=E2 (M:=X4 prog w) j z;have⟨m,g,d,R,os⟩:=s;have⟨T,U,N,bs,c,W,sub,Y,L,Z,B,D,F,G,I,l,n⟩:=r;have O:typeOf (.type "ValueError")=pure (.type "type"):=by kernel_rfl
 have y:(Xt C::t).contains (.type "ValueError")=wf:=by rw[Vm,p];rfl
 unfold Builtin.«isinstance.nested»;erw[X2 (e.at ?_)];rw[if_neg (λq=>by cases beq_iff_eq.mp q),O]
 erw[X2 (X8 ?_)];rw[if_pos (by decide)]
 k_delta "plainIsInstance"
 have P:m.get? C=wc _:=X _ _ l;have j:m.get? a=wc o:=j
 repeat (any_goals (first|assumption|(with_reducible erw[ZT j ?_];rw[z])|(with_reducible erw[Wi P ?_];rw[y])|wp_step))
def _cL{l:List Value}{Q:Value->X0->Prop}(X:K.In s.heap)(u:XCls K C l)(y:l.contains (.type "ValueError")=wf)(m:s.heap.get? a=wc o)(g:o.cls=.ref C)(q:Q (.bool wf) s):
  X3 (X4 prog w) A (call (.builtin "isinstance") [.ref a,.type "ValueError"]) Q E s:=by
 erw[call_isinstance (S:=λ_ R t=>t=s/\R (.ok (.ret (.bool wf))) s) (λ_ _ _ _ t j=>?_) ⟨rfl,q⟩];have⟨rfl,j⟩:=j;erw[isinstance_outer (_aC X u y m g j) (by intro z;cases z)]
end
end L2
namespace L2
open PySem PySem.Spec PyProof.Rows
section
variable{M:Model}{A:Xp}{E:Value->X0->Prop}{h:Heap}{g:Array GenState}{d:Drawn}{t:Nat}{os:OsState}{e:Addr}{oe:Obj}
 {nm q:Str} {C N:Addr} {bs bm:List Value} {hdct:Bool} {sn:List Str} {sub:List Value} {ab:Bool} {col:Option Bool} {dd:Option Addr} {k0 k1 k2 k3 k5:Option Value} {newId:String}
 {nm' q':Str} {F N':Addr} {bs' bm':List Value} {hdct':Bool} {sn':List Str} {sub':List Value} {ab':Bool} {col':Option Bool} {dd':Option Addr} {k0' k1' k2' k3' k5':Option Value} {newId':String}
def _9m{Q:Bool->X0->Prop}(w:h.get? C=wc (UM nm q C N bs bm hdct sn sub ab col dd k0 k1 k2 k3 k5 newId))(u:h.get? F=wc (UM nm' q' F N' bs' bm' hdct' sn' sub' ab' col' dd' k0' k1' k2' k3' k5' newId'))(y:h.get? e=wc oe)(j:oe.cls=.ref C)
  (z:bm'.contains (.type "BaseException")=wf)(m:(Xt C::bm).contains (.ref F)=wf)(c:Q wf ⟨h,g,d,t,os⟩):X3 M A (excMatches (.ref e) (.ref F)) Q E ⟨h,g,d,t,os⟩:=by
 have l:(Xt F::bm').contains (.type "BaseException")=wf:=by rw[Vm,z,Vv]
 have f:=tc_notTuple;unfold excMatches
 repeat (first|(with_reducible erw[ZT y ?_];rw[j])|with_reducible erw[ZT u ?_]|(with_reducible erw[Wi u ?_];rw[l])|(with_reducible erw[Wi w ?_];rw[m])|wp_step)
 erw[c]
end
noncomputable abbrev Cx.caught(X:Cx)(a:Addr)(oe:Obj):Cx:={X with A:=X.A.mark (wc (.ref a)),calm:=wg,pn:=(a,oe)::X.pn,xe:=λ_ _=>False}
section
variable{X:Cx}{pj:List (Addr×Obj)}{σ:St}{H:Hp}{s:X0}{a:Addr}{oe:Obj}
theorem Inv.caught(I:Inv X pj σ H s)(l:s.heap.get? a=wc oe)(t:H a=we)(u:a≠X.env.locals)(w:a∉X.fs)(hd:∀v,oe.data≠.cell v):Inv (X.caught a oe) pj σ H s:=
 ⟨⟨I.ok.mod,I.ok.kind,I.ok.glob,I.ok.blt,I.ok.above,I.ok.inj,I.ok.has,I.ok.cab,λz=>(by cases z),I.ok.frames,I.ok.stk,I.ok.exf,I.ok.bs,I.ok.bsz,I.ok.noex,I.ok.exfs,I.ok.funs,I.ok.frf⟩,I.os,I.bare,I.base,I.loc,I.cell,I.free,I.freeC,
  λp j=>by
   rcases Xh.mp (show p∈(a,oe)::(X.pn++pj)from j)with rfl|j
   .erw[⟨l,t,u,w,hd⟩]
   .erw[I.pin p j],I.hok,I.len⟩
def Inv.uncaught(ok:X.Ok)(I:Inv (X.caught a oe) pj σ H s):Inv X pj σ H s:=
 ⟨ok,I.os,I.bare,I.base,I.loc,I.cell,I.free,I.freeC,λp j=>I.pin p (XD _ j),I.hok,I.len⟩
def Inv.pinA(I:Inv (X.caught a oe) pj σ H s):s.heap.get? a=wc oe:=(I.pin (a,oe) (XZ ..)).1
end
def un1{j:List Env}{H N:Hp}{f h r B:Heap}(u:Un (frs j) [] H N f h)(t:B.StaysIn r)(w:h.UpToSlots r)(P:h.FunFrames B j)
  (y:∀b o,f.get? b=wc o->b∉frs j->(H b=we->B.get? b=wc o)/\∃g,B.get? b=wc g):Un (frs j) [] H N f r:=by
 have z:∀b∈frs j,∃o,h.get? b=wc o/\∀R,o.data≠.fields R:=λb l=>(P.mem l).2;erw[⟨λb o e n l _=>t b o ((y b o e l).1 n),λb o e n l d=>?_,λb o e n d=>u.free b o e n d,λb o e d=>?_,u.tups,u.frzs,u.tbls⟩]
 .have⟨W,O⟩:=u.slot b o e n l d;have⟨T,c,p⟩:=z b l;rw[O]at c;cases c;have⟨m,L⟩:=w b _ O p;erw[⟨m,L⟩]
 .by_cases l:b∈frs j
  .have⟨T,c,p⟩:=z b l;have⟨m,L⟩:=w b _ c p;erw[⟨_,L⟩]
  .have⟨g,U⟩:=(y b o e l).2;erw[⟨g,t b g U⟩]
def hok1{P:Xk}{w:Xe}{j:Hp}{h m B:Heap}(l:HOk P w j h)(st:B.StaysIn h)(t:B.StaysIn m)(own:∀b u,j b=wc u->∃o,B.get? b=wc o):HOk P w j m:=λb u e=>by
 erw[(l b u e).stay (λc v y r=>?_) (λ_ z=>z) λ_ _ z=>z];obtain⟨o,g⟩:∃o,B.get? c=wc o:=by
  rcases y with rfl|y
  .erw[own _ _ e]
  .erw[own _ _ y]
 have:=st c o g;rw[r]at this;cases this;erw[t c _ g]
def Inv.gone{X:Cx}{T:List (Addr×Obj)}{L:St}{H:Hp}{s:X0}{N tk:Nat}{n:Str}{v:Option Value}{m:Str->Option Value}{h':Heap}(I:Inv X T L H s)(W:X.N.Nodup)(O:X.N[N]?=wc n)
  (Y:∀(i:Nat)(x:Str)(v:V),X.N[i]?=wc x->L[i]?=wc (wc v)->Vis X.env.scope x->∃u,RelV v u/\Look X.env s.heap m x u)(Z:s.heap.Ns X.env.locals m)
  (P:h'.Ns X.env.locals (λy=>if y=n then v else m y))(l:ZD X.env.locals s.heap h'):Inv X T (L.set N we) H {s with heap:=h',toks:=tk}:=by
 have cne:=I.cne;have⟨S,_,_,A,_⟩:=id Z;have t:∀b o,X.s₀.heap.get? b=wc o->b≠X.env.locals:=λb o e=>XE (Yu (Xu e) I.ok.above);erw[⟨I.ok,I.os,I.bare,⟨λb o e n R f=>(l.2 b (t b o e)).trans (I.base.keep b o e n R f),λb o e n R f=>?_,I.base.free,λb o e f=>?_,I.base.tups,I.base.frzs,I.base.tbls⟩,⟨_,P,λj y B w g C=>?_⟩,λy c e=>?_,I.free,I.freeC,λp D=>?_,λb E e=>?_,by simpa using I.len⟩]
 .have⟨F,w⟩:=I.base.slot b o e n R f;erw[⟨F,(l.2 b (t b o e)).trans w⟩]
 .have⟨G,w⟩:=I.base.there b o e f;erw[⟨G,(l.2 b (t b o e)).trans w⟩]
 .by_cases hj:j=N
  .subst hj;rw[Zd]at g;rw[if_pos rfl]at g;split at g<;>cases g
  .rw[Uk (XT hj)]at g;have⟨J,M,q⟩:=Y j y B w g C;erw[⟨J,M,?_⟩];rcases q with⟨k,e⟩|⟨k,c,e,z⟩
   .erw[.inl ⟨k,?_⟩];have:y≠n:=λe=>hj (Di W w (e▸O));simp[this,e]
   .erw[.inr ⟨k,c,e,z.sameBut l (cne y c e)⟩]
 .have⟨U,z⟩:=I.cell y c e;erw[⟨U,z.sameBut l (cne y c e)⟩]
 .have⟨e,n,t,Q,d⟩:=I.pin p D;erw[⟨(l.2 p.1 t).trans e,n,t,Q,d⟩]
 .erw[(I.hok b E e).stay (λc U r q=>(l.2 c ?_).trans q) (λ_ q=>q) λ_ _ q=>q];rintro rfl;rcases r with rfl|r
  .rw[I.free]at e;cases e
  .rw[I.free]at r;cases r
section
variable{X:Cx}{pj:List (Addr×Obj)}{σ:St}{H1:Hp}{s1 s':X0}{e:Value}{R:Addr->Hp->Prop}{Fn n:Str}{F:Addr}{ni:Nat}{b₀:Stmt}{suite:List Stmt}{pos fp:Pos}{rest:List ExceptHandler}{Q:Flow->X0->Prop}
def _kF(I1:Inv X pj σ H1 s1)(hc:CX1 X.prog X.w X.stack H1 s1 (λc _ d=>∃C,c=.ref C/\R C d) e s')(g:X.stack=X.env::X.outer)(O:X.env.frame=wc X.env.locals)
  (hF:XCls X.K F veMro)(hC:∀C d,R C d->XCls X.K C (.ref F::veMro))(hgF:Gl X Fn)(hmF:X.mg Fn=wc (.ref F))(hdb:(Fn==("__debug__":Str))=wg)
  (nd:X.N.Nodup)(Z:X.N[ni]?=wc n)(P:X.env.scope.names.lookup n=wc .local)
  (k:∀a w C d s6,w.cls=.ref C->R C d->Inv (X.caught a w) pj (σ.set ni (wc (.ref a))) d s6->
    X3 (X4 X.prog X.w) (X.A.mark (wc (.ref a))) (execs (b₀::suite) X.env) (λf s7=>∃p L,Inv (X.caught a w) pj p L s7/\∀h,Inv X pj (p.set ni we) L h->Q f h) (λ_ _=>False) s6):
  X3 (X4 X.prog X.w) X.A (noteFrame e X.env) (λ_ A=>X3 (X4 X.prog X.w) X.A (setFlight e we) (λ_ D=>
   X3 (X4 X.prog X.w) X.A (handleBy e X.env (.ExceptHandler (wc (.Name Fn fp)) (wc n) (b₀::suite) pos::rest)) Q X.xe D) X.xe A) X.xe s':=by
 have⟨a,C,t,B,d,rfl,os,E,un,hok,b,cov,own,C',ec,q⟩:=hc;cases ec;have G:=b;rw[g]at G;have inv:∀(j:Heap)(U:Nat),Vs B X.stack a (.ref C) (.ref t) j->s'.heap.UpToSlots j->Inv X pj σ d {s' with heap:=j,toks:=U}:=λj U y I=>
  I1.call' (s':={s' with heap:=j,toks:=U}) os (un1 un y.1 I b.2.2.1 cov) (hok1 hok b.1 y.1 own) E (λ_ z=>nomatch z)
 have fresh:d a=we:=by
  cases z:d a with
  |none=>rfl
  |some u=>have⟨o,r⟩:=own a u z;rw[b.2.1]at r;cases r
 have J:∀(j:Heap),Vs B X.stack a (.ref C) (.ref t) j->a∉frs X.stack:=λj y z=>by
  have⟨w,vs,T,oT,ts,he,_,hd,_⟩:=y.2.2.2;have⟨_,o,r,nf⟩:=y.2.2.1.mem z;rw[he]at r;cases r;erw[nf vs hd]
 have M:∀(j:Heap),Vs B X.stack a (.ref C) (.ref t) j->∃w,j.get? a=wc w/\w.cls=.ref C/\∀v,w.data≠.cell v:=λj y=>by
  have⟨w,vs,T,oT,ts,he,W,hd,_⟩:=y.2.2.2;erw[⟨w,he,W.1,λv z=>by rw[hd]at z;cases z⟩]
 have S:∀(j:Heap)(U:Nat)w,Vs B X.stack a (.ref C) (.ref t) j->s'.heap.UpToSlots j->j.get? a=wc w->(∀v,w.data≠.cell v)->Inv (X.caught a w) pj σ d {s' with heap:=j,toks:=U}:=λj U w y I r hd=>by
  have na:=J j y;rw[g]at na;erw[(inv j U y I).caught r fresh (λz=>na ?_) (λz=>na ?_) hd]
  .unfold frs;rw[Wk,O,z];erw[XZ ..]
  .unfold frs;rw[Wk,O];erw[XD _ z]
 have cC:=hC C d q;have⟨nm,qn,N,bs,hdct,sn,sub,ab,col,dd,k0,k1,k2,k3,k5,l,_⟩:=cC;have⟨nm',qn',N',bs',hdct',sn',sub',ab',col',dd',k0',k1',k2',k3',k5',l',_⟩:=hF;erw[wpAny_looks_onW (by rw[I1.ok.frames,g]) O G λh4 hh4 u4=>?_]
 erw[wpAny_landsW hh4 λj y I=>?_];have H:=u4.trans I;rw[<-g]at y;have⟨w,r,W,hd⟩:=M j y;have I5:=S j s'.toks w y H r hd;erw[wpAny_handleBy_cons (codeAny_handlers_test ?_) (by intro q;cases q)]
 erw[VE (X:=X.caught a w) I5 hgF hmF ?_ hdb];erw[_9m (I5.kIn _ _ l) (I5.kIn _ _ l') r W (by decide+kernel) (by simp) ?_]
 erw[codeAny_handlers_suite_as ?_];erw[lands_againW y λh6 f6 u6=>?_];have⟨Y,ho6,i,hd6⟩:=M h6 f6;have I6:=S h6 s'.toks Y f6 (H.trans u6) ho6 hd6;erw[Dj (X:=X.caught a Y) (v:=.ref a) (u:=.ref a) I6 nd Z (.inl P) rfl (λs7 I7=>?_) (.inr P)];erw[Yd (k a Y C d s7 i q I7) (λf h ⟨p,L,I8,hQ⟩=>?_) λ_ _ z=>XN z];have I9:Inv X pj p L h:=I8.uncaught I1.ok;have⟨m,hm,hl⟩:=id I9.loc;have x:(X.env.scope.kind==.class||(X.env.scope.kind==.module&&X.env.locals != X.env.globals))=wg:=by rw[I9.ok.kind];rfl
 erw[wpAny_nameGoes_keeps P hm x λh9 v hn9 hs9=>hQ _ ?_];erw[I9.gone nd Z hl hm hn9 hs9]
end
end L2
namespace L2
set_option genInjectivity false
open PySem PySem.Spec PyProof.Rows
section
variable{X:Cx}{xe':Value->X0->Prop}{pj:List (Addr×Obj)}{σ:St}{H:Hp}{s:X0}{k:Nat}{fa:Addr}{fd:YV}{ps:List Str}{sp:Sp}{x:Str}{p pos:Pos}{e:Expr}{es:List Expr}{t:TA}{Q:VK}{E:XK}
def _hT(I:Inv X pj σ H s)(F:FnOk X.prog X.w X.K X.mg X.base (CX1 X.prog X.w) k fa fd ps sp)(N:Room k X.A)(O:Gl X x)(P:X.mg x=wc (.ref fa))(R:Yt X.K (.ref fa)=wf)(T:Binds X.K fd ps [])(U:PA X.nox (e::es) t)
  (c:(x==("__debug__":Str))=wg)(W:Xm (e::es) X.env=(wg,eval e X.env)::Xm es X.env)(f:(XV pos (Xm es X.env)).any (·.1)=wg)(h:t σ H fun L j=>sp L j Q E)
  (Y:∀j l e g,Inv X pj σ j l->CX1 X.prog X.w X.stack j l E e g->xe' e g):X3 (X4 X.prog X.w) X.A (eval (.Call (.Name x p) (e::es) [] pos) X.env) (EP X pj σ Q) xe' s:=by
 erw[ZR (VE I O P ?_ c)];erw[AL (h₀:=X.base) I.ok.mod.kin R (Yd (U pos pj s σ H _ (I.wish _) h) (λd l w=>?_) λ_ _ z=>XN z) W f];have⟨L,j,y,r,q⟩:=w;have y:Inv X pj σ j l:=y.unwish;have Z:(d++[]).length=ps.length:=by rw[Ze,<-r.length];erw[F.len _ _ _ _ q]
 have m:=T l d y.kIn Z;rw[Ze]at m;erw[⟨y.kIn,Vh (UK (F.run X.A X.stack l j ⟨d,[]⟩ d L Q E N y.env0 m r q) λr g w=>?_)⟩];cases r with
 |error e=>erw[Y j l e g y w]
 |ok A=>
  cases A with
  |ret u=>erw[y.after w]
  |next=>erw[XN w]
  |brk=>erw[XN w]
  |cont=>erw[XN w]
end
def E4{F:Addr}{T:Value}(h:veMro.contains T=wf):(Xt F::veMro).contains T=wf:=by rw[Vm,h,Vv]
section
variable{X:Cx}{a C F:Addr}{oe:Obj}
def J1(l:oe.cls=.ref C)(u:XCls X.K C (.ref F::veMro))(m:UA X.K C=wf):Yw (X.caught a oe) (.builtin "isinstance") (fun w H Q=>
  (∃j b,w=[.ref a,.ref j]/\(if b then Ws X.K (.ref C) j else Uz X.K C j)=wf/\Q (.bl b) H)\/(w=[.ref a,.ty "ValueError"]/\Q (.bl wf) H)):=by
 intro g s d H c y Q I r h;have z:=I.pinA;rcases h with⟨j,b,rfl,e,q⟩|⟨rfl,q⟩
 .match y,r with
  |[u1,u2],.cons h1 (.cons h2 .nil)=>
   cases h1;cases h2;erw[_bQ (K:=X.K) (s:=s) I.kIn u m (E4 (by decide+kernel)) (E4 (by decide+kernel)) z l e λt=>?_]
   erw[⟨.bl b,H,I.tok t,rfl,q⟩]
 .match y,r with
  |[u1,u2],.cons h1 (.cons h2 .nil)=>
   cases h1;cases h2;erw[_cL (K:=X.K) (s:=s) I.kIn u (E4 (by decide+kernel)) z l ⟨.bl wf,H,I,rfl,q⟩]
end
def E5(G:GI)(j:Scope)(n:Str):List Str->List Expr->Bool
 |[],l=>non0 l
 |c::cs,l=>(hd1 l).any λq=>(YU q.1).any λr=>(Yc r.1).any λf=>(the2 r.2.1).any λy=>(Yc y.1).any λv=>(Yc y.2).any λw=>
   non0 r.2.2.1&&decide (f=("isinstance":Str))&&glB j f&&G.bl.contains f&&decide (v=n)&&decide (w=c)&&glB j c&&E5 G j n cs q.2
section
variable{X:Cx}{a C F:Addr}{oe:Obj}{G:GI}{ni:Nat}{n:Str}{b:Str->Bool}
def _ok(p:oe.cls=.ref C)(P:XCls X.K C (.ref F::veMro))(R:UA X.K C=wf)(bls:∀x,G.bl.contains x=wf->X.mg x=we)(e:X.N[ni]?=wc n)(L:X.env.scope.names.lookup n=wc .local)(hd1:(n==("__debug__":Str))=wg)(hd2:(n==("__classdict__":Str))=wg):
  ∀(g:List Str)(j:List Expr),E5 G X.env.scope n g j=wf->(∀u∈g,(u="ValueError"/\X.mg u=we/\b u=wf)\/∃d,X.mg u=wc (.ref d)/\(if b u then Ws X.K (.ref C) d else Uz X.K C d)=wf)->
  PA (X.caught a oe) j (λy H Q=>y[ni]?=wc (wc (.ref a))/\Q (g.map λu=>V.bl (b u)) H)/\(Xm j X.env).all (λx=>!x.1)=wf:=by
 intro g
 induction g with
 |nil=>
  intro j h _;obtain rfl:=Y2 h;erw[⟨pa_nil.weak λy H Q t=>t.2,rfl⟩]
 |cons u g E=>
  intro j h T;replace h:=X5 h;have⟨⟨x,U⟩,J,h⟩:=h;obtain rfl:=Yo J;replace h:=X5 h;have⟨⟨f,l,ks,M⟩,S,h⟩:=h;obtain rfl:=_3 S;replace h:=X5 h;have⟨f,o,h⟩:=h;have⟨i,rfl⟩:=Yg o;replace h:=X5 h;have⟨⟨y1,y2⟩,h4,h⟩:=h;obtain rfl:=DK h4;replace h:=X5 h;have⟨v,h5,h⟩:=h;have⟨r,rfl⟩:=Yg h5;replace h:=X5 h;have⟨w,h6,h⟩:=h;have⟨z,rfl⟩:=Yg h6;simp only[Xs]at h;have⟨⟨⟨⟨⟨⟨⟨a1,a2⟩,a3⟩,W⟩,a5⟩,a6⟩,a7⟩,a8⟩:=h;obtain rfl:=Y2 a1;obtain rfl:=Xq a2;obtain rfl:=Xq a5;obtain rfl:=Xq a6;have⟨Y,Z,A⟩:=YL a3;have⟨B,D,e3⟩:=YL a7;have⟨ih,is⟩:=E U a8 λc p=>T c (XD _ p);erw[⟨?_,by show(!wg&&(Xm U X.env).all _)=wf;rw[is];rfl⟩]
  have pv:PE (X.caught a oe) (.Name v r) (tVar ni):=Bw e (.inl L) hd1 hd2;have hd:PE (X.caught a oe) (.Call (.Name ("isinstance":Str) i) [.Name v r,.Name w z] [] M) (fun y H Q=>y[ni]?=wc (wc (.ref a))/\Q (.bl (b w)) H):=by
   rcases T w (XZ ..)with⟨rfl,m,N⟩|⟨d,m,N⟩
   .have O:PE (X.caught a oe) (.Name ("ValueError":Str) z) (tC (.ty "ValueError")):=fun pj s y H Q I h=>U7 (X:=X.caught a oe) I B m (by decide+kernel:Ym ("ValueError":Str)=wc (.type "ValueError")) ⟨.ty "ValueError",H,I,rfl,h⟩ e3 D
    erw[(BB (J1 p P R) Y (bls _ W) GY (YT pv (YT O pa_nil)) A Z).weak λy H Q t=>?_];erw[⟨.ref a,t.1,.inr ⟨rfl,N▸t.2⟩⟩]
   .have O:PE (X.caught a oe) (.Name w z) (tC (.ref d)):=G4 (X:=X.caught a oe) B m rfl D;erw[(BB (J1 p P R) Y (bls _ W) GY (YT pv (YT O pa_nil)) A Z).weak λy H Q t=>?_];erw[⟨.ref a,t.1,.inl ⟨d,b w,rfl,N,t.2⟩⟩]
  erw[(YT hd ih).weak λy H Q t=>?_];erw[⟨t.1,t.1,t.2⟩]
end
end L2
namespace L2
set_option genInjectivity false
open PySem PySem.Spec PyProof.Rows
noncomputable def xsub(c j:Str):Bool:=decide (j="ValueError")||decide (j=c)
structure TryD where
 j:Nat
 e:IE
 es:IEs
 ni:Nat
 k:Nat
 cs:List Str
noncomputable def E6:Stmt->Option (Stmt×Str×Str×Stmt)
 |.Try [b] [.ExceptHandler (wc (.Name F _)) (wc n) [s] _] [] [] _=>wc (b,F,n,s)
 |_=>we
def _hV{st:Stmt}{q:Stmt×Str×Str×Stmt}(h:E6 st=wc q):∃l t j,st=.Try [q.1] [.ExceptHandler (wc (.Name q.2.1 l)) (wc q.2.2.1) [q.2.2.2] t] [] [] j:=by
 unfold E6 at h;split at h
 .cases h;erw[⟨_,_,_,rfl⟩]
 .cases h
inductive IT where|pl (s:IS)|tr (D:TryD)
section
variable(Φ:List (Str×SpM))(Ψ:List (Str×SpR))(c0:Str)
def wTry(D:TryD)(E:EndM)(j:Sm)(M:MH):Prop:=wE Φ D.e j M λv M1=>wEs Φ D.es j M1 λu M2=>∃f t,Ψ[D.j]?=wc (f,t)/\t (v::u) M2/\
 ∀l,SmM M2 l->∀p,l p=we->E.nx ((j.set D.k (wc (.ref p))).set D.ni we) (updM l p (.lst (D.cs.map λw=>.bl (xsub c0 w))))
def wT:IT->EndM->Sm->MH->Prop
 |.pl s=>wS Φ s
 |.tr D=>wTry Φ Ψ c0 D
def wTs:List IT->EndM->Sm->MH->Prop
 |[],D,j,M=>D.nx j M
 |s::r,D,j,M=>wT Φ Ψ c0 s {nx:=λj M=>wTs r D j M,rt:=D.rt,bk:=D.bk,ct:=D.ct} j M
end
section
variable{Φ:List (Str×SpM)}{Ψ:List (Str×SpR)}{c0:Str}
def J3(t:∀(j:Nat)f u,Φ[j]?=wc (f,u)->MonW u)(s:IT){D w:EndM} {y:Sm} {M:MH} (l:D.Le w)(h:wT Φ Ψ c0 s D y M):wT Φ Ψ c0 s w y M:=by
 cases s with
 |pl s=>erw[BR t s l h]
 |tr d=>erw[X6 t d.e (λv M1 z=>mon_es t d.es (λL M2 ⟨f,u,e,m,g⟩=>⟨f,u,e,m,λc s p r=>l.nx _ _ (g c s p r)⟩) z) h]
theorem E7(t:∀(j:Nat)f y,Φ[j]?=wc (f,y)->MonW y):∀(s:List IT){D w:EndM} {u:Sm} {M:MH},D.Le w->wTs Φ Ψ c0 s D u M->wTs Φ Ψ c0 s w u M
 |[],D,w,u,M,l,h=>by erw[l.nx _ _ h]
 |s::r,D,w,u,M,l,h=>by
  erw[J3 t s ?_ h];erw[⟨λu M z=>E7 t r l z,l.rt,l.bk,l.ct⟩]
end
def J4(G:GX)(j:Scope)(N:List Str)(D:TryD)(n:Str)(s:Stmt):Bool:=
 (V7 s).any λq=>(the1 q.1).any λt=>(Yc t).any λx=>(WY q.2).any λl=>decide (N[D.k]?=wc x)&&locB j x&&E5 G.g j n D.cs l
def J5(G:GX)(j:Scope)(N:List Str)(D:TryD)(st:Stmt):Bool:=(E6 st).any λq=>
 decide (q.2.1=G.xb)&&glB j G.xb&&decide (N[D.ni]?=wc q.2.2.1)&&decide (j.names.lookup q.2.2.1=wc .local)&& !(q.2.2.1==("__debug__":Str))&& !(q.2.2.1==("__classdict__":Str))&& !(D.k==D.ni)&&decide (D.cs.length<=100)&&
 D.cs.all (fun c=>decide (c="ValueError")||G.xc.contains c)&&(asEx q.1).any (fun v=>W0 G j N (.fn D.j D.e D.es) v)&&J4 G j N D q.2.2.1 q.2.2.2
def chkT(G:GX)(j:Scope)(N:List Str):IT->Stmt->Bool
 |.pl s,st=>chkS G.g j N s st
 |.tr D,st=>J5 G j N D st
def BX(G:GX)(j:Scope)(N:List Str):List IT->List Stmt->Bool
 |[],l=>non0 l
 |s::r,l=>(hd1 l).any λq=>chkT G j N s q.1&&BX G j N r q.2
structure Exs (K:X1)(mg:Str->Option Value)(c0 xb:Str)(xc:List Str):Prop where
 ve:mg "ValueError"=we
 bas:∃F C,mg xb=wc (.ref F)/\XCls K F veMro/\mg c0=wc (.ref C)/\Xn K Xi c0=wc (wc (.ref C))/\XCls K C (.ref F::veMro)/\UA K C=wf/\
  ∀c',xc.contains c'=wf->c'≠"ValueError"/\∃C',mg c'=wc (.ref C')/\(if decide (c'=c0)then Ws K (.ref C) C' else Uz K C C')=wf
structure FtR (P:Xk)(w:Xe)(K:X1)(mg:Str->Option Value)(base:Heap)(k:Nat)(G:GX)(Ψ:List (Str×SpR)):Prop where
 fns:∀(j:Nat)f,G.xf[j]?=wc f->∃sp,Ψ[j]?=wc (f,sp)/\∃fa fd ps,FnOk P w K mg base (CX1 P w) k fa fd ps (Uy K G.c0 sp)/\mg f=wc (.ref fa)/\Yt K (.ref fa)=wf/\Binds K fd ps []
 mts:∀(j:Nat)c m,G.xm.contains (j,c,m)=wf->∃f sp,Ψ[j]?=wc (f,sp)/\∃C fa fd ps,FnOk P w K mg base (CX1 P w) k fa fd ps (Uy K G.c0 sp)/\Xn K Xi c=wc (wc (.ref C))/\Cls K C/\Meth K C m fa/\Binds K fd ps []
structure Tok (X:Cx)(G:GX)(Φ:List (Str×SpM))(Ψ:List (Str×SpR)):Prop where
 c:Cok X.nox G.g Φ
 stk:X.stack=X.env::X.outer
 frm:X.env.frame=wc X.env.locals
 exs:Exs X.K X.mg G.c0 G.xb G.xc
 fns:∀(j:Nat)f,G.xf[j]?=wc f->∃sp,Ψ[j]?=wc (f,sp)/\∃k fa fd ps,Room k X.A/\FnOk X.prog X.w X.K X.mg X.base (CX1 X.prog X.w) k fa fd ps (Uy X.K G.c0 sp)/\X.mg f=wc (.ref fa)/\Yt X.K (.ref fa)=wf/\Binds X.K fd ps []
set_option tactic.hygienic true in
def RS.gone{K:X1}{H:Hp}{l:Sm}{y:St}(h:RS K H l y){m:MV}{v:V}(r:RM K H m v)(k t:Nat)(w:Option V):RS K H ((l.set k (wc m)).set t we) (((y.set t w).set k (wc v)).set t we):=by
 erw[⟨by simp[h.1],λj x e=>?_⟩]
 by_cases hj:t=j
 .subst hj;rw[Zd,if_pos rfl]at e;split at e<;>cases e
 .rw[Uk hj]at e ⊢;by_cases hk:k=j
  .subst hk;rw[Zd,if_pos rfl]at e;split at e
   .rename_i u
    cases e;erw[⟨v,?_,r⟩];rw[Zd,if_pos rfl,if_pos (by simpa [<-h.1]using u)]
   .cases e
  .rw[Uk hk]at e ⊢;rw[Uk hj];erw[h.2 j x e]
theorem RMs.bls{K:X1}{H:Hp}(b:Str->Bool):∀j:List Str,RMs K H (j.map λc=>.bl (b c)) (j.map λc=>.bl (b c))
 |[]=>.nil
 |_::j=>.cons (.bl _) (RMs.bls b j)
section
variable{X:Cx}{G:GX}{Φ:List (Str×SpM)}{Ψ:List (Str×SpR)}
def _eA(x:Tok X G Φ Ψ){D:TryD}{F C a:Addr}{c n:Str}{d:Obj}{st:Stmt}{r:List (Addr×Obj)}{N:St}{g:Hp}{O:X0}{Q:Flow->X0->Prop}(Z:d.cls=.ref C)(A:XCls X.K C (.ref F::veMro))(B:UA X.K C=wf)
  (E:∀m∈D.cs,(m="ValueError"/\X.mg m=we/\xsub c m=wf)\/∃P,X.mg m=wc (.ref P)/\(if xsub c m then Ws X.K (.ref C) P else Uz X.K C P)=wf)
  (R:X.N[D.ni]?=wc n)(T:X.env.scope.names.lookup n=wc .local)(J:(n==("__debug__":Str))=wg)(M:(n==("__classdict__":Str))=wg)(S:D.cs.length<=100)(h:J4 G X.env.scope X.N D n st=wf)(U:∀y,X.fn y=wf)
  (W:D.ni<N.length)(I:Inv (X.caught a d) r (N.set D.ni (wc (.ref a))) g O)
  (H:∀p,g p=we->∀e,Inv X r (((N.set D.ni (wc (.ref a))).set D.k (wc (.ref p))).set D.ni we) (upd g p (.lst (D.cs.map λm=>V.bl (xsub c m)))) e->Q .next e):
  X3 (X4 X.prog X.w) (X.A.mark (wc (.ref a))) (execs [st] X.env) (λf Y=>∃j w,Inv (X.caught a d) r j w Y/\∀e,Inv X r (j.set D.ni we) w e->Q f e) (λ_ _=>False) O:=by
 replace h:=X5 h;have⟨⟨ts,v⟩,o,h⟩:=h;have⟨p,rfl⟩:=VY o;replace h:=X5 h;have⟨t,i,h⟩:=h;obtain rfl:=_4 i;replace h:=X5 h;have⟨y,h3,h⟩:=h;have⟨px,rfl⟩:=Yg h3;replace h:=X5 h;have⟨l,h4,h⟩:=h;have⟨pl,rfl⟩:=DJ h4;simp only[Xs]at h;have⟨⟨a1,a2⟩,a3⟩:=h;have⟨L,_⟩:=_ok (X:=X) (a:=a) (oe:=d) (b:=xsub c) Z A B x.c.bls R T J M D.cs l a3 E;have ps:=Bz (X:=X.caught a d) (pos:=p) (j:=px) x.c.nd (Xq a1) (VU a2) (Gj (pos:=pl) L) rfl (.inl (U _));have:=PQ ps r O _ g {nx:=λj w=>∃p,g p=we/\j=(N.set D.ni (wc (.ref a))).set D.k (wc (.ref p))/\w=upd g p (.lst (D.cs.map λm=>V.bl (xsub c m))),rt:=λ_ _=>False} I ⟨by rw[Zd,if_pos rfl,if_pos W],by rw[X7];erw[XA S (by decide)],λp L=>⟨p,L,rfl,rfl⟩⟩
 erw[Yd this (λf Y q=>?_) λ_ _ z=>z];cases f with
 |next=>
  have⟨j,w,I',p,L,rfl,rfl⟩:=q;erw[⟨_,_,I',H p L⟩]
 |ret u=>have⟨_,_,_,_,_,z⟩:=q;erw[z.elim]
 |brk=>have⟨_,_,_,z⟩:=q;erw[z.elim]
 |cont=>have⟨_,_,_,z⟩:=q;erw[z.elim]
def sTry(x:Tok X G Φ Ψ)(hf:∀y,X.fn y=wf)(D:TryD){st:Stmt}(h:J5 G X.env.scope X.N D st=wf):PS X st (liSt X.K (wTry Φ Ψ G.c0 D)):=by
 replace h:=X5 h;have⟨⟨b,Fn,n,su⟩,Y,h⟩:=h;have⟨fp,P,pos,rfl⟩:=_hV Y;simp only[Xs,Vt]at h;have⟨⟨⟨⟨⟨⟨⟨⟨⟨⟨a1,a2⟩,Z⟩,a4⟩,a5⟩,a6⟩,a7⟩,a8⟩,a9⟩,j⟩,b2⟩:=h;have e1:Fn=G.xb:=Xq a1;subst e1;have⟨g1,g2,g3⟩:=YL a2;have⟨F,C,mF,cF,mC,nC,xC,xA,cs⟩:=x.exs.bas;have g:=x.c;replace j:=X5 j;have⟨v,h2,j⟩:=j;have⟨p,e⟩:=DV h2;have e:b=_:=e;subst e;replace j:=X5 j;have⟨⟨fx,args,ks,p2⟩,Y,j⟩:=j;obtain rfl:=_3 Y;replace j:=X5 j;have⟨⟨y,ys⟩,h3,j⟩:=j;obtain rfl:=Yo h3;rw[Xs]at j;have⟨h0,j⟩:=j;obtain rfl:=Y2 h0;replace j:=X5 j;have⟨f,h4,j⟩:=j;have⟨pf,e⟩:=Yg h4;have e:fx=_:=e;subst e;simp only[Xs]at j;have⟨⟨⟨c2,c3⟩,A⟩,c5⟩:=j;have⟨R,l,k3⟩:=YL c3;have⟨sp,hj,k,fa,fd,ps,hr,FO,hm,hk,hb⟩:=x.fns D.j f (Xq c2);have ha:PA X.nox (y::ys) (Zv (liE X.K (wE Φ D.e)) (liA X.K (wEs Φ D.es))):=YT (X:=X.nox) (sE D.e g A).pe (sA D.es g c5) (Y8 A);intro pj s σ H E I d;have⟨w,M,B,rh,d⟩:=d;have go:=λhx d=>_hT (xe':=λe s'=>X3 (X4 X.prog X.w) X.A (noteFrame e X.env) (λ_ r=>X3 (X4 X.prog X.w) X.A (setFlight e we) (λ_ L=>X3 (X4 X.prog X.w) X.A (handleBy e X.env [.ExceptHandler (wc (.Name G.xb fp)) (wc n) [su] P]) (SP X pj E) X.xe L) X.xe r) X.xe s') (Q:=λ_ _=>False) (p:=pf) (pos:=p2) (E:=λc _ N=>∃t,c=.ref t/\t=C/\∃T,Kp H N/\RH X.K T N/\∀p,T p=we->(liD X.K H E).nx ((w.set D.k (wc (.ref p))).set D.ni we) (updM T p (.lst (D.cs.map λm=>.bl (xsub G.c0 m))))) I FO hr R hm hk hb ha l (Y8 A) (_i (_5 (l:=p2) c5)).2 d hx;erw[wpAny_Try_except (Aq (wpAny_Expr_any (Yd (go ?_ ?_) (λu s1 ⟨v,H1,J,r1,q⟩=>q.elim) λ_ _ z=>z) I.quiet (DW rfl)))]
 .intro H1 s1 e s' J hc;erw[_kF J hc x.stk x.frm cF (λt N ⟨e,_⟩=>e▸xC) g1 mF g2 g.nd (Xq Z) (Xq a4) ?_];rintro a oe t N s6 O ⟨rfl,T,U,W,hR⟩ I6;erw[_eA x O xC xA (c:=G.c0) (λm S=>?_) (Xq Z) (Xq a4) a5 a6 (Xq a8) b2 hf ?_ I6 λp P s8 I8=>?_]
  .have:=Ul.mp a9 m S;rw[B8]at this;by_cases ev:m="ValueError"
   .subst ev;erw[.inl ⟨rfl,x.exs.ve,rfl⟩]
   .rcases this with z|z
    .erw[absurd (Xq z) ev]
    .have⟨_,t,o,q⟩:=cs m z;erw[.inr ⟨t,o,?_⟩];unfold xsub;rw[decide_eq_false ev,Bb];erw[q]
  .have:=(XF.mp (Xq Z)).1;rw[J.len];erw[this]
  .have l:=Kp.new P (.lst (D.cs.map λm=>V.bl (xsub G.c0 m)));erw[⟨_,_,I8,hR p (W.free P) _ _ (U.trans l) (RS.gone (B.mono (U.trans l)) (.ref p) _ _ _) (W.put l (RMs.bls _ _))⟩]
 .erw[⟨w,M,B,rh,X6 g.mon D.e (λv M1 q1=>?_) d⟩];intro u H1 R r1 i;erw[⟨w,M1,B.mono R,i,mon_es g.mon D.es (λvs M2 ⟨f',sp',e,q2,q3⟩=>?_) q1⟩];rw[hj]at e;cases e;intro us H2 l r2 rh2;erw[⟨v::vs,M2,.cons (r1.mono l) r2,rh2,q2,λt N M' e' U W s=>⟨t,rfl,?_,M',R.trans (l.trans U),W,q3 M' s⟩⟩];rw[nC]at e';cases e'
  rfl
def sT(x:Tok X G Φ Ψ)(l:∀y,X.fn y=wf)(j:IT){st:Stmt}(h:chkT G X.env.scope X.N j st=wf):PS X st (liSt X.K (wT Φ Ψ G.c0 j)):=by
 cases j with
 |pl s=>erw[PS.nox (sS s x.c l h)]
 |tr d=>erw[sTry x l d h]
theorem sTs(x:Tok X G Φ Ψ)(f:∀y,X.fn y=wf):∀(p:List IT){j:List Stmt},BX G X.env.scope X.N p j=wf->PSs X j (liSt X.K (wTs Φ Ψ G.c0 p))
 |[],j,h=>by
  obtain rfl:=Y2 h;erw[pss_nil.weak λD e H l=>?_];have⟨u,M,m,g,l⟩:=l;erw[l e H (Kp.refl _) m g]
 |s::r,j,h=>by
  replace h:=X5 h;have⟨⟨y,P⟩,L,h⟩:=h;obtain rfl:=Yo L;rw[Xs]at h;erw[(Bx (sT x f s h.1) (sTs x f r h.2)).weak λD e H l=>?_];have⟨u,M,m,g,l⟩:=l;erw[⟨u,M,m,g,?_⟩];erw[J3 x.c.mon s ?_ l];erw[⟨λt w z N R O d c=>?_,λv w z=>z,λt w z=>z,λt w z=>z⟩];erw[⟨t,w,d,c,E7 x.c.mon r (liD.on O) z⟩]
end
def clsB(K:X1)(C:Addr)(j:List Value):Bool:=match K.lookup C with
 |wc ⟨.type "type",_,.cls cd,sl⟩=>(match cd.mro,sl.toList with
  |.ref C'::bm',[_,_,_,_,wc (.builtin n),_]=>C'==C&&n=="ValueError.__new__"&& !cd.hasDel&&decide (bm'=j)&&nsOk K cd.ns
  |_,_=>wg)
 |_=>wg
set_option tactic.hygienic true in
def J7{K:X1}{C:Addr}{w:List Value}(q:clsB K C w=wf):XCls K C w:=by
 unfold clsB at q;split at q
 .rename_i R g y d
  split at q
  .rename_i T c f r p e n L z m
   simp only[Xs,beq_iff_eq,Vt,decide_eq_true_eq]at q;have⟨⟨⟨⟨rfl,rfl⟩,j⟩,rfl⟩,t⟩:=q;have⟨U,bs,N,W,Y,hd,Z,sub,A,O,P⟩:=g;dsimp only at z j t;subst z j;have u:y=#[f,r,p,e,wc (.builtin "ValueError.__new__"),L]:=by
    have⟨l⟩:=y;simp only at m;rw[m]
   subst u;erw[⟨_,_,_,_,_,_,_,_,_,_,_,_,_,_,_,d,t⟩]
  .cases q
 .cases q
noncomputable def A6(K:X1)(c:Str):Option Addr:=match Xn K Xi c with
 |wc (wc (.ref C))=>wc C
 |_=>we
def BY{K:X1}{c:Str}{C:Addr}(h:A6 K c=wc C):Xn K Xi c=wc (wc (.ref C)):=by
 unfold A6 at h;split at h
 .cases h;assumption
 .cases h
def exsB(K:X1)(l u:Str)(w:List Str):Bool:=(A6 K u).any fun F=>clsB K F veMro&&(A6 K l).any fun C=>clsB K C (.ref F::veMro)&&UA K C&&w.all fun j=>!decide (j="ValueError")&&(A6 K j).any fun t=>if decide (j=l)then Ws K (.ref C) t else Uz K C t
def _mZ{K:X1}{t:Str->Option Value}{u w:Str}{y:List Str}(e:exsB K u w y=wf)(v:Xn K Xi "ValueError"=wc we)(g:∀x v,Xn K Xi x=wc v->t x=v):Exs K t u w y:=by
 unfold exsB at e;have⟨F,d,e⟩:=X5 e;rw[Xs]at e;have⟨C,m,q⟩:=X5 e.2;simp only[Xs]at q;erw[⟨g _ _ v,F,C,g _ _ (BY d),J7 e.1,g _ _ (BY m),BY m,J7 q.1.1,q.1.2,λc j=>?_⟩];have z:=Ul.mp q.2 c (by simpa using j)
 rw[Xs,Vt,decide_eq_false_iff_not]at z;have⟨f,l,r⟩:=X5 z.2;erw[⟨z.1,f,g _ _ (BY l),r⟩]
def J8{P:Xk}{w:Xe}{K:X1}{e:Str->Option Value}{l:Heap}{G:GI}{L:List (Str×SpM)}{O:CXT}{t:Str}{z:Scope}{f:Addr}{N u:List Str}{k:Nat}{g:Value}{A:Xp}{y:List Env}{s:X0}{H:Hp}{E:XK}
  (S:FnScope N u z)(T:Fts P w K e l k G L)(p:Room k (A.deeper (envOfC t z s.heap.objs.size f g))):Cok (cxOf O P w K e l N t z f g A y s H E).nox G L:=
 ⟨(by have:=p.un;show(A.deeper _).units+70<cLine;lia),rfl,rfl,(by show(if z.kind.isAnnotationScope then Dh else z.kind)=.function;rw[S.kind];rfl),S.nd,T.bls,T.gls,T.fnn,T.mon,
  (λj f d R r=>let⟨fa,fd,u,F,hm,hk,hb⟩:=T.fns j f d R r;⟨k,fa,fd,u,p,F,hm,hk,hb⟩),
  (λj c m h=>let⟨f,d,r,C,fa,fd,u,F,hC,cl,hm,hb⟩:=T.mts j c m h;⟨f,d,r,k,C,fa,fd,u,p,F,hC,cl,hm,hb⟩),
  (λj c h=>let⟨f,d,r,k',C,fa,fd,u,hk,F,hC,hm,mk1,hb⟩:=T.mks j c h;⟨f,d,r,k',C,fa,fd,u,p.mono hk,F,hC,hm,mk1,hb⟩),T.cls⟩
section
variable{P:Xk}{w:Xe}{K:X1}{mg:Str->Option Value}{base:Heap}{G:GX}{Φ:List (Str×SpM)}{Ψ:List (Str×SpR)}{x qual:Str}{st:Stmt}{f:Addr}{fd:YV}{N ps:List Str}{k:Nat}
def Fun.okR{sp:SpR}(F:Fun K x qual st f fd)(S:FnScope N ps (Xz st))(T:Fts P w K mg base k G.g Φ)(O:FtR P w K mg base k G Ψ)(U:Exs K mg G.c0 G.xb G.xc)(u:IR)(hc:chkR G (Xz st) N u (Y7 st)=wf)
  (len:∀vs M,sp vs M->vs.length=ps.length)(h:∀vs M,sp vs M->wR Φ Ψ M u (Z6 N.length vs) M):FnOk P w K mg base (CX1 P w) (k+1) f fd ps (Uy K G.c0 sp):=by
 have⟨J,X,kV,W,v,o,y,i,Y,rfl,Z,z⟩:=F.ex;erw[Gu Z z S (λvs H Q E B=>?_) λA l s H vs Q E g d=>?_]
 .have⟨p,M,r,R,q,_⟩:=B;rw[<-r.length];erw[len _ _ q]
 have⟨p,M,r,R,q,L⟩:=d;have x:BW (cxOf (CX1 P w) P w K mg base N qual (Xz st) f y A l s H E) G Φ Ψ E:=
  ⟨J8 S T g,rfl,_oj,λn b H s a e C vs I t q=>_lu I t q,(λj f D=>let⟨sp,hj,fa,fd,ps,F,t,hk,hb⟩:=O.fns j f D;⟨sp,hj,k,fa,fd,ps,g,F,t,hk,hb⟩),
   (λj c m h=>let⟨f,sp,hj,C,fa,fd,ps,F,hC,cl,t,hb⟩:=O.mts j c m h;⟨f,sp,hj,k,C,fa,fd,ps,g,F,hC,cl,t,hb⟩),
   let⟨F,C,mF,cF,m1,n1,xC,_⟩:=U.bas;⟨C,F,m1,n1,cF,xC⟩⟩
 erw[⟨_,sR x (M0:=M) L (λ_=>rfl) u hc,Kp.refl _,Z6 N.length p,M,DX r,R,h p M q⟩]
def Fun.okT{sp:SpM}(F:Fun K x qual st f fd)(S:FnScope N ps (Xz st))(T:Fts P w K mg base k G.g Φ)(p:FtR P w K mg base k G Ψ)(e:Exs K mg G.c0 G.xb G.xc)(t:List IT)(hc:BX G (Xz st) N t (Y7 st)=wf)
  (len:∀vs M Q,sp vs M Q->vs.length=ps.length)(h:∀vs M Q,sp vs M Q->wTs Φ Ψ G.c0 t {nx:=λ_ M'=>Q .non M',rt:=Q} (Z6 N.length vs) M):FnOk P w K mg base CX0 (k+1) f fd ps (liSp K sp):=by
 erw[F.ok S (λvs H Q E u=>?_) λy A l s H vs Q E d u=>?_]
 .have⟨m,M,r,c,q⟩:=u;rw[<-r.length];erw[len _ _ _ q]
 have⟨m,M,r,c,q⟩:=u;have x:Tok (cxOf CX0 P w K mg base N qual (Xz st) f y A l s H E).nox G Φ Ψ:=
  ⟨J8 (O:=CX0) (E:=E) S T d,rfl,rfl,e,(λj f L=>let⟨sp,hj,fa,fd,ps,F,hm,hk,hb⟩:=p.fns j f L;⟨sp,hj,k,fa,fd,ps,d,F,hm,hk,hb⟩)⟩
 erw[⟨_,sTs x (λ_=>rfl) t hc,Z6 N.length m,M,DX r,c,?_⟩];erw[E7 T.mon t ?_ (h m M _ q)];erw[⟨λW M' z O Y R U g=>z _ _ R .non g,λv M' z=>z,λ_ _ z=>z.elim,λ_ _ z=>z.elim⟩]
end
section
variable{Φ:List (Str×SpM)}{Ψ:List (Str×SpR)}{M0:MH}{c0:Str}{D:EndM}{σ:Sm}{M:MH}
def r_pl{s:IS}{r:IR}:wR Φ Ψ M0 (.pl s r) σ M=wS Φ s {nx:=λσ M=>wR Φ Ψ M0 r σ M,rt:=λ_ _=>False} σ M:=rfl
def r_fn{k:IK}{j:Nat}{e:IE}{l:IEs}:wR Φ Ψ M0 (.st k (.fn j e l)) σ M=wE Φ e σ M λv M1=>wEs Φ l σ M1 λu M2=>∃f t,Ψ[j]?=wc (f,t)/\t (v::u) M2/\SmM M0 M2:=rfl
def r_mt{k:IK}{j:Nat}{c m:Str}{o e:IE}{l:IEs}:wR Φ Ψ M0 (.st k (.mt j c m o e l)) σ M=wE Φ o σ M λx M1=>∃a fs,x=.ref a/\M1 a=wc (.ins c fs)/\valM fs m=we/\wEs Φ (.cons e l) σ M1 λu M2=>∃f t,Ψ[j]?=wc (f,t)/\t (.ref a::u) M2/\SmM M0 M2:=rfl
def W3{c:IE}{a r:IR}:wR Φ Ψ M0 (.ite c a r) σ M=wE Φ c σ M λx M1=>∃k,x=.bl k/\(if k=wf then wR Φ Ψ M0 a σ M1 else wR Φ Ψ M0 r σ M1):=rfl
def t_pl{s:IS}{r:List IT}:wTs Φ Ψ c0 (.pl s::r) D σ M=wS Φ s {nx:=λσ M=>wTs Φ Ψ c0 r D σ M,rt:=D.rt,bk:=D.bk,ct:=D.ct} σ M:=rfl
def t_tr{j t k:Nat}{e:IE}{u:IEs}{w:List Str}{r:List IT}:wTs Φ Ψ c0 (.tr ⟨j,e,u,t,k,w⟩::r) D σ M=wE Φ e σ M λv M1=>wEs Φ u σ M1 λz M2=>∃f y,Ψ[j]?=wc (f,y)/\y (v::z) M2/\
 ∀l,SmM M2 l->∀p,l p=we->wTs Φ Ψ c0 r D ((σ.set k (wc (.ref p))).set t we) (updM l p (.lst (w.map λm=>.bl (xsub c0 m)))):=rfl
end
end L2
namespace My
open PySem L2
def ex3{j l t:Sort _}{p:j->l->t->Prop}(u:j)(w:l)(y:t)(h:p u w y):∃u w y,p u w y:=⟨u,w,y,h⟩
def ex4{j l t u:Sort _}{p:j->l->t->u->Prop}(w:j)(y:l)(z:t)(m:u)(h:p w y z m):∃w y z m,p w y z m:=⟨w,y,z,m,h⟩
def ex5{j l t u w:Sort _}{p:j->l->t->u->w->Prop}(y:j)(z:l)(m:t)(g:u)(d:w)(h:p y z m g d):∃y z m g d,p y z m g d:=⟨y,z,m,g,d,h⟩
def ex6{j l t u w y:Sort _}{p:j->l->t->u->w->y->Prop}(z:j)(m:l)(g:t)(d:u)(c:w)(f:y)(h:p z m g d c f):∃z m g d c f,p z m g d c f:=⟨z,m,g,d,c,f,h⟩
def ex8{j l t u w y z m:Sort _}{p:j->l->t->u->w->y->z->m->Prop}(g:j)(d:l)(c:t)(f:u)(r:w)(e:y)(L:z)(N:m)(h:p g d c f r e L N):∃g d c f r e L N,p g d c f r e L N:=⟨g,d,c,f,r,e,L,N,h⟩
def ex9{j l t u w y z m g:Sort _}{p:j->l->t->u->w->y->z->m->g->Prop}(d:j)(c:l)(f:t)(r:u)(e:w)(L:y)(N:z)(O:m)(P:g)(h:p d c f r e L N O P):∃d c f r e L N O P,p d c f r e L N O P:=⟨d,c,f,r,e,L,N,O,P,h⟩
def ex10{j l t u w y z m g d:Sort _}{p:j->l->t->u->w->y->z->m->g->d->Prop}(c:j)(f:l)(r:t)(e:u)(L:w)(N:y)(O:z)(P:m)(R:g)(T:d)(h:p c f r e L N O P R T):∃c f r e L N O P R T,p c f r e L N O P R T:=⟨c,f,r,e,L,N,O,P,R,T,h⟩
def ex11{t u w y z m g d c f l:Sort _}{p:t->u->w->y->z->m->g->d->c->f->l->Prop}(r:t)(e:u)(L:w)(N:y)(O:z)(P:m)(R:g)(T:d)(U:c)(W:f)(j:l)(h:p r e L N O P R T U W j):∃r e L N O P R T U W j,p r e L N O P R T U W j:=⟨r,e,L,N,O,P,R,T,U,W,j,h⟩
def ee3{u w y:Sort _}{p:u->w->y->Prop}{G:Prop}(h:∃j l t,p j l t)(k:∀j l t,p j l t->G):G:=by
 have⟨j,l,t,h⟩:=h;erw[k j l t h]
def ee4{w y z m:Sort _}{p:w->y->z->m->Prop}{G:Prop}(h:∃j l t u,p j l t u)(k:∀j l t u,p j l t u->G):G:=by
 have⟨j,l,t,u,h⟩:=h;erw[k j l t u h]
def ee5{y z m g d:Sort _}{p:y->z->m->g->d->Prop}{G:Prop}(h:∃j l t u w,p j l t u w)(k:∀j l t u w,p j l t u w->G):G:=by
 have⟨j,l,t,u,w,h⟩:=h;erw[k j l t u w h]
def ee6{z m g d c f:Sort _}{p:z->m->g->d->c->f->Prop}{G:Prop}(h:∃j l t u w y,p j l t u w y)(k:∀j l t u w y,p j l t u w y->G):G:=by
 have⟨j,l,t,u,w,y,h⟩:=h;erw[k j l t u w y h]
def ee10{c f r e L N O P R T:Sort _}{p:c->f->r->e->L->N->O->P->R->T->Prop}{G:Prop}(h:∃j l t u w y z m g d,p j l t u w y z m g d)(k:∀j l t u w y z m g d,p j l t u w y z m g d->G):G:=by
 have⟨j,l,t,u,w,y,z,m,g,d,h⟩:=h;erw[k j l t u w y z m g d h]
noncomputable def top(i:Nat):Stmt:=PySem.Challenge.pw_bellferry_k55_names_that_nothing_has.main.body.getD i (.Pass ⟨0,0,0,0⟩)
abbrev ZdL:Stmt:=top 13
abbrev ZdK:Stmt:=top 14
abbrev Zh0:Stmt:=top 15
abbrev Zli:Stmt:=top 16
abbrev Znp:Stmt:=top 17
abbrev Zlk:Stmt:=top 18
abbrev ZeY:Stmt:=top 20
abbrev Zc7:Stmt:=top 21
abbrev Zb9:Stmt:=top 23
abbrev Zj9:Stmt:=top 24
abbrev Zah:Stmt:=top 25
abbrev ZeW:Stmt:=top 26
abbrev Zja:Stmt:=top 27
abbrev Zle:Stmt:=top 28
abbrev Z87:Stmt:=Yx (top 30) 0
abbrev Z6j:Stmt:=Yx (top 30) 1
abbrev Z4t:Stmt:=Yx (top 30) 2
abbrev Zcd:Stmt:=Yx (top 30) 3
abbrev Z5g:Stmt:=Yx (top 30) 4
abbrev Z7A:Stmt:=Yx (top 31) 0
abbrev Z5D:Stmt:=Yx (top 31) 1
abbrev Z5C:Stmt:=Yx (top 31) 2
abbrev Z8Z:Stmt:=top 33
abbrev BZ:Stmt:=top 34
abbrev C0:Stmt:=top 35
abbrev ZeV:Stmt:=top 36
abbrev Z8X:Stmt:=top 37
abbrev C1:Stmt:=top 38
abbrev Zld:Stmt:=top 40
abbrev Z90:Stmt:=top 41
abbrev Zad:Stmt:=top 42
abbrev Zjb:Stmt:=top 43
abbrev ZeX:Stmt:=top 54
abbrev Zag:Stmt:=top 55
abbrev Z7w:Stmt:=top 56
abbrev Z4s:Stmt:=top 57
abbrev Z5B:Stmt:=top 58
abbrev Zae:Stmt:=top 59
abbrev Zaf:Stmt:=top 60
abbrev Z86:Stmt:=top 61
abbrev Z7x:Stmt:=top 62
abbrev Z8Y:Stmt:=top 63
abbrev Z5A:Stmt:=top 64
abbrev Z5f:Stmt:=top 65
abbrev C2:Stmt:=top 66
abbrev Zlf:Stmt:=top 67
abbrev Zb7:Stmt:=top 68
abbrev Zc9:Stmt:=top 69
abbrev Zb6:Stmt:=top 72
abbrev Zb8:Stmt:=top 73
abbrev Zc8:Stmt:=top 74
abbrev Z94:Stmt:=Yx (top 75) 0
abbrev ZdN:Stmt:=Yx (top 75) 1
abbrev Z7z:Stmt:=Yx (top 75) 2
abbrev Zcg:Stmt:=Yx (top 75) 3
abbrev Zbb:Stmt:=Yx (top 75) 4
abbrev Zce:Stmt:=Yx (top 75) 5
abbrev Z7y:Stmt:=Yx (top 75) 6
abbrev Zch:Stmt:=Yx (top 75) 7
abbrev Zcf:Stmt:=Yx (top 75) 8
abbrev Z93:Stmt:=top 77
abbrev Zcc:Stmt:=top 79
abbrev Zca:Stmt:=top 80
abbrev Zcb:Stmt:=top 81
abbrev Zaj:Stmt:=top 82
abbrev Zai:Stmt:=top 83
abbrev Zba:Stmt:=top 84
abbrev ZdM:Stmt:=top 85
abbrev Z92:Stmt:=top 86
abbrev Z91:Stmt:=top 87
abbrev J9:Stmt:=top 88
noncomputable def GB:List Str:=["ValueError","all","bool","dict","int","isinstance","len","list","max","min","range","set","sorted","tuple"]
noncomputable def GL:List (Str×Int):=[("MOST_WIDTH",64),("MOST_LETTERS",8),("MOST_ISLANDS",5),("MOST_FERRIES",6),("MOST_VARS",6),("MOST_STEPS",12),("MOST_PARTS",30),("MOST_DEPTH",8),("MOST_K",3),("MOST_STAGES",3),("BITS_A_FERRY",8)]
noncomputable def GC:List (Str×Str):=[("Side","turn"),("Side","total"),("Side","sign"),("Side","sight"),("Ferry","places"),("Ferry","giver"),("Ferry","taker"),("Run","world"),("Run","moment"),("Run","next_numbers"),("Run","words_now"),("Run","steps_so_far"),("Run","boats"),("Run","given_so_far"),("Run","taken_so_far")]
def scB(N:List Str)(n:Nat)(j:Scope):Prop:=j.kind=.function/\j.isCoroutine=wg/\j.isGenerator=wg/\N.Nodup/\(∀x∈N.take n,j.names.lookup x=wc .local\/j.names.lookup x=wc .cell)/\∀y∈j.names,y.2≠.free
instance{N:List Str} {n:Nat} {j:Scope}:Decidable (scB N n j):=by unfold scB;infer_instance
def scB.fs{N:List Str}{n:Nat}{j:Scope}(h:scB N n j):FnScope N (N.take n) j:=⟨h.1,h.2.1,h.2.2.1,h.2.2.2.1,(by rw[Ys,<-List.take_take,CN]),h.2.2.2.2.1,h.2.2.2.2.2⟩
abbrev FE5(P:Xk)(w:Xe)(K:X1)(t:Str->Option Value)(j:Heap)(k:Nat)(x:Str)(z:SpM):Prop:=∃l u y,FnOk P w K t j CX0 k l u y (liSp K z)/\t x=wc (.ref l)/\Yt K (.ref l)=wf/\Binds K u y []
structure FO5 (P:Xk)(w:Xe)(K:X1)(mg:Str->Option Value)(base:Heap)(k:Nat)(x:Str)(sp:SpM):Prop where
 m:MonW sp
 e:FE5 P w K mg base k x sp
structure FL (P:Xk)(w:Xe)(K:X1)(mg:Str->Option Value)(base:Heap)(k:Nat)(Φ:List (Str×SpM)):Prop where
 m:∀p∈Φ,MonW p.2
 e:∀p∈Φ,FE5 P w K mg base k p.1 p.2
abbrev FM5(P:Xk)(w:Xe)(K:X1)(y:Str->Option Value)(j:Heap)(k:Nat)(c m:Str)(z:SpM):Prop:=∃C l t u,FnOk P w K y j CX0 k l t u (liSp K z)/\Xn K Xi c=wc (wc (.ref C))/\Cls K C/\Meth K C m l/\Binds K t u []
abbrev FI5(P:Xk)(w:Xe)(K:X1)(l:Str->Option Value)(j:Heap)(k:Nat)(c:Str)(z:SpM):Prop:=∃C t u y,FnOk P w K l j CX0 k t u y (liSp K z)/\Xn K Xi c=wc (wc (.ref C))/\l c=wc (.ref C)/\Mk K C t/\Binds K u y []
def Fb(K:X1)(x:Str)(st:Stmt):Prop:=∃f d,Fn1 K x st f d
def MB(K:X1)(C:Addr)(m q:Str)(st:Stmt):Prop:=∃f d,Mt1 K C m q st f d
abbrev SpOk(l:SpM)(t:List (Str×SpM))(u:ISs)(n:Nat)(N:List Str):Prop:=∀j M Q,l j M Q->j.length=(N.take n).length/\wSs t u {nx:=λ_ w=>Q .non w,rt:=Q} (Z6 N.length j) M
structure ClB (K:X1)(C:Addr):Prop where
 c:Cls K C
 m:CZ K C=wf
 k:Yt K (.ref C)=wf
abbrev bnd(x q:Str)(st:Stmt)(u:List Str):Prop:=∀(kV j w:Value)(y:Option Addr)(l z:Value)(t:List Value),t.length=u.length->bindArgs (ZC x q (Uv st) (Y7 st) (Xz st) .none kV j w y l z) ⟨t,[]⟩=pure (u.zip t)
section
variable{k:Nat}{P:Xk}{w:Xe}{K:X1}{mg:Str->Option Value}{base:Heap}{x:Str}{sp:SpM}{st:Stmt}{Φ:List (Str×SpM)}{G:GI}{ir:ISs}
def f0:FL P w K mg base k []:=⟨nl0,λ_ h=>nomatch h⟩
def fc{j:Nat}(o:FO5 P w K mg base j x sp)(r:FL P w K mg base k Φ)(l:j<=k:=by decide):FL P w K mg base k ((x,sp)::Φ):=by
 have⟨a,b,c,d,e⟩:=o.e;erw[⟨fMc o.m r.m,fMc ⟨a,b,c,d.mono l,e⟩ r.e⟩]
def Fb.ok(H:Fb K x st)(g:∀x v,Xn K Xi x=wc v->mg x=v)(m:MonW sp)(n:Nat)(N:List Str)(T:Fts P w K mg base k G Φ)(ir:ISs)(h:SpOk sp Φ ir n N)
  (hc:chkSs G (Xz st) N ir (Y7 st)=wf/\scB N n (Xz st):=by decide+kernel)(b:bnd x x st (N.take n):=by first|erw[λ_ _ _ _ _ _=>us1 λ_=>rfl]|erw[λ_ _ _ _ _ _=>us2 λ_ _=>rfl]|erw[λ_ _ _ _ _ _=>us3 λ_ _ _=>rfl]|erw[λ_ _ _ _ _ _=>us4 λ_ _ _ _=>rfl]|erw[λ_ _ _ _ _ _=>us5 λ_ _ _ _ _=>rfl]):FO5 P w K mg base (k+1) x sp:=by
 have⟨f,d,F⟩:=H;erw[⟨m,_,_,_,F.F.okM hc.2.fs T ir hc.1 (λj M Q z=>(h j M Q z).1) (λj M Q z=>(h j M Q z).2),g _ _ F.a,F.F.kp,F.F.binds b⟩]
def Fb.nn(H:Fb K x st)(g:∀x v,Xn K Xi x=wc v->mg x=v)(l:List Str)(no:∀t M Q,¬sp t M Q)(b:bnd x x st l:=by first|erw[λ_ _ _ _ _ _=>us1 λ_=>rfl]|erw[λ_ _ _ _ _ _=>us2 λ_ _=>rfl]|erw[λ_ _ _ _ _ _=>us3 λ_ _ _=>rfl]|erw[λ_ _ _ _ _ _=>us4 λ_ _ _ _=>rfl]|erw[λ_ _ _ _ _ _=>us5 λ_ _ _ _ _=>rfl]):FO5 P w K mg base k x sp:=by
 have⟨f,d,F⟩:=H;erw[⟨λ_ h=>absurd h (no _ _ _),f,d,l,⟨λ_ _ _ _ j=>by have⟨_,_,_,_,h⟩:=j;erw[absurd h (no _ _ _)],λ_ _ _ _ _ _ _ _ _ _ _ _ _ j=>by have⟨_,_,_,_,h⟩:=j;erw[absurd h (no _ _ _)]⟩,g _ _ F.a,F.F.kp,F.F.binds b⟩]
def MB.ok{C:Addr}{c m q:Str}(H:MB K C m q st)(t:Xn K Xi c=wc (wc (.ref C)))(l:ClB K C)(n:Nat)(N:List Str)(T:Fts P w K mg base k G Φ)(ir:ISs)(h:SpOk sp Φ ir n N)
  (hc:chkSs G (Xz st) N ir (Y7 st)=wf/\scB N n (Xz st):=by decide+kernel)(b:bnd m q st (N.take n):=by first|erw[λ_ _ _ _ _ _=>us1 λ_=>rfl]|erw[λ_ _ _ _ _ _=>us2 λ_ _=>rfl]|erw[λ_ _ _ _ _ _=>us3 λ_ _ _=>rfl]|erw[λ_ _ _ _ _ _=>us4 λ_ _ _ _=>rfl]|erw[λ_ _ _ _ _ _=>us5 λ_ _ _ _ _=>rfl]):FM5 P w K mg base (k+1) c m sp:=by
 have⟨f,d,F⟩:=H;erw[ex4 _ _ _ _ ⟨F.F.okM hc.2.fs T ir hc.1 (λj M Q z=>(h j M Q z).1) (λj M Q z=>(h j M Q z).2),t,l.c,F.M,F.F.binds b⟩]
def MB.oi{C:Addr}{c q:Str}(H:MB K C "__init__" q st)(t:Xn K Xi c=wc (wc (.ref C)))(l:ClB K C)(g:∀x v,Xn K Xi x=wc v->mg x=v)(n:Nat)(N:List Str)(T:Fts P w K mg base k G Φ)(ir:ISs)(h:SpOk sp Φ ir n N)
  (u:chkSs G (Xz st) N ir (Y7 st)=wf/\scB N n (Xz st):=by decide+kernel)(b:bnd "__init__" q st (N.take n):=by first|erw[fun _ _ _ _ _ _=>us1 fun _=>rfl]|erw[fun _ _ _ _ _ _=>us2 fun _ _=>rfl]|erw[fun _ _ _ _ _ _=>us3 fun _ _ _=>rfl]|erw[fun _ _ _ _ _ _=>us4 fun _ _ _ _=>rfl]):FI5 P w K mg base (k+1) c sp:=by
 have⟨f,d,F⟩:=H;erw[ex4 _ _ _ _ ⟨F.F.okM u.2.fs T ir u.1 (λj M Q z=>(h j M Q z).1) (λj M Q z=>(h j M Q z).2),t,g _ _ t,⟨l.m,F.M.at_,F.M.fn,l.k⟩,F.F.binds b⟩]
def fM{j:Nat}{c m:Str}(o:FM5 P w K mg base j c m sp)(l:j<=k:=by decide):FM5 P w K mg base k c m sp:=by
 have⟨a,b,c,d,e,f⟩:=o;erw[ex4 a b c d ⟨e.mono l,f⟩]
def fI{j:Nat}{c:Str}(o:FI5 P w K mg base j c sp)(l:j+1<=k:=by decide):∃t C u y z,t+1<=k/\FnOk P w K mg base CX0 t u y z (liSp K sp)/\Xn K Xi c=wc (wc (.ref C))/\mg c=wc (.ref C)/\Mk K C u/\Binds K y z []:=by
 have⟨a,b,c,d,e⟩:=o;erw[ex5 _ a b c d ⟨l,e⟩]
end
noncomputable abbrev XO:Str:="Unknown"
noncomputable abbrev XB:Str:="FerryError"
noncomputable abbrev XC:List Str:=["Unknown","NoName","NoFerry"]
abbrev RE5(P:Xk)(w:Xe)(K:X1)(t:Str->Option Value)(j:Heap)(k:Nat)(x:Str)(z:SpR):Prop:=∃l u y,FnOk P w K t j (CX1 P w) k l u y (Uy K XO z)/\t x=wc (.ref l)/\Yt K (.ref l)=wf/\Binds K u y []
abbrev RM5(P:Xk)(w:Xe)(K:X1)(y:Str->Option Value)(j:Heap)(k:Nat)(c m:Str)(z:SpR):Prop:=∃C l t u,FnOk P w K y j (CX1 P w) k l t u (Uy K XO z)/\Xn K Xi c=wc (wc (.ref C))/\Cls K C/\Meth K C m l/\Binds K t u []
section
variable{k:Nat}{P:Xk}{w:Xe}{K:X1}{mg:Str->Option Value}{base:Heap}{x:Str}{st:Stmt}{Φ:List (Str×SpM)}{Ψ:List (Str×SpR)}{G:GI}{xf:List Str}{xm:List (Nat×Str×Str)}
def r0:FtR P w K mg base k ⟨G,[],[],XO,XB,XC⟩ []:=⟨(λ_ _ h=>nomatch h),λ_ _ _ h=>nomatch h⟩
def r1{j:Nat}{t:SpR}(o:RE5 P w K mg base j x t)(l:j<=k:=by decide):FtR P w K mg base k ⟨G,[x],[],XO,XB,XC⟩ [(x,t)]:=by
 erw[⟨λi f h=>?_,λ_ _ _ h=>nomatch h⟩];have⟨a,b,c,d,e⟩:=o;cases i with
 |zero=>cases h;erw[⟨t,rfl,a,b,c,d.mono l,e⟩]
 |succ i=>cases h
def rm(h:∀q∈xm,∃f l,Ψ[q.1]?=wc (f,l)/\RM5 P w K mg base k q.2.1 q.2.2 l):FtR P w K mg base k ⟨G,[],xm,XO,XB,XC⟩ Ψ:=⟨(λ_ _ h=>nomatch h),λj c m z=>h (j,c,m) (by simpa using z)⟩
def rM{j:Nat}{c m:Str}{t:SpR}(o:RM5 P w K mg base j c m t)(l:j<=k:=by decide):RM5 P w K mg base k c m t:=by
 have⟨a,b,c,d,e,f⟩:=o;erw[ex4 a b c d ⟨e.mono l,f⟩]
theorem Fb.okR{sp:SpR}(H:Fb K x st)(g:∀x v,Xn K Xi x=wc v->mg x=v)(n:Nat)(N:List Str)(T:Fts P w K mg base k G Φ)(l:FtR P w K mg base k ⟨G,xf,xm,XO,XB,XC⟩ Ψ)(t:Exs K mg XO XB XC)(j:IR)(h:∀vs M,sp vs M->vs.length=(N.take n).length/\wR Φ Ψ M j (Z6 N.length vs) M)
  (hc:chkR ⟨G,xf,xm,XO,XB,XC⟩ (Xz st) N j (Y7 st)=wf/\scB N n (Xz st):=by decide+kernel)(b:bnd x x st (N.take n):=by first|erw[λ_ _ _ _ _ _=>us1 λ_=>rfl]|erw[λ_ _ _ _ _ _=>us2 λ_ _=>rfl]|erw[λ_ _ _ _ _ _=>us3 λ_ _ _=>rfl]|erw[λ_ _ _ _ _ _=>us4 λ_ _ _ _=>rfl]):RE5 P w K mg base (k+1) x sp:=by
 have⟨f,d,F⟩:=H;erw[ex3 _ _ _ ⟨F.F.okR hc.2.fs T l t j hc.1 (λvs M z=>(h vs M z).1) (λvs M z=>(h vs M z).2),g _ _ F.a,F.F.kp,F.F.binds b⟩]
theorem MB.okR{sp:SpR}{C:Addr}{c m q:Str}(H:MB K C m q st)(t:Xn K Xi c=wc (wc (.ref C)))(l:ClB K C)(n:Nat)(N:List Str)(T:Fts P w K mg base k G Φ)(u:FtR P w K mg base k ⟨G,xf,xm,XO,XB,XC⟩ Ψ)(y:Exs K mg XO XB XC)(j:IR)(h:∀vs M,sp vs M->vs.length=(N.take n).length/\wR Φ Ψ M j (Z6 N.length vs) M)
  (hc:chkR ⟨G,xf,xm,XO,XB,XC⟩ (Xz st) N j (Y7 st)=wf/\scB N n (Xz st):=by decide+kernel)(b:bnd m q st (N.take n):=by first|erw[λ_ _ _ _ _ _=>us1 λ_=>rfl]|erw[λ_ _ _ _ _ _=>us2 λ_ _=>rfl]|erw[λ_ _ _ _ _ _=>us3 λ_ _ _=>rfl]|erw[λ_ _ _ _ _ _=>us4 λ_ _ _ _=>rfl]):RM5 P w K mg base (k+1) c m sp:=by
 have⟨f,d,F⟩:=H;erw[ex4 _ _ _ _ ⟨F.F.okR hc.2.fs T u y j hc.1 (λvs M z=>(h vs M z).1) (λvs M z=>(h vs M z).2),t,l.c,F.M,F.F.binds b⟩]
theorem Fb.okT{sp:SpM}(H:Fb K x st)(g:∀x v,Xn K Xi x=wc v->mg x=v)(m:MonW sp)(n:Nat)(N:List Str)(T:Fts P w K mg base k G Φ)(l:FtR P w K mg base k ⟨G,xf,xm,XO,XB,XC⟩ Ψ)(t:Exs K mg XO XB XC)(j:List IT)(h:∀vs M Q,sp vs M Q->vs.length=(N.take n).length/\wTs Φ Ψ XO j {nx:=λ_ M'=>Q .non M',rt:=Q} (Z6 N.length vs) M)
  (hc:BX ⟨G,xf,xm,XO,XB,XC⟩ (Xz st) N j (Y7 st)=wf/\scB N n (Xz st):=by decide+kernel)(b:bnd x x st (N.take n):=by first|erw[λ_ _ _ _ _ _=>us1 λ_=>rfl]|erw[λ_ _ _ _ _ _=>us2 λ_ _=>rfl]|erw[λ_ _ _ _ _ _=>us3 λ_ _ _=>rfl]|erw[λ_ _ _ _ _ _=>us4 λ_ _ _ _=>rfl]):FO5 P w K mg base (k+1) x sp:=by
 have⟨f,d,F⟩:=H;erw[⟨m,_,_,_,F.F.okT hc.2.fs T l t j hc.1 (λvs M Q z=>(h vs M Q z).1) (λvs M Q z=>(h vs M Q z).2),g _ _ F.a,F.F.kp,F.F.binds b⟩]
end
structure En where
 P:Xk
 w:Xe
 K:X1
 mg:Str->Option Value
 base:Heap
 C_Side:Addr
 C_Ferry:Addr
 C_Run:Addr
abbrev FO(E:En)(k:Nat)(x:Str)(j:SpM):Prop:=FO5 E.P E.w E.K E.mg E.base k x j
abbrev FI(E:En)(k:Nat)(x:Str)(j:SpM):Prop:=FI5 E.P E.w E.K E.mg E.base k x j
abbrev FM(E:En)(k:Nat)(c m:Str)(j:SpM):Prop:=FM5 E.P E.w E.K E.mg E.base k c m j
abbrev RE(E:En)(k:Nat)(x:Str)(j:SpR):Prop:=RE5 E.P E.w E.K E.mg E.base k x j
abbrev RM(E:En)(k:Nat)(c m:Str)(sp:SpR):Prop:=RM5 E.P E.w E.K E.mg E.base k c m sp
structure TxF (K:X1):Prop where
 bN:Fb K "is_whole" ZdL
 aE:Fb K "is_width" ZdK
 c8:Fb K "two_to" Zh0
 br:Fb K "fits" Zli
 aL:Fb K "cut" Znp
 cf:Fb K "amid" Zlk
 aV:Fb K "code_of" ZeY
 bh:Fb K "number_of" Zc7
 aF:Fb K "first_sign" Zb9
 aY:Fb K "shown" Zj9
 b8:Fb K "first_sight" Zah
 bw:Fb K "sampled" ZeW
 bT:Fb K "moved" Zja
 b9:Fb K "used" Zle
 ce:Fb K "parts_within" Z8Z
 ay:Fb K "size_of" BZ
 aA:Fb K "names_read" C0
 bO:Fb K "vars_in" ZeV
 bM:Fb K "worth_of_two" Z8X
 aq:Fb K "worth" C1
 c9:Fb K "wish" Zld
 bF:Fb K "number_after" Z90
 bH:Fb K "words_after" Zad
 bU:Fb K "after" Zjb
 bz:Fb K "is_name" ZeX
 aK:Fb K "refuse_name" Zag
 ax:Fb K "refuse_unknown" Z7w
 aW:Fb K "refuse_ferry_names" Z4s
 bv:Fb K "refuse_variables" Z5B
 bG:Fb K "refuse_term" Zae
 aD:Fb K "refuse_step" Zaf
 bb:Fb K "refuse_island" Z86
 bZ:Fb K "refuse_islands" Z7x
 aR:Fb K "refuse_ferry" Z8Y
 bW:Fb K "refuse_wrong_end" Z5A
 aP:Fb K "refuse_wrong_ends" Z5f
 ak:Fb K "frozen" C2
 bo:Fb K "made" Zlf
 ao:Fb K "one_called" Zb7
 aw:Fb K "island_of" Zc9
 aU:Fb K "what_alone" Zb6
 aC:Fb K "is_wish_of" Zb8
 aQ:Fb K "looked_up" Zc8
 bu:Fb K "_law_cell_at" Z93
 aI:Fb K "_law_name" Zcc
 bB:Fb K "_law_term" Zca
 cm:Fb K "_law_step" Zcb
 bI:Fb K "_law_island" Zaj
 bp:Fb K "_law_things" Zai
 b0:Fb K "_law_rings" Zba
 aS:Fb K "_law_ask" ZdM
 bE:Fb K "_law_refused" Z92
 aJ:Fb K "_law_strange" Z91
 cj:Fb K "law" J9
 bs:∀x∈GB,Xn K Xi x=wc we
structure TxM (K:X1)(a1 a2 a3:Addr):Prop where
 ag:Xn K Xi "Side"=wc (wc (.ref a1))
 ai:Xn K Xi "Ferry"=wc (wc (.ref a2))
 ac:Xn K Xi "Run"=wc (wc (.ref a3))
 ae:ClB K a1
 aj:ClB K a2
 aa:ClB K a3
 aN:Y0 K (.ref a1) "turn"=wc we
 aT:Y0 K (.ref a1) "total"=wc we
 bj:Y0 K (.ref a1) "sign"=wc we
 aX:Y0 K (.ref a1) "sight"=wc we
 bD:Y0 K (.ref a2) "places"=wc we
 bc:Y0 K (.ref a2) "giver"=wc we
 aZ:Y0 K (.ref a2) "taker"=wc we
 b7:Y0 K (.ref a3) "world"=wc we
 cb:Y0 K (.ref a3) "moment"=wc we
 bR:Y0 K (.ref a3) "next_numbers"=wc we
 ck:Y0 K (.ref a3) "words_now"=wc we
 bK:Y0 K (.ref a3) "steps_so_far"=wc we
 bY:Y0 K (.ref a3) "boats"=wc we
 c7:Y0 K (.ref a3) "given_so_far"=wc we
 bP:Y0 K (.ref a3) "taken_so_far"=wc we
 bX:MB K a1 "__init__" "Side.__init__" Z87
 ci:MB K a1 "ring_ahead" "Side.ring_ahead" Z6j
 be:MB K a1 "less_the_seen" "Side.less_the_seen" Z4t
 bQ:MB K a1 "grow" "Side.grow" Zcd
 bL:MB K a1 "show_and_see" "Side.show_and_see" Z5g
 bA:MB K a2 "__init__" "Ferry.__init__" Z7A
 bV:MB K a2 "ring_giver" "Ferry.ring_giver" Z5D
 aM:MB K a2 "ring_taker" "Ferry.ring_taker" Z5C
 aO:MB K a3 "__init__" "Run.__init__" Z94
 aB:MB K a3 "ring" "Run.ring" ZdN
 bq:MB K a3 "ring_ferry" "Run.ring_ferry" Z7z
 bC:MB K a3 "go_on" "Run.go_on" Zcg
 aG:MB K a3 "number" "Run.number" Zbb
 bJ:MB K a3 "words" "Run.words" Zce
 bS:MB K a3 "steps_done" "Run.steps_done" Z7y
 aH:MB K a3 "given" "Run.given" Zch
 bf:MB K a3 "taken" "Run.taken" Zcf
structure Txt (E:En):Prop extends TxF E.K,TxM E.K E.C_Side E.C_Ferry E.C_Run where
 g:∀x v,Xn E.K Xi x=wc v->E.mg x=v
 gl:∀p∈GL,∃tk,Xn E.K Xi p.1=wc (wc (.int p.2 tk))
 ex:exsB E.K XO XB XC=wf
def Txt.xo{E:En}(T:Txt E):Exs E.K E.mg XO XB XC:=_mZ T.ex (T.bs _ (by decide+kernel)) T.g
section
variable{k:Nat}{P:Xk}{w:Xe}{base:Heap}{E:En}{Φ Ψ Χ:List (Str×SpM)}
def _ou(T:Txt E):∀q∈GC,∃C,Xn E.K Xi q.1=wc (wc (.ref C))/\Cls E.K C/\NoAttr E.K C q.2:=(fMc ⟨_,T.ag,T.ae.c,T.aN⟩ (fMc ⟨_,T.ag,T.ae.c,T.aT⟩ (fMc ⟨_,T.ag,T.ae.c,T.bj⟩ (fMc ⟨_,T.ag,T.ae.c,T.aX⟩ (fMc ⟨_,T.ai,T.aj.c,T.bD⟩ (fMc ⟨_,T.ai,T.aj.c,T.bc⟩ (fMc ⟨_,T.ai,T.aj.c,T.aZ⟩ (fMc ⟨_,T.ac,T.aa.c,T.b7⟩ (fMc ⟨_,T.ac,T.aa.c,T.cb⟩ (fMc ⟨_,T.ac,T.aa.c,T.bR⟩ (fMc ⟨_,T.ac,T.aa.c,T.ck⟩ (fMc ⟨_,T.ac,T.aa.c,T.bK⟩ (fMc ⟨_,T.ac,T.aa.c,T.bY⟩ (fMc ⟨_,T.ac,T.aa.c,T.c7⟩ (fMc ⟨_,T.ac,T.aa.c,T.bP⟩ nl0)))))))))))))))
def mC(T:Txt E)(Χ Ψ:List (Str×SpM))(M1:List (Nat×Str×Str))(M2:List (Nat×Str))(L:FL P w E.K E.mg base k Φ)(m:∀p∈Ψ,MonW p.2)(N:∀q∈M1,∃f j,Χ[q.1]?=wc (f,j)/\FM5 P w E.K E.mg base k q.2.1 q.2.2 j)(O:∀q∈M2,∃f j,Χ[q.1]?=wc (f,j)/\∃l C t u y,l+1<=k/\FnOk P w E.K E.mg base CX0 l t u y (liSp E.K j)/\Xn E.K Xi q.2=wc (wc (.ref C))/\E.mg q.2=wc (.ref C)/\Mk E.K C t/\Binds E.K u y [])(e:Φ++Ψ=Χ:=by rfl):Fts P w E.K E.mg base k ⟨GB,GL,Φ.map (·.1),M1,M2,GC⟩ Χ:=
 _mt e (λx h=>T.g _ _ (T.bs x h)) (λp h=>(T.gl p h).imp λ_ e=>T.g _ _ e) rfl (e▸List.forall_mem_append.2 ⟨L.m,m⟩) L.e N O (_ou T)
def fC(T:Txt E)(L:FL P w E.K E.mg base k Φ):Fts P w E.K E.mg base k ⟨GB,GL,Φ.map (·.1),[],[],GC⟩ Φ:=mC T Φ [] [] [] L nl0 nl0 nl0 (Ze Φ)
end
noncomputable abbrev iN:ISs:=.nil
def Ja:ISs:=(.ret (.and (.bi .isinst 'a' #v[.ty .int]) (.not (.bi .isinst 'a' #v[.ty .bool]))))^iN
def Jb:ISs:=(.ret (.and (.call 0 'a' .nil) (.chn .LtE .LtE 'B' 'a' (.glb "MOST_WIDTH" 64))))^iN
def Jc:ISs:=(.ret 'b')^iN
def Jd:ISs:=(.set 1 (.bin .Mult 'b' 'C'))^iN
def Je:ISs:=(.for_ (.nm 2) (.rng 'a') Jd)^Jc
def Jf:ISs:=(.set 1 'B')^Je
def Jg:ISs:=(.ret (.and (.call 0 'b' .nil) (.chn .LtE .Lt 'A' 'b' (.call 1 'a' .nil))))^iN
def Jh:ISs:=(.ret (.bin .Mod 'b' (.call 0 'a' .nil)))^iN
def Ji:ISs:=(.ret (.bin .BitXor 'a' (.bin .BitAnd (.bin .BitXor 'a' 'b') 'c')))^iN
def Jj:ISs:=(.ret (.bin .BitXor 'a' (.bin .FloorDiv 'a' 'C')))^iN
def Jk:ISs:=(.ret 'b')^iN
def Jl:ISs:=(.set 2 (.bin .FloorDiv 'c' 'C'))^iN
def Jn:ISs:=(.set 1 (.bin .BitXor 'b' 'c'))^Jl
def Jo:ISs:=(.while_ (.cmp .Gt 'c' 'A') Jn)^Jk
def Jp:ISs:=(.set 2 (.bin .FloorDiv 'a' 'C'))^Jo
def Jq:ISs:=(.set 1 'a')^Jp
def Jr:ISs:=(.ret (.tup #v['a','a',.neg 'B']))^iN
def Js:ISs:=(.ret (.tup #v['b',.ix 'a' 'A','c']))^iN
def Jt:ISs:=(.ret (.bin .Mult (.tup #v['a']) 'b'))^iN
def Ju:ISs:=(.ret (.ix 'a' 'A'))^iN
def Jv:ISs:=(.ret (.call 0 (.ix 'a' 'B') #v[.ix 'a' 'A','c']))^iN
def Jw:ISs:=(.ite (.cmp .Gt (.ix 'a' 'C') 'b') Jv iN)^Ju
def Jx:ISs:=(.ret (.sl (.bin .Add (.tup #v['b']) 'a') .none (.some (.neg 'B'))))^iN
def Jy:ISs:=(.ret (.ix 'a' (.neg 'B')))^iN
def Jz:ISs:=(.fset "Side" 'a' "sight" (.call 1 (.call 0 'A' .nil) #v['c']))^iN
def JA:ISs:=(.fset "Side" 'a' "sign" (.call 2 (.call 0 'A' .nil) .nil))^Jz
def JB:ISs:=(.fset "Side" 'a' "total" 'A')^JA
def JC:ISs:=(.fset "Side" 'a' "turn" 'b')^JB
def JD:ISs:=(.ret (.ix (.fld "Side" 'a' "sign") 'C'))^iN
def JE:ISs:=(.ret (.bin .Mod (.bin .Sub (.fld "Side" 'a' "total") (.call 0 (.call 1 (.fld "Side" 'a' "sight") .nil) .nil)) (.fld "Side" 'a' "turn")))^iN
def JF:ISs:=(.fset "Side" 'a' "total" (.bin .Add (.fld "Side" 'a' "total") 'B'))^iN
def JG:ISs:=(.ret 'e')^iN
def JH:ISs:=(.fset "Side" 'a' "sight" (.call 1 (.fld "Side" 'a' "sight") #v['e']))^JG
def JI:ISs:=(.fset "Side" 'a' "sign" (.call 3 (.fld "Side" 'a' "sign") #v[.call 0 (.bin .Mod (.fld "Side" 'a' "total") (.fld "Side" 'a' "turn")) .nil,'b']))^JH
def JJ:ISs:=(.set 4 (.call 2 'd' #v[.mcall 4 "Side" "ring_ahead" 'a' .nil,'c']))^JI
def JK:ISs:=(.fset "Ferry" 'a' "taker" (.make 2 "Side" (.call 1 (.bin .Add 'b' 'B') .nil) #v['c']))^iN
def JL:ISs:=(.fset "Ferry" 'a' "giver" (.make 2 "Side" (.call 1 (.bin .Add 'b' 'B') .nil) #v['c']))^JK
def JM:ISs:=(.fset "Ferry" 'a' "places" (.bin .Mult (.lst #v[.call 0 'A' .nil]) (.call 1 'b' .nil)))^JL
def JN:ISs:=(.ret (.tup #v['f',.mcall 3 "Side" "show_and_see" (.fld "Ferry" 'a' "giver") #v['b','c',.fld "Side" (.fld "Ferry" 'a' "taker") "sign"]]))^iN
def E8:ISs:=(.fset "Ferry" 'a' "places" (.comp ["k"] [1,4,0] (.rng (.bi .len 'e' .nil)) (.nm 0) .none (.call 0 (.ix (.fld "Ferry" 'd' "places") 'a') #v[.ix 'c' 'a','b'])))^JN
def JO:ISs:=(.expr (.mcall 1 "Side" "grow" (.fld "Ferry" 'a' "giver") .nil))^iN
def JP:ISs:=(.put 'e' (.bin .Mod (.fld "Side" (.fld "Ferry" 'a' "giver") "total") (.bi .len 'e' .nil)) 'd')^JO
def E9:ISs:=(.ite 'f' JP iN)^E8
def JQ:ISs:=(.set 5 (.and (.cmp .IsNot 'd' .non) (.cmp .Lt (.mcall 2 "Side" "less_the_seen" (.fld "Ferry" 'a' "giver") .nil) (.bi .len 'e' .nil))))^E9
def JR:ISs:=(.set 4 (.comp ["place"] [] (.seq (.fld "Ferry" 'a' "places")) (.nm 0) .none (.ix 'a' 'A')))^JQ
def Ea:ISs:=(.ret (.tup #v['e',.mcall 4 "Side" "show_and_see" (.fld "Ferry" 'a' "taker") #v['b','c',.fld "Side" (.fld "Ferry" 'a' "giver") "sign"]]))^iN
def JS:ISs:=(.expr (.mcall 1 "Side" "grow" (.fld "Ferry" 'a' "taker") .nil))^iN
def JT:ISs:=(.set 4 (.call 0 'f' #v[.mcall 3 "Side" "ring_ahead" (.fld "Ferry" 'a' "taker") .nil,'c']))^JS
def JU:ISs:=(.set 5 (.ix (.fld "Ferry" 'a' "places") (.bin .Mod (.fld "Side" (.fld "Ferry" 'a' "taker") "total") (.bi .len (.fld "Ferry" 'a' "places") .nil))))^JT
def JV:ISs:=(.ite (.and 'd' (.cmp .NotEq (.mcall 2 "Side" "less_the_seen" (.fld "Ferry" 'a' "taker") .nil) 'A')) JU iN)^Ea
def JW:ISs:=(.set 4 .non)^JV
def Eb:ISs:=(.ret (.bi .list (.sl 'a' (.some 'B') .none) .nil))^iN
def Ec:ISs:=(.ret (.lst .nil))^iN
def JX:ISs:=(.ite (.or (.cmp .Eq (.ix 'a' 'A') (.str "num")) (.cmp .Eq (.ix 'a' 'A') (.str "var"))) Ec iN)^Eb
def JY:ISs:=(.ret (.tup #v['b',.bin .Add 'c' 'B']))^iN
def JZ:ISs:=(.set 2 (.bi .max 'c' #v[.ix 'e' 'B']))^iN
def K0:ISs:=(.set 1 (.bin .Add 'b' (.ix 'e' 'A')))^JZ
def K1:ISs:=(.set 4 (.call 1 'd' .nil))^K0
def K2:ISs:=(.for_ (.nm 3) (.seq (.call 0 'a' .nil)) K1)^JY
def K3:ISs:=(.set 2 'A')^K2
def Ed:ISs:=(.set 1 'B')^K3
def ZgG:GI:=⟨GB,GL,["parts_within","size_of"],[],[],GC⟩
def _ei:chkSs ZgG (Xz BZ) ["T","parts","deepest","part","size"] Ed (Y7 BZ)=wf/\scB ["T","parts","deepest","part","size"] 1 (Xz BZ):=by decide+kernel
def K4:ISs:=(.ret 'b')^iN
def K5:ISs:=(.expr (.mt .extend 'b' #v[.call 0 'c' .nil]))^iN
def K6:ISs:=(.for_ (.nm 2) (.seq (.call 1 'a' .nil)) K5)^K4
def Ee:ISs:=(.set 1 (.lst .nil))^K6
def K7:ISs:=(.ret (.lst #v[.ix 'a' 'B']))^iN
def Ef:ISs:=(.ite (.cmp .Eq (.ix 'a' 'A') (.str "var")) K7 iN)^Ee
def ZbY:GI:=⟨GB,GL,["names_read","parts_within"],[],[],GC⟩
def _aN:chkSs ZbY (Xz C0) ["T","names","part"] Ef (Y7 C0)=wf/\scB ["T","names","part"] 1 (Xz C0):=by decide+kernel
def K8:ISs:=(.ret (.b2 .ssrt (.call 0 'a' .nil)))^iN
def K9:ISs:=(.ret (.ife (.cmp .Eq 'b' 'c') 'B' 'A'))^iN
def Ka:ISs:=(.ret (.ife (.cmp .Lt 'b' 'c') 'B' 'A'))^iN
def Eg:ISs:=(.ite (.cmp .Eq 'a' (.str "less")) Ka iN)^K9
def Kb:ISs:=(.ret (.call 0 'd' #v[.bin .Mult 'b' 'c']))^iN
def C3:ISs:=(.ite (.cmp .Eq 'a' (.str "times")) Kb iN)^Eg
def Kc:ISs:=(.ret (.call 0 'd' #v[.bin .Sub 'b' 'c']))^iN
def A7:ISs:=(.ite (.cmp .Eq 'a' (.str "minus")) Kc iN)^C3
def Kd:ISs:=(.ret (.call 0 'd' #v[.bin .Add 'b' 'c']))^iN
def Ke:ISs:=(.ite (.cmp .Eq 'a' (.str "plus")) Kd iN)^A7
def Kf:ISs:=(.ret (.call 2 (.ix 'a' 'A') #v['d',.call 1 (.ix 'a' 'C') #v['b','c'],'b']))^iN
def Kg:ISs:=(.ret (.call 1 (.ife (.cmp .NotEq 'd' 'A') (.ix 'a' 'C') (.ix 'a' 'D')) #v['b','c']))^iN
def Eh:ISs:=(.ite (.cmp .Eq (.ix 'a' 'A') (.str "pick")) Kg iN)^Kf
def Ei:ISs:=(.set 3 (.call 1 (.ix 'a' 'B') #v['b','c']))^Eh
def Kh:ISs:=(.ret (.ix 'c' (.ix 'a' 'B')))^iN
def C4:ISs:=(.ite (.cmp .Eq (.ix 'a' 'A') (.str "var")) Kh iN)^Ei
def Ki:ISs:=(.ret (.call 0 'b' #v[.ix 'a' 'B']))^iN
def Ej:ISs:=(.ite (.cmp .Eq (.ix 'a' 'A') (.str "num")) Ki iN)^C4
def ZkV:GI:=⟨GB,GL,["cut","worth","worth_of_two"],[],[],GC⟩
def _hQ:chkSs ZkV (Xz C1) ["T","width","words","first"] Ej (Y7 C1)=wf/\scB ["T","width","words","first"] 3 (Xz C1):=by decide+kernel
def Ek:ISs:=(.ret (.tup #v[.str "own"]))^iN
def Kj:ISs:=(.ret (.tup #v[.str "give",.ix 'e' 'B',.call 0 (.ix 'e' 'C') #v['a','d']]))^iN
def C5:ISs:=(.ite (.cmp .Eq (.ix 'e' 'A') (.str "give")) Kj iN)^Ek
def Kk:ISs:=(.ret (.tup #v[.str "take",.ix 'e' 'B']))^iN
def El:ISs:=(.ite (.cmp .Eq (.ix 'e' 'A') (.str "take")) Kk iN)^C5
def Em:ISs:=(.set 4 (.ix 'b' 'c'))^El
def Eo:ISs:=(.ret .non)^iN
def Kl:ISs:=(.ite (.cmp .Eq 'c' (.bi .len 'b' .nil)) Eo iN)^Em
def A8:ISs:=(.ret (.bin .Add 'c' 'B'))^iN
def Km:ISs:=(.ret (.ix 'e' 'C'))^iN
def Kn:ISs:=(.ite (.and (.cmp .Eq (.ix 'e' 'A') (.str "jump")) (.cmp .NotEq (.call 0 (.ix 'e' 'B') #v['a','d']) 'A')) Km iN)^A8
def Ko:ISs:=(.set 4 (.ix 'b' 'c'))^Kn
def A9:ISs:=(.ret 'e')^iN
def Kq:ISs:=(.put 'e' (.ix 'b' 'B') (.call 0 (.ix 'b' 'C') #v['a','c']))^iN
def Aa:ISs:=(.ite (.cmp .Eq (.ix 'b' 'A') (.str "put")) Kq iN)^A9
def Kr:ISs:=(.put 'e' (.ix 'b' 'C') 'd')^iN
def Ks:ISs:=(.ite (.cmp .Eq (.ix 'b' 'A') (.str "take")) Kr iN)^Aa
def Kt:ISs:=(.set 4 (.bi .dict 'c' .nil))^Ks
def Ku:ISs:=(.ret (.tup #v[.call 0 'a' #v['b','c','d'],.call 1 'a' #v[.ix 'b' 'c','d','e']]))^iN
def Kv:ISs:=(.ret (.and (.chn .LtE .LtE 'B' (.bi .len 'a' .nil) (.glb "MOST_LETTERS" 8)) (.bi .all (.comp ["sign"] [] (.seq 'a') (.nm 0) .none (.chn .LtE .LtE (.str "a") 'a' (.str "z"))) .nil)))^iN
def Z9j:ISs:=(.never)^iN
def Kw:ISs:=(.ite (.cmp .In 'a' 'b') Z9j iN)^iN
def Z9k:ISs:=(.never)^iN
def Kx:ISs:=(.ite (.not (.call 0 'a' .nil)) Z9k iN)^Kw
def Z6x:ISs:=(.never)^iN
def Ky:ISs:=(.ite (.cmp .NotIn 'a' 'b') Z6x iN)^iN
def Kz:ISs:=(.expr (.mt .append 'b' #v[.ix 'c' 'A']))^iN
def KA:ISs:=(.expr (.call 0 (.ix 'c' 'A') #v['b']))^Kz
def KB:ISs:=(.for_ (.nm 2) (.seq 'a') KA)^iN
def KC:ISs:=(.set 1 (.lst .nil))^KB
def Z5r:ISs:=(.never)^iN
def KD:ISs:=(.ite (.not (.call 0 'a' #v[.ix 'd' 'B'])) Z5r iN)^iN
def KE:ISs:=(.expr (.mt .append 'c' #v['e']))^KD
def KF:ISs:=(.expr (.call 1 'e' #v['c']))^KE
def KG:ISs:=(.set 4 (.ix 'd' 'A'))^KF
def KH:ISs:=(.for_ (.nm 3) (.seq 'b') KG)^iN
def KI:ISs:=(.set 2 (.lst .nil))^KH
def KJ:ISs:=(.expr (.call 0 'd' #v['b']))^iN
def KL:ISs:=(.for_ (.nm 3) (.seq (.call 2 'a' .nil)) KJ)^iN
def Z9i:ISs:=(.never)^iN
def KM:ISs:=(.ite (.or (.cmp .Gt (.ix 'c' 'A') (.glb "MOST_PARTS" 30)) (.cmp .Gt (.ix 'c' 'B') (.glb "MOST_DEPTH" 8))) Z9i iN)^KL
def KN:ISs:=(.set 2 (.call 1 'a' .nil))^KM
def KO:ISs:=(.expr (.call 1 (.ix 'a' 'C') #v['b']))^iN
def KP:ISs:=(.expr (.call 1 (.ix 'a' 'B') #v['d']))^KO
def KQ:ISs:=(.expr (.call 0 (.ix 'a' 'C') #v['b']))^iN
def KR:ISs:=(.expr (.call 1 (.ix 'a' 'B') #v['d']))^KQ
def KS:ISs:=(.expr (.call 0 (.ix 'a' 'C') #v['b']))^iN
def KU:ISs:=(.expr (.call 1 (.ix 'a' 'B') #v['b']))^KS
def Z8r:ISs:=(.never)^iN
def KW:ISs:=(.ite (.not (.chn .LtE .LtE 'A' (.ix 'a' 'C') 'c')) Z8r iN)^iN
def KY:ISs:=(.expr (.call 0 (.ix 'a' 'B') #v['b']))^KW
def Ep:ISs:=(.ite (.cmp .Eq (.ix 'a' 'A') (.str "put")) KU KY)^iN
def C6:ISs:=(.ite (.cmp .Eq (.ix 'a' 'A') (.str "give")) KR Ep)^iN
def KZ:ISs:=(.ite (.cmp .Eq (.ix 'a' 'A') (.str "take")) KP C6)^iN
def L0:ISs:=(.expr (.call 0 'e' #v['d',.bi .len (.ix 'b' 'C') .nil,'c']))^iN
def L5:ISs:=(.for_ (.nm 4) (.seq (.ix 'b' 'C')) L0)^iN
def L6:ISs:=(.set 3 (.comp ["pair"] [] (.seq (.ix 'b' 'B')) (.nm 0) .none (.ix 'a' 'A')))^L5
def L7:ISs:=(.expr (.call 1 'a' #v[.ix 'b' 'B']))^L6
def Z7J:ISs:=(.never)^iN
def L8:ISs:=(.ite (.cmp .Gt (.bi .len (.ix 'b' 'C') .nil) (.glb "MOST_STEPS" 12)) Z7J iN)^L7
def Z7K:ISs:=(.never)^iN
def L9:ISs:=(.ite (.cmp .Gt (.bi .len (.ix 'b' 'B') .nil) (.glb "MOST_VARS" 6)) Z7K iN)^L8
def La:ISs:=(.expr (.call 0 'a' #v['e','c']))^iN
def Lb:ISs:=(.expr (.mt .append 'd' #v[.ix 'e' 'A']))^La
def Lc:ISs:=(.expr (.call 1 (.ix 'e' 'A') #v['d']))^Lb
def Ld:ISs:=(.for_ (.nm 4) (.seq 'b') Lc)^iN
def Lf:ISs:=(.set 3 (.bi .list 'c' .nil))^Ld
def Z8s:ISs:=(.never)^iN
def Lg:ISs:=(.ite (.not (.chn .LtE .LtE 'B' (.ix 'a' 'E') (.glb "MOST_STAGES" 3))) Z8s iN)^iN
def Z8t:ISs:=(.never)^iN
def Lh:ISs:=(.ite (.not (.chn .LtE .LtE 'A' (.ix 'a' 'D') (.glb "MOST_K" 3))) Z8t iN)^Lg
def Z8u:ISs:=(.never)^iN
def Li:ISs:=(.ite (.cmp .Eq (.ix 'a' 'B') (.ix 'a' 'C')) Z8u iN)^Lh
def Lj:ISs:=(.expr (.call 0 (.ix 'a' 'C') #v['b']))^Li
def Ll:ISs:=(.expr (.call 0 (.ix 'a' 'B') #v['b']))^Lj
def Z5p:ISs:=(.never)^iN
def Ac:ISs:=(.ite (.and (.cmp .Eq (.ix 'b' 'A') (.str "give")) (.cmp .NotEq (.ix 'c' (.ix 'b' 'B')) 'a')) Z5p iN)^iN
def Z5q:ISs:=(.never)^iN
def Lm:ISs:=(.ite (.and (.cmp .Eq (.ix 'b' 'A') (.str "take")) (.cmp .NotEq (.ix 'd' (.ix 'b' 'B')) 'a')) Z5q iN)^Ac
def Ln:ISs:=(.expr (.call 0 (.ix 'e' 'A') #v['f','c','d']))^iN
def Lo:ISs:=(.for_ (.nm 5) (.seq (.ix 'e' 'C')) Ln)^iN
def Lp:ISs:=(.for_ (.nm 4) (.seq 'a') Lo)^iN
def Lq:ISs:=(.set 3 (.bi .dictL (.comp ["ferry"] [] (.seq 'b') (.nm 0) .none (.tup #v[.ix 'a' 'A',.ix 'a' 'C'])) .nil))^Lp
def Lr:ISs:=(.set 2 (.bi .dictL (.comp ["ferry"] [] (.seq 'b') (.nm 0) .none (.tup #v[.ix 'a' 'A',.ix 'a' 'B'])) .nil))^Lq
def W4:ISs:=(.ret 'a')^iN
def Er:ISs:=(.ret (.bi .tuple (.comp ["part"] [] (.seq 'a') (.nm 0) .none (.call 0 'a' .nil)) .nil))^iN
def W5:ISs:=(.ite (.bi .isinst 'a' #v[.tup #v[.ty .list,.ty .tuple]]) Er iN)^W4
def Zi3:GI:=⟨GB,GL,["frozen"],[],[],GC⟩
def _gg:chkSs Zi3 (Xz C2) ["value"] W5 (Y7 C2)=wf/\scB ["value"] 1 (Xz C2):=by decide+kernel
def Ls:ISs:=(.ret (.call 0 (.tup #v['a','b','c']) .nil))^iN
def Lu:ISs:=(.expr (.call 5 'b' #v['c']))^Ls
def Lv:ISs:=(.expr (.call 2 'e' #v['d']))^iN
def Lw:ISs:=(.for_ (.nm 4) (.seq 'c') Lv)^Lu
def Lx:ISs:=(.set 3 (.comp ["island"] [] (.seq 'b') (.nm 0) .none (.ix 'a' 'A')))^Lw
def Ly:ISs:=(.expr (.call 4 'a' #v['b',.comp ["ferry"] [] (.seq 'c') (.nm 0) .none (.ix 'a' 'A')]))^Lx
def Lz:ISs:=(.expr (.call 3 'c' .nil))^Ly
def Zkr:ISs:=(.never)^iN
def LA:ISs:=(.ite (.cmp .Gt (.bi .len 'c' .nil) (.glb "MOST_FERRIES" 6)) Zkr iN)^Lz
def Zks:ISs:=(.never)^iN
def LB:ISs:=(.ite (.cmp .Gt (.bi .len 'b' .nil) (.glb "MOST_ISLANDS" 5)) Zks iN)^LA
def Zkt:ISs:=(.never)^iN
def LC:ISs:=(.ite (.not (.call 1 'a' .nil)) Zkt iN)^LB
def ZaD:ISs:=(.never)^iN
def LD:ISs:=(.ret 'c')^iN
def C7:ISs:=(.ite (.cmp .Eq (.ix 'c' 'A') 'b') LD iN)^iN
def LF:ISs:=(.for_ (.nm 2) (.seq 'a') C7)^ZaD
def LG:ISs:=(.ret (.call 0 (.ix 'a' 'B') #v['b']))^iN
def LH:ISs:=(.ret (.tup #v[.str "wait",.ix 'a' 'B']))^iN
def LI:ISs:=(.ret (.tup #v[.str "own"]))^iN
def LJ:ISs:=(.ite (.cmp .Eq (.ix 'a' 'A') (.str "own")) LI iN)^LH
def LK:ISs:=(.ret (.tup #v[.str "done"]))^iN
def LL:ISs:=(.ite (.cmp .Is 'a' .non) LK iN)^LJ
def LM:ISs:=(.ret (.and (.cmp .IsNot 'a' .non) (.and (.cmp .NotEq (.ix 'a' 'A') (.str "own")) (.cmp .Eq (.ix 'a' 'B') 'b'))))^iN
def Z8K:ISs:=(.fset "Run" 'a' "taken_so_far" (.bi .dictL (.comp ["ferry"] [] (.seq (.ix 'b' 'C')) (.nm 0) .none (.tup #v[.ix 'a' 'A',.lst .nil])) .nil))^iN
def Z8L:ISs:=(.fset "Run" 'a' "given_so_far" (.bi .dictL (.comp ["ferry"] [] (.seq (.ix 'b' 'C')) (.nm 0) .none (.tup #v[.ix 'a' 'A',.lst .nil])) .nil))^Z8K
def Z8M:ISs:=(.fset "Run" 'a' "boats" (.bi .dictL (.comp ["ferry"] [] (.seq (.ix 'b' 'C')) (.nm 0) .none (.tup #v[.ix 'a' 'A',.make 0 "Ferry" (.ix 'a' 'D') #v[.ix 'a' 'E']])) .nil))^Z8L
def Z8N:ISs:=(.fset "Run" 'a' "steps_so_far" (.bi .dictL (.comp ["island"] [] (.seq (.ix 'b' 'B')) (.nm 0) .none (.tup #v[.ix 'a' 'A','A'])) .nil))^Z8M
def Z8O:ISs:=(.fset "Run" 'a' "words_now" (.bi .dictL (.comp ["island"] [] (.seq (.ix 'b' 'B')) (.nm 0) .none (.tup #v[.ix 'a' 'A',.bi .dict (.ix 'a' 'B') .nil])) .nil))^Z8N
def Z8P:ISs:=(.fset "Run" 'a' "next_numbers" (.bi .dictL (.comp ["island"] [] (.seq (.ix 'b' 'B')) (.nm 0) .none (.tup #v[.ix 'a' 'A','A'])) .nil))^Z8O
def LN:ISs:=(.fset "Run" 'a' "moment" 'A')^Z8P
def LO:ISs:=(.fset "Run" 'a' "world" 'b')^LN
def Ad:ISs:=(.ret (.tup #v['b','e','g','h']))^iN
def Es:ISs:=(.expr (.mcall 4 "Run" "go_on" 'a' #v['b','d',.ife (.cmp .Eq (.ix 'g' 'A') (.str "take")) (.ix 'g' 'C') .non]))^iN
def LP:ISs:=(.ite (.cmp .NotIn (.ix 'g' 'A') (.tup #v[.str "done",.str "wait"])) Es iN)^Ad
def LQ:ISs:=(.fset "Run" 'a' "moment" (.bin .Add (.fld "Run" 'a' "moment") 'B'))^LP
def LR:ISs:=(.set 6 (.ix 'k' 'A'))^iN
def LS:ISs:=(.ite (.cmp .IsNot (.ix 'k' 'A') .non) LR iN)^iN
def LU:ISs:=(.expr (.mt .append 'h' #v[.tup #v[.ix 'j' 'A',.ix 'k' 'B']]))^LS
def LV:ISs:=(.set 10 (.mcall 5 "Run" "ring_ferry" 'a' #v['j','b',.bin .FloorDiv 'c' (.call 1 (.bin .Mult (.glb "BITS_A_FERRY" 8) 'i') .nil),'f']))^LU
def LW:ISs:=(.ite (.cmp .In 'b' (.tup #v[.ix 'j' 'B',.ix 'j' 'C'])) LV iN)^iN
def Et:ISs:=(.set 9 (.ix (.ix (.fld "Run" 'a' "world") 'C') 'i'))^LW
def LX:ISs:=(.for_ (.nm 8) (.rng (.bi .len (.ix (.fld "Run" 'a' "world") 'C') .nil)) Et)^LQ
def LY:ISs:=(.set 7 (.lst .nil))^LX
def LZ:ISs:=(.set 6 (.call 2 'f' .nil))^LY
def Ma:ISs:=(.set 5 (.call 3 (.ix (.fld "Run" 'a' "world") 'A') #v['d','e',.ix (.fld "Run" 'a' "words_now") 'b']))^LZ
def Mb:ISs:=(.set 4 (.ix (.fld "Run" 'a' "next_numbers") 'b'))^Ma
def Mc:ISs:=(.set 3 (.ix (.call 0 (.fld "Run" 'a' "world") #v['b']) 'C'))^Mb
def Md:ISs:=(.ret (.tup #v[.tup #v[.str "take",.ix 'b' 'A',.ix 'h' 'A'],.ix 'h' 'B']))^iN
def Me:ISs:=(.expr (.mt .append (.ix (.fld "Run" 'a' "taken_so_far") (.ix 'b' 'A')) #v[.ix 'h' 'A']))^Md
def Mf:ISs:=(.ret 'h')^iN
def Mg:ISs:=(.ite (.cmp .Is (.ix 'h' 'A') .non) Mf iN)^Me
def Eu:ISs:=(.set 7 (.mcall 2 "Ferry" "ring_taker" 'f' #v[.fld "Run" 'a' "moment",'d','g']))^Mg
def Mh:ISs:=(.ret (.tup #v['e',.ix 'h' 'B']))^iN
def Mi:ISs:=(.expr (.mt .append (.ix (.fld "Run" 'a' "given_so_far") (.ix 'b' 'A')) #v[.ix 'e' 'C']))^Mh
def Mj:ISs:=(.ret (.tup #v[.non,.ix 'h' 'B']))^iN
def Ev:ISs:=(.ite (.not (.ix 'h' 'A')) Mj iN)^Mi
def Ml:ISs:=(.set 7 (.mcall 1 "Ferry" "ring_giver" 'f' #v[.fld "Run" 'a' "moment",'d',.ife 'g' (.ix 'e' 'C') .non]))^Ev
def Mm:ISs:=(.ite (.cmp .Eq (.ix 'b' 'B') 'c') Ml iN)^Eu
def Mn:ISs:=(.set 6 (.call 0 'e' #v[.ix 'b' 'A']))^Mm
def Mo:ISs:=(.set 5 (.ix (.fld "Run" 'a' "boats") (.ix 'b' 'A')))^Mn
def Mp:ISs:=(.put (.fld "Run" 'a' "steps_so_far") 'b' (.bin .Add (.ix (.fld "Run" 'a' "steps_so_far") 'b') 'B'))^iN
def Mq:ISs:=(.put (.fld "Run" 'a' "words_now") 'b' (.ix 'e' 'B'))^Mp
def Mr:ISs:=(.put (.fld "Run" 'a' "next_numbers") 'b' (.ix 'e' 'A'))^Mq
def Ms:ISs:=(.set 4 (.call 0 (.ix (.fld "Run" 'a' "world") 'A') #v['c',.ix (.fld "Run" 'a' "next_numbers") 'b',.ix (.fld "Run" 'a' "words_now") 'b','d']))^Mr
def Mt:ISs:=(.ret 'A')^iN
def Mu:ISs:=(.ret (.ix 'a' 'b'))^iN
def Mv:ISs:=(.ite (.cmp .Lt 'b' (.bi .len 'a' .nil)) Mu iN)^Mt
def Mw:ISs:=(.ret (.bin .Add (.bin .Add (.bin .Mult (.ix 'c' 'd') 'g') 'h') (.bin .Mult (.ix 'c' 'd') (.bin .Sub (.bin .Sub 'f' 'B') 'g'))))^iN
def Mx:ISs:=(.set 7 (.ix 'c' (.bin .Mod (.bin .Add (.bin .FloorDiv 'a' (.int 4992)) (.bin .Mult 'H' 'b')) (.int 26))))^Mw
def Mz:ISs:=(.set 6 (.bin .Mod (.bin .Mod (.bin .FloorDiv 'a' 'Y') 'I') 'f'))^Mx
def MA:ISs:=(.set 5 (.bin .Add 'B' (.bin .Mod (.bin .FloorDiv 'a' 'D') 'I')))^Mz
def MC:ISs:=(.ret (.bin .Add (.bin .Mult (.ix 'c' 'd') (.bin .Add 'B' (.bin .Mod (.bin .Add (.bin .Mult 'D' 'b') (.bin .FloorDiv 'a' (.int 192))) 'H'))) (.bin .Mult 'e' (.bin .FloorDiv 'b' 'H'))))^iN
def MD:ISs:=(.set 4 (.ix 'c' (.bin .Mod (.bin .Add (.bin .Add 'd' 'B') (.bin .Mod (.bin .FloorDiv 'a' (.int 4992)) 'Z')) (.int 26))))^MC
def ME:ISs:=(.ite (.cmp .Eq (.bin .Mod 'a' 'D') 'C') MD iN)^MA
def MF:ISs:=(.set 3 (.bin .Mod (.bin .FloorDiv 'a' (.int 192)) (.int 26)))^ME
def MG:ISs:=(.set 2 (.str "abcdefghijklmnopqrstuvwxyz"))^MF
def MI:ISs:=(.ret (.tup #v[.str "plus",'c',.tup #v[.str "var",.ix 'b' (.bin .Mod (.bin .FloorDiv 'a' (.int 224)) 'C')]]))^iN
def MJ:ISs:=(.ret (.tup #v[.str "pick",.tup #v[.str "less",'c','d'],'d','c']))^iN
def MK:ISs:=(.ite (.cmp .Eq (.bin .Mod 'a' 'I') 'F') MJ iN)^MI
def ML:ISs:=(.ret (.tup #v[.ix (.lst #v[.str "plus",.str "minus",.str "times"]) (.bin .Sub (.bin .Mod 'a' 'I') 'C'),'c','d']))^iN
def MM:ISs:=(.ite (.cmp .Lt (.bin .Mod 'a' 'I') 'F') ML iN)^MK
def MN:ISs:=(.ret (.ix (.lst #v['c','d']) (.bin .Mod 'a' 'C')))^iN
def MP:ISs:=(.ite (.cmp .Lt (.bin .Mod 'a' 'I') 'C') MN iN)^MM
def MQ:ISs:=(.set 3 (.tup #v[.str "num",.ix (.lst #v[.bin .Sub (.bin .Mod (.bin .FloorDiv 'a' 'Q') 'H') 'D',.bin .Mod (.bin .Mult (.bin .FloorDiv 'a' 'Q') (.int 1000000007)) (.bin .Pow 'K' 'U')]) (.bin .Mod (.bin .FloorDiv 'a' (.int 112)) 'C')]))^MP
def MR:ISs:=(.set 2 (.tup #v[.str "var",.ix 'b' (.bin .Mod (.bin .FloorDiv 'a' 'I') 'C')]))^MQ
def MS:ISs:=(.ret (.tup #v[.str "put",.ix 'c' (.bin .Mod (.bin .FloorDiv 'a' 'I') 'C'),.call 0 'h' #v['c']]))^iN
def MU:ISs:=(.ret (.tup #v[.str "jump",.call 0 'h' #v['c'],.bin .Mod (.bin .FloorDiv 'a' 'I') (.bin .Add 'e' 'B')]))^iN
def Ew:ISs:=(.ite (.cmp .Eq (.bin .Mod 'a' 'I') 'H') MU iN)^MS
def MW:ISs:=(.ret (.tup #v[.str "give",.ix 'g' (.bin .Mod (.bin .FloorDiv 'a' 'I') (.bi .len 'g' .nil)),.call 0 'h' #v['c']]))^iN
def Ey:ISs:=(.ite (.and (.cmp .Lt (.bin .Mod 'a' 'I') 'G') (.cmp .NotEq 'g' (.lst .nil))) MW iN)^Ew
def MX:ISs:=(.ret (.tup #v[.str "take",.ix 'f' (.bin .Mod (.bin .FloorDiv 'a' 'I') (.bi .len 'f' .nil)),.ix 'c' (.bin .Mod 'h' 'C')]))^iN
def MY:ISs:=(.ite (.and (.cmp .Lt (.bin .Mod 'a' 'I') 'D') (.cmp .NotEq 'f' (.lst .nil))) MX iN)^Ey
def MZ:ISs:=(.set 7 (.bin .FloorDiv 'a' (.int 128)))^MY
def N0:ISs:=(.set 6 (.comp ["ferry"] [1] (.seq 'd') (.nm 0) (.some (.cmp .Eq (.ix 'a' 'B') 'b')) (.ix 'a' 'A')))^MZ
def N2:ISs:=(.set 5 (.comp ["ferry"] [1] (.seq 'd') (.nm 0) (.some (.cmp .Eq (.ix 'a' 'C') 'b')) (.ix 'a' 'A')))^N0
def Ez:ISs:=(.ret (.tup #v['f','h','k']))^iN
def N3:ISs:=(.expr (.mt .append 'k' #v[.tup #v[.str "jump",.tup #v[.str "num",'B'],'A']]))^iN
def N4:ISs:=(.ite (.cmp .Eq 'j' 'B') N3 iN)^Ez
def N5:ISs:=(.set 0 (.bin .FloorDiv 'a' (.bin .Pow 'K' 'I')))^iN
def EA:ISs:=(.expr (.mt .append 'k' #v[.call 1 (.bin .Mod 'a' (.bin .Pow 'K' 'I')) #v['f','g','d',.bin .Add 'i' 'j']]))^N5
def N6:ISs:=(.for_ (.nm 11) (.rng 'i') EA)^N4
def N7:ISs:=(.set 10 (.lst .nil))^N6
def N8:ISs:=(.set 0 (.bin .FloorDiv 'a' (.int 112)))^N7
def N9:ISs:=(.set 9 (.bi .int (.cmp .Lt (.bin .Mod (.bin .FloorDiv 'a' (.int 28)) 'E') 'e') .nil))^N8
def Na:ISs:=(.set 8 (.bin .Mod (.bin .FloorDiv 'a' 'E') 'H'))^N9
def Nb:ISs:=(.set 7 (.lst #v[.tup #v[.ix 'g' 'A',.bin .Mod 'a' 'C'],.tup #v[.ix 'g' 'B',.bin .Mod (.bin .FloorDiv 'a' 'C') 'C']]))^Na
def Nc:ISs:=(.set 6 (.lst #v[.call 0 'c' #v['J'],.call 0 'c' #v['K']]))^Nb
def Nd:ISs:=(.set 5 (.call 0 'c' #v['b']))^Nc
def Nf:ISs:=(.ret (.tup #v['e','m','g']))^iN
def EB:ISs:=(.expr (.mt .append 'm' #v[.call 1 (.bin .Mod (.call 0 'a' #v[.bin .Add 'G' 'h']) (.bin .Pow 'K' (.int 60))) #v['h','d','g','b']]))^iN
def Ng:ISs:=(.for_ (.nm 7) (.rng 'f') EB)^Nf
def Nh:ISs:=(.set 12 (.lst .nil))^Ng
def Ni:ISs:=(.expr (.mt .append 'g' #v[.tup #v[.call 2 'd' #v[.bin .Add 'F' 'h'],.ix 'l' 'A',.ix 'l' 'B',.bin .Mod (.bin .FloorDiv 'i' 'U') 'E',.bin .Add 'B' (.bin .Mod (.bin .FloorDiv 'i' (.int 80)) 'D')]]))^iN
def Nj:ISs:=(.set 11 (.tup #v[.call 2 'd' #v['j'],.call 2 'd' #v['k']]))^Ni
def Nk:ISs:=(.set 10 (.bin .Mod (.bin .Add (.bin .Add 'j' 'B') (.bin .Mod (.bin .FloorDiv 'i' 'F') (.bin .Sub 'f' 'B'))) 'f'))^Nj
def Nl:ISs:=(.set 9 (.bin .Mod 'i' 'f'))^Nk
def EC:ISs:=(.set 8 (.bin .FloorDiv (.bin .Mod (.call 0 'a' #v[.bin .Add 'C' (.bin .Mod 'h' 'E')]) (.bin .Pow 'K' 'P')) (.ix (.lst #v['B',.int 1000000]) (.bin .FloorDiv 'h' 'E'))))^Nl
def Nm:ISs:=(.for_ (.nm 7) (.rng (.bi .min (.bin .Sub (.bin .Mult 'G' 'f') 'G') #v[.bin .Mod (.bin .FloorDiv 'c' (.int 2048)) 'H'])) EC)^Nh
def Nn:ISs:=(.set 6 (.lst .nil))^Nm
def No:ISs:=(.set 5 (.bin .Add 'B' (.bin .Mod 'c' 'F')))^Nn
def Np:ISs:=(.set 4 (.ix (.lst #v[.bin .Add 'B' (.bin .Mod (.bin .FloorDiv 'c' 'Q') (.int 64)),.bin .Add 'B' (.bin .Mod (.bin .FloorDiv 'c' 'Q') 'F')]) (.bin .Mod (.bin .FloorDiv 'c' (.int 1024)) 'C')))^No
def Nq:ISs:=(.set 3 (.bin .Mod (.call 0 'a' #v['B']) (.bin .Pow 'K' 'J')))^Np
def Nr:ISs:=(.set 2 (.bin .Mod (.call 0 'a' #v['A']) (.bin .Pow 'K' 'J')))^Nq
def Nt:ISs:=(.ret 'c')^iN
def Nu:ISs:=(.expr (.mt .append 'c' #v[.tup #v[.ix (.ix 'b' (.bin .Mod 'd' (.bi .len 'b' .nil))) 'A',.bin .Mod (.bin .FloorDiv 'd' (.bi .len 'b' .nil)) (.bin .Pow 'K' (.int 30))]]))^iN
def Nv:ISs:=(.for_ (.nm 3) (.seq 'a') Nu)^Nt
def Nw:ISs:=(.set 2 (.lst .nil))^Nv
def Ny:ISs:=(.ret 'd')^iN
def Nz:ISs:=(.set 3 (.bin .Add 'd' (.str "q")))^iN
def ED:ISs:=(.while_ (.cmp .In 'd' 'b') Nz)^Ny
def EE:ISs:=(.set 3 (.ix 'c' (.bin .Mod (.bin .FloorDiv 'a' 'E') (.bi .len 'c' .nil))))^iN
def NA:ISs:=(.ite (.and (.cmp .Eq (.bin .Mod 'a' 'E') 'D') (.cmp .NotEq 'c' (.lst .nil))) EE iN)^ED
def NB:ISs:=(.set 3 (.ix (.lst #v[.bin .Add (.ix 'b' (.bin .Mod (.bin .FloorDiv 'a' 'E') (.bi .len 'b' .nil))) (.str "q"),.sl (.ix 'b' 'A') .none (.some (.neg 'B')),.str ""]) (.bin .Mod (.bin .Mod 'a' 'E') 'D')))^NA
def NC:ISs:=(.ret (.bl wf))^iN
def Zku:ISs:=(.ret (.bl wg))^iN
def ND:ISs:=(.ite (.cmp .NotEq (.mcall 6 "Run" "ring" 'f' #v['i','j']) (.mcall 6 "Run" "ring" 'g' #v['i','j'])) Zku iN)^iN
def ZmP:ISs:=(.ret (.bl wg))^iN
def NE:ISs:=(.ite (.not (.call 0 'f' #v['k',.call 2 (.bin .FloorDiv 'j' 'G') #v[.ix 'l' 'A',.ix 'l' 'B'],'j'])) ZmP iN)^ND
def NF:ISs:=(.set 11 (.ix (.lst #v['h',.lst #v[.bin .Add (.ix 'h' 'B') (.lst #v[.str "zzzzzzzz"]),.ix 'h' 'A']]) (.bin .FloorDiv 'k' 'E')))^NE
def NG:ISs:=(.set 10 (.bin .Mod 'j' 'G'))^NF
def NH:ISs:=(.for_ (.tup #v[.nm 8,.nm 9]) (.seq (.call 1 (.sl 'a' (.some 'K') (.some (.int 90))) #v['c'])) NG)^NC
def NI:ISs:=(.set 7 (.lst #v[.comp ["island"] [] (.seq 'c') (.nm 0) .none (.ix 'a' 'A'),.comp ["ferry"] [] (.seq 'd') (.nm 0) .none (.ix 'a' 'A')]))^NH
def NJ:ISs:=(.set 6 (.make 5 "Run" 'e' .nil))^NI
def NK:ISs:=(.set 5 (.make 5 "Run" 'e' .nil))^NJ
def NL:ISs:=(.set 4 (.call 4 'b' #v[.bi .list 'c' .nil,.bi .list 'd' .nil]))^NK
def NM:ISs:=(.asg #v[.nm 1,.nm 2,.nm 3] (.call 3 'a' #v['D']))^NL
def szl:sizeLine=16777216:=by decide
def na10:Int.natAbs 10=10:=rfl
def at0{j:Type}{x:j}{l:List j}:atI (x::l) 0=wc x:=by unfold atI ixN;simp
def at1{l:Type}{x y:l}{t:List l}:atI (x::y::t) 1=wc y:=Y4 (j:=1) (by rfl)
def at2{l:Type}{x y z:l}{t:List l}:atI (x::y::z::t) 2=wc z:=Y4 (j:=2) (by rfl)
def at3{l:Type}{x y z u:l}{t:List l}:atI (x::y::z::u::t) 3=wc u:=Y4 (j:=3) (by rfl)
def at4{l:Type}{x y z u v:l}{t:List l}:atI (x::y::z::u::v::t) 4=wc v:=Y4 (j:=4) (by rfl)
def _j{a b:String}:(VC a=VC b)↔a=b:=by
 constructor
 .intro h;rw[Str.ofString_eq_toList,Str.ofString_eq_toList]at h;have t:a.toList.map Bv=b.toList.map Bv:=by
   have:=congrArg (λs:Str=>s.cps.toList) h
   simpa using this
  have inj:∀(l j:List Char),l.map Bv=j.map Bv->l=j:=by
   intro l
   induction l with
   |nil=>
    intro j e;cases j with
    |nil=>rfl
    |cons _ _=>cases e
   |cons x r u=>
    intro j e;cases j with
    |nil=>cases e
    |cons y s=>
     rw[Xy,Xy]at e;injection e with e1 e2;rw[u s e2,Char.toNat_inj.mp e1]
  erw[String.toList_inj.mp (inj _ _ t)]
 .intro h;rw[h]
def XU{c A B:Prop} [Decidable c] (j:c->A)(l:¬c->B):if c then A else B:=by
 split
 .erw[j ‹_›]
 .erw[l ‹_›]
def _ky{a:Str}{b:SpM}{R:SpM->Prop}:(∃f j,(a=f/\b=j)/\R j)↔R b:=⟨λl=>by have⟨_,_,⟨_,e⟩,h⟩:=l;erw[e▸h],λh=>⟨a,b,⟨rfl,rfl⟩,h⟩⟩
def isN0:Uw .non=wf:=rfl
def isN2{b:Int}:Uw (.int b)=wg:=rfl
def isN4{b:List MV}:Uw (.tup b)=wg:=rfl
local macro_rules|`(tactic|walk_at "s")=>do
 let a<-("seval szl na10 Nat.zero_add Nat.reduceAdd Nat.zero_le at0 at1 at2 at3 at4 _j _ky Xa _nm IV _nk _nj _nq _nl _lh _lj _nn _no _j8 v_s b_0 f_s _ov _oC _ox e_bl _oz _oE e_ty _oI _oA _oy _oG _oH _oJ e_or _oD _ow _oB e_ix e_sl _n2 e_bi e_b2 e_mt _oF _kA _n1 _n0 _kz _mo _mn _mQ _nF _nC _nE _nD isN0 isN2 isN4 isTy _od _nG _o0 _lP _o1 _nR _ob _nu _lT _lC _lS _lB _lU q_lt q_le _o2 q_gt _o9 _nZ _o7 _nX q_is _jl _lD _lN _jk _nI _o8 _nY _nW q_in _nV IP IQ _jj IU _o4 _o3 _nM _nK _nL _lG _lJ _lH _lI _ji _o5 _lM _ny _nw _nv _nx _lv _jg _jh _lw _lQ _jm _jn _oc _oa _lR _o6 _lA _lz _nQ _ly _jf _nN _nJ _lx _nB _nA _nz _nU _nT _nS _nH _nO _nP _lF _lE _lO WN CMul CPow List.getElem?_cons_zero List.getElem?_cons_succ Option.some.injEq MV.int.injEq MV.bl.injEq MV.tup.injEq MV.ref.injEq MO.lst.injEq MO.dic.injEq MO.ins.injEq Prod.mk.injEq exists_eq_left' exists_eq_left exists_and_left true_and and_true false_and and_false true_or or_true false_or or_false reduceCtorEq ne_eq not_false_eq_true not_true_eq_false List.set_cons_zero List.set_cons_succ decide_eq_true_eq Bool.not_eq_true' decide_eq_false_iff_not if_true if_false Bool.false_eq_true reduceIte List.length_cons List.length_nil and_self String.reduceEq String.reduceNe Int.reduceLT Int.reduceLE Int.reducePow Int.reduceNeg Int.reduceToNat Int.reduceSub Int.reduceAdd Int.reduceMul Nat.reduceLT Nat.reducePow Nat.reduceLeDiff".splitOn " ").toArray.mapM λs=>`(Lean.Parser.Tactic.simpLemma|$(Lean.mkIdent s.toName):term)
 `(tactic|simp only[$[$a:simpLemma],*])
local macro_rules|`(tactic|simp!)=>`(tactic|walk_at "s")
local macro_rules|`(tactic|simp! [$l,*])=>do
 let some s<-Lean.Macro.expandMacro? (<-`(tactic|walk_at "s"))|Lean.Macro.throwUnsupported
 match s with
 |`(tactic|simp only[$a,*])=>`(tactic|simp only[$a,*,$l,*])
 |_=>Lean.Macro.throwUnsupported
def _kx{j:Sort _}{p q:j->Prop}(h:∀a,p a->q a):(∃a,p a)->∃a,q a:=fun⟨a,x⟩=>⟨a,h a x⟩
def _i0{a b c:Prop}(h:b->c):a/\b->a/\c:=λx=>⟨x.1,h x.2⟩
def _gB{a b c d:Prop}(h:a->c)(g:b->d):a/\b->c/\d:=λx=>⟨h x.1,g x.2⟩
def _jD{a b c d:Prop}(h:a->c)(g:b->d):a\/b->c\/d:=λx=>x.elim (λy=>.inl (h y)) λy=>.inr (g y)
def _i2{j:Sort _}{p q:j->Prop}(h:∀a,p a->q a):(∀a,p a)->∀a,q a:=λx a=>h a (x a)
local macro_rules | `(tactic| walk_at "m") => `(tactic| (intro vs M Q Q' hq; repeat (first | exact hq _ _ | exact id | refine _kx fun _ => ?_ | refine _i0 ?_ | refine _gB ?_ ?_ | refine _i2 fun _ => ?_ | refine _jD ?_ ?_)))
def SameM(M j:MH):Prop:=∀a o,M a=wc o->j a=wc o
def SameM.refl(M:MH):SameM M M:=λ_ _ h=>h
def SameM.trans{M M1 M2:MH}(a:SameM M M1)(b:SameM M1 M2):SameM M M2:=λc o h=>b c o (a c o h)
def neM{M:MH}{a p:Addr}{o:MO}(h:M a=wc o)(j:M p=we):a≠p:=by intro e;subst e;rw[h]at j;cases j
def SameM.new{M:MH}{p:Addr}(h:M p=we)(o:MO):SameM M (updM M p o):=λa u e=>by rw[X9 (neM e h)];erw[e]
def SameM.free{M M':MH}(s:SameM M M'){p:Addr}(h:M' p=we):M p=we:=by
 cases e:M p with
 |none=>rfl
 |some o=>rw[s _ _ e]at h;cases h
def SameM.upd{M M':MH}(s:SameM M M'){p:Addr}(h:M p=we)(o:MO):SameM M (updM M' p o):=λa u e=>by rw[X9 (neM e h)];erw[s a u e]
def Ae{lo:Int}{n i:Nat}{x:MV}(h:(Src.rng lo n).items[i]?=wc x):i<n/\x=.int (lo+(i:Nat)):=by
 have j:=(XF.mp h).1;rw[Src.items_len]at j;erw[⟨j,?_⟩];have l:((Xr n).map λi=>MV.int (lo+(i:Nat)))[i]?=wc x:=h;rw[Xl,Xb (by simpa using(show i<n from j))]at l
 simpa using l.symm
def _7{t:Type}{f:t->MV}{l:List t}{i:Nat}{x:MV}(h:(l.map f)[i]?=wc x):∃j:i<l.length,x=f l[i]:=by
 have j:=(XF.mp h).1;rw[X7]at j;erw[⟨j,?_⟩];rw[Xl,Xb j]at h;erw[(Y6 h).symm]
def UB{t:List (Str×SpM)}(u:∀p∈t,MonW p.2):∀(j:Nat)f l,t[j]?=wc (f,l)->MonW l:=λj f l h=>u (f,l) (Xv h)
def _eg(j:List MV)(k:Nat):cutM j (wc (k:Int)) we=j.drop k:=by
 unfold cutM;rw[HT.sIx_none,HT.sIx_nat];by_cases h:k<=j.length
 .rw[Nat.min_eq_left h,UO (by rw[Wn];erw[Xc _])]
 .rw[Nat.min_eq_right (by lia),Fm (Xc _),Fm (by lia)]
  simp
theorem C8{t:Type} [DecidableEq t] (k:t)(v:MV)(j:t):∀l:List (t×MV),valM (putM l k v) j=if j=k then wc v else valM l j
 |[]=>by
  unfold putM valM;by_cases e:k=j
  .rw[if_pos e,if_pos e.symm]
  .rw[if_neg e,if_neg (λz=>e z.symm)]
   rfl
 |(i,u)::r=>by
  unfold putM;by_cases e:i=k
  .rw[if_pos e];subst e;unfold valM;by_cases f:i=j
   .rw[if_pos f,if_pos f.symm]
   .rw[if_neg f,if_neg (λz=>f z.symm),if_neg f]
  .rw[if_neg e];unfold valM;by_cases f:i=j
   .rw[if_pos f,if_neg (λz=>e (f.trans z)),if_pos f]
   .rw[if_neg f,C8 k v j r,if_neg f]
inductive Form where|plus|minus|times|less|same
noncomputable def Form.str:Form->Str
 |.plus=>"plus"|.minus=>"minus"|.times=>"times"|.less=>"less"|.same=>"same"
inductive Tm where
 |num (n:Int)|var (x:Str)|two (f:Form)(a b:Tm)|pick (c a b:Tm)
noncomputable def Tm.depth:Tm->Nat
 |.num _=>1|.var _=>1|.two _ a b=>1+max a.depth b.depth|.pick c a b=>1+max c.depth (max a.depth b.depth)
noncomputable def Tm.size:Tm->Nat
 |.num _=>1|.var _=>1|.two _ a b=>1+(a.size+b.size)|.pick c a b=>1+(c.size+(a.size+b.size))
noncomputable def Tm.reads:Tm->List Str
 |.num _=>[]|.var x=>[x]|.two _ a b=>a.reads++b.reads|.pick c a b=>c.reads++(a.reads++b.reads)
noncomputable def twoV(w:Nat)(l r:Int):Form->Int
 |.plus=>(l+r)%2^w
 |.minus=>(l - r)%2^w
 |.times=>(l*r)%2^w
 |.less=>if l<r then 1 else 0
 |.same=>if l=r then 1 else 0
def Tm.val(j:Str->Int)(w:Nat):Tm->Int
 |.num n=>n%2^w
 |.var x=>j x
 |.two f a b=>twoV w (a.val j w) (b.val j w) f
 |.pick c a b=>if c.val j w≠0 then a.val j w else b.val j w
def Af(w:Nat):(0:Int)<2^w:=Int.pow_pos (by decide)
def NN{w:Nat}(h:1<=w):(2:Int)<=2^w:=by
 obtain⟨k,rfl⟩:∃k,w=k+1:=⟨w - 1,by lia⟩
 rw[Int.pow_succ];have:=Af k;lia
def NO{w:Nat}(h:w<=64):(2:Int)^w<=2^64:=by
 have:=AW (n:=2) (by decide) h
 have j:(2:Int)^w=((2^w:Nat):Int):=by rw[Wy];rfl
 have l:(2:Int)^64=((2^64:Nat):Int):=by decide
 rw[j,l];erw[WB.mpr this]
def C9(x:Int)(w:Nat):0<=x%2^w/\x%2^w<2^w:=⟨Zu _ (Int.ne_of_gt (Af w)),ZE _ (Af w)⟩
def twoV_in{w:Nat}(hw:1<=w)(l r:Int)(f:Form):0<=twoV w l r f/\twoV w l r f<2^w:=by
 have:=NN hw;cases f
 .erw[C9 _ _]
 .erw[C9 _ _]
 .erw[C9 _ _]
 .unfold twoV;split<;>lia
 .unfold twoV;split<;>lia
theorem Tm.val_in{j:Str->Int}{w:Nat}(hw:1<=w):∀{T:Tm},(∀x∈T.reads,0<=j x/\j x<2^w)->0<=T.val j w/\T.val j w<2^w
 |.num n,_=>C9 _ _
 |.var x,h=>h x (by simp[Tm.reads])
 |.two f a b,_=>twoV_in hw _ _ f
 |.pick c a b,h=>by
  unfold Tm.val;split
  .erw[a.val_in hw λx l=>h x (by simp[Tm.reads,l])]
  .erw[b.val_in hw λx l=>h x (by simp[Tm.reads,l])]
def Tm.depth_pos:∀T:Tm,1<=T.depth
 |.num _=>Xc _
 |.var _=>Xc _
 |.two _ _ _=>UT _ _
 |.pick _ _ _=>UT _ _
noncomputable def Tm.mv:Tm->MV
 |.num n=>.tup [.str "num",.int n]
 |.var x=>.tup [.str "var",.str x]
 |.two f a b=>.tup [.str f.str,a.mv,b.mv]
 |.pick c a b=>.tup [.str "pick",c.mv,a.mv,b.mv]
def NP(f:Form):¬f.str="num":=by cases f<;>decide+kernel
def EF(f:Form):¬f.str="var":=by cases f<;>decide+kernel
def _g2(f:Form):¬f.str="pick":=by cases f<;>decide+kernel
inductive Stp where
 |take (f x:Str)|give (f:Str)(T:Tm)|put (x:Str)(T:Tm)|jump (T:Tm)(i:Int)
noncomputable def Stp.mv:Stp->MV
 |.take f x=>.tup [.str "take",.str f,.str x]
 |.give f T=>.tup [.str "give",.str f,T.mv]
 |.put x T=>.tup [.str "put",.str x,T.mv]
 |.jump T i=>.tup [.str "jump",T.mv,.int i]
def tmOk(j:List Str)(T:Tm):Prop:=T.depth<=8/\T.size<=30/\∀x∈T.reads,x∈j
def Stp.ok(j:List Str)(n:Nat):Stp->Prop
 |.take _ x=>x∈j
 |.give _ T=>tmOk j T
 |.put x T=>x∈j/\tmOk j T
 |.jump T i=>tmOk j T/\0<=i/\i<=n
def Ca(M:MH)(x:MV)(j:List MV):Prop:=x=.tup j\/∃a,x=.ref a/\M a=wc (.lst j)
def readsOk(t:List Str)(j:List (Key×MV))(l:Str->Int)(w:Nat):Prop:=∀x∈t,valM j (Xo x)=wc (.int (l x))/\0<=l x/\l x<2^w
def readsOk.tm{t:List Str}{j:List (Key×MV)}{l:Str->Int}{w:Nat}(h:readsOk t j l w){T:Tm}(o:tmOk t T):∀x∈T.reads,valM j (Xo x)=wc (.int (l x))/\0<=l x/\l x<2^w:=λx u=>h x (o.2.2 x u)
section
variable{E:En}
abbrev UC:SpM:=λj M Q=>∃k:Nat,j=[.int k]/\k<=64/\Q (.int (2^k)) M
def _aw:MonW UC:=by walk_at "m"
def Cb(T:Txt E):FO E 1 "two_to" UC:=by
 erw[T.c8.ok T.g _aw 1 ["exponent","answer","k"] (fC T f0) Jf (fun u M Q h=>?_)];have⟨k,rfl,w,q⟩:=h;erw[⟨rfl,?_⟩];show wSs _ _ _ [wc (.int k),we,we] M;delta Jf;simp!;delta Je;simp!;erw[⟨by lia,by lia,λi j l=>l=M/\∃v,j=[wc (.int k),wc (.int (2^i)),v],⟨rfl,_,rfl⟩,λ_ _ _ _=>trivial,?_,?_⟩]
 .rintro i x j l t ⟨rfl,v,rfl⟩;have⟨y,rfl⟩:=Ae t;delta Jd;simp!;erw[⟨_,by rw[Int.pow_succ]⟩]
 .rintro j l ⟨rfl,v,rfl⟩;delta Jc;simp!;erw[q]
abbrev NQ:SpM:=λj M Q=>∃(w:Nat) (n:Int),j=[.int w,.int n]/\w<=64/\Q (.int (n%2^w)) M
def _dX:MonW NQ:=by walk_at "m"
def NR(T:Txt E):FO E 2 "cut" NQ:=by
 erw[T.aL.ok T.g _dX 2 ["width","number"] (fC T (fc (Cb T) f0)) Jh (fun l M Q h=>?_)];have⟨w,n,rfl,j,q⟩:=h;erw[⟨rfl,?_⟩];show wSs _ _ _ [wc (.int w),wc (.int n)] M;delta Jh;simp!;erw[⟨w,rfl,j,Af w,q⟩]
abbrev NS:SpM:=λj M Q=>∃(f:Form) (l r:Int) (w:Nat),j=[.str f.str,.int l,.int r,.int w]/\w<=64/\(-(2^64)<l/\l<2^64)/\Q (.int (twoV w l r f)) M
def _5l:MonW NS:=by walk_at "m"
def _8a(T:Txt E):FO E 3 "worth_of_two" NS:=by
 erw[T.bM.ok T.g _5l 4 ["form","left","right","width"] (fC T (fc (NR T) f0)) Ke (fun u M Q h=>?_)];have⟨f,l,r,w,rfl,j,t,q⟩:=h;erw[⟨rfl,?_⟩];show wSs _ _ _ [wc (.str f.str),wc (.int l),wc (.int r),wc (.int w)] M;delta Ke;simp!;cases f with
 |plus=>
  rw[if_pos (by rfl),Kd]
  simp!;erw[⟨w,_,rfl,j,q⟩]
 |minus=>
  rw[if_neg (by decide+kernel),A7]
  simp!;rw[if_pos (by rfl),Kc]
  simp!;erw[⟨w,_,rfl,j,q⟩]
 |times=>
  rw[if_neg (by decide+kernel),A7]
  simp!;rw[if_neg (by decide+kernel),C3]
  simp!;rw[if_pos (by rfl),Kb]
  simp!;erw[⟨.inl t,w,_,rfl,j,q⟩]
 |less=>
  rw[if_neg (by decide+kernel),A7]
  simp!;rw[if_neg (by decide+kernel),C3]
  simp!;rw[if_neg (by decide+kernel),Eg]
  simp!;rw[if_pos (by rfl),Ka]
  simp!;unfold twoV at q;split<;>simp_all
 |same=>
  rw[if_neg (by decide+kernel),A7]
  simp!;rw[if_neg (by decide+kernel),C3]
  simp!;rw[if_neg (by decide+kernel),Eg]
  simp!;rw[if_neg (by decide+kernel),K9]
  simp!;unfold twoV at q;split<;>simp_all
abbrev Cc(n:Nat):SpM:=λt M Q=>∃(T:Tm) (w:Nat) (d:Addr) (j:List (Key×MV)) (l:Str->Int),t=[T.mv,.int w,.ref d]/\T.depth<=n/\1<=w/\w<=64/\M d=wc (.dic j)/\
 (∀x∈T.reads,valM j (Xo x)=wc (.int (l x))/\0<=l x/\l x<2^w)/\Q (.int (T.val l w)) M
def _br(n:Nat):MonW (Cc n):=by walk_at "m"
theorem Cd(T:Txt E):∀n:Nat,FO E (n+3) "worth" (Cc n)
 |0=>by
  have no:∀W M Q,¬Cc 0 W M Q:=λW M Q h=>by
   have⟨T,w,d,t,j,_,R,_⟩:=h;have:=T.depth_pos;lia
  erw[T.aq.nn T.g ["T","width","words"] no]
 |n+1=>by
  have A:=Cd T n;erw[T.aq.ok T.g (_br _) 3 ["T","width","words","first"] (fC T (fc (NR T) (fc A (fc (_8a T) f0 (by lia)) (Xc _)) (by lia))) Ej (fun W M Q h=>?_) (hc:=_hQ)]
  have⟨U,w,d,t,j,rfl,P,u,g,hd,O,q⟩:=h;erw[⟨rfl,?_⟩];show wSs _ _ _ [wc U.mv,wc (.int w),wc (.ref d),we] M;have B:=NO g;delta Ej;cases U with
  |num m=>
   simp only[Tm.mv];simp!;delta Ki;simp!;erw[⟨w,m,rfl,g,q⟩]
  |var x=>
   have C:=(O x (by simp[Tm.reads])).1
   simp only[Tm.mv];simp!;delta C4;simp!;delta Kh;simp!;simp only[hd];simp!;erw[⟨_,C,q⟩]
  |two f l r=>
   have p:l.depth<=n:=by unfold Tm.depth at P;lia
   have L:r.depth<=n:=by unfold Tm.depth at P;lia
   have z:∀x∈l.reads,valM t (Xo x)=wc (.int (j x))/\0<=j x/\j x<2^w:=λx y=>O x (by simp[Tm.reads,y])
   have N:∀x∈r.reads,valM t (Xo x)=wc (.int (j x))/\0<=j x/\j x<2^w:=λx y=>O x (by simp[Tm.reads,y])
   have D:=l.val_in u λx y=>(z x y).2;simp only[Tm.mv];simp!;rw[if_neg (NP f),C4];simp!;rw[if_neg (EF f),Ei];simp!;erw[ex5 l w d t j ⟨rfl,p,u,g,hd,z,?_⟩];delta Eh;simp!;rw[if_neg (_g2 f),Kf];simp!;erw[ex5 r w d t j ⟨rfl,L,u,g,hd,N,f,_,_,w,rfl,g,⟨by lia,by lia⟩,q⟩]
  |pick c l r=>
   have Y:c.depth<=n:=by unfold Tm.depth at P;lia
   have p:l.depth<=n:=by unfold Tm.depth at P;lia
   have L:r.depth<=n:=by unfold Tm.depth at P;lia
   have Z:∀x∈c.reads,valM t (Xo x)=wc (.int (j x))/\0<=j x/\j x<2^w:=λx y=>O x (by simp[Tm.reads,y])
   have z:∀x∈l.reads,valM t (Xo x)=wc (.int (j x))/\0<=j x/\j x<2^w:=λx y=>O x (by simp[Tm.reads,y])
   have N:∀x∈r.reads,valM t (Xo x)=wc (.int (j x))/\0<=j x/\j x<2^w:=λx y=>O x (by simp[Tm.reads,y])
   simp only[Tm.mv];simp!;delta C4;simp!;delta Ei;simp!;erw[ex5 c w d t j ⟨rfl,Y,u,g,hd,Z,?_⟩];delta Eh;simp!;delta Kg;simp!;erw[XU (λR=>?_) (λR=>?_)]
   .have e:Tm.val j w (.pick c l r)=l.val j w:=if_pos R;rw[e]at q;erw[ex5 l w d t j ⟨rfl,p,u,g,hd,z,q⟩]
   .have e:Tm.val j w (.pick c l r)=r.val j w:=if_neg R;rw[e]at q;erw[ex5 r w d t j ⟨rfl,L,u,g,hd,N,q⟩]
noncomputable def dueM(j:List Stp)(l:Str->Int)(w:Nat)(i:Nat):MV:=match j[i]? with
 |we=>.non
 |wc (.take f _)=>.tup [.str "take",.str f]
 |wc (.give f T)=>.tup [.str "give",.str f,.int (T.val l w)]
 |wc _=>.tup [.str "own"]
abbrev V8:SpM:=λz M Q=>∃(x:MV) (t:Addr) (j:List Stp) (i w:Nat) (l:List (Key×MV)) (u:Str->Int) (y:List Str),z=[.int w,x,.int i,.ref t]/\Ca M x (j.map Stp.mv)/\(∀s∈j,s.ok y j.length)/\i<=j.length/\1<=w/\w<=64/\M t=wc (.dic l)/\readsOk y l u w/\
 Q (dueM j u w i) M
def _cp:MonW V8:=by walk_at "m"
def _jL(T:Txt E):FO E 50 "wish" V8:=by
 erw[T.c9.ok T.g _cp 4 ["width","steps","number","words","step"] (fC T (fc (Cd T 40) f0)) Kl (fun Y M Q h=>?_)];have⟨x,z,t,i,w,m,y,Z,rfl,N,g,A,d,r,p,O,q⟩:=h;erw[⟨rfl,?_⟩];show wSs _ _ _ [wc (.int w),wc x,wc (.int i),wc (.ref z),we] M;delta Kl;have len:∀R:Prop,R->R:=λ_ h=>h;have rest:∀l:i<t.length,wSs [("worth",Cc 40)] El {nx:=fun x P=>Q MV.non P,rt:=Q} [wc (.int w),wc x,wc (.int i),wc (.ref z),wc t[i].mv] M:=by
  intro l;have ok:=g t[i] (XW _);have W:dueM t y w i=dueM [t[i]] y w 0:=by unfold dueM;rw[Xb l];rfl
  rw[W]at q;obtain⟨s,e⟩:∃s,t[i]=s:=⟨_,rfl⟩;rw[e]at ok q;rw[e];delta El;cases s with
  |take f x=>
   simp only[Stp.mv];simp!;delta Kk;simp!;erw[q]
  |give f U=>
   simp only[Stp.mv];simp!;delta C5;simp!;delta Kj;simp!;erw[ex5 U w z m y ⟨rfl,XA ok.1 (by decide),d,r,p,O.tm ok,q⟩]
  |put x U=>
   simp only[Stp.mv];simp!;delta C5;simp!;delta Ek;simp!;erw[q]
  |jump U j=>
   simp only[Stp.mv];simp!;delta C5;simp!;delta Ek;simp!;erw[q]
 have L:¬i<t.length->dueM t y w i=.non:=λc=>by unfold dueM;rw[Fk.mpr (by lia)]
 rcases N with rfl|⟨B,rfl,u⟩
 .simp!;rw[X7];erw[XU (λc=>?_) (λc=>?_)]
  .delta Eo;simp!;rw[<-L (by lia)]
   erw[q]
  have l:i<t.length:=by lia
  delta Em;simp!;erw[⟨_,Y4 (by rw[Xl,Xb l];rfl),rest l⟩]
 .simp![u]
  rw[X7];erw[XU (λc=>?_) (λc=>?_)]
  .delta Eo;simp!;rw[<-L (by lia)]
   erw[q]
  have l:i<t.length:=by lia
  delta Em
  simp![u]
  erw[⟨_,Y4 (by rw[Xl,Xb l];rfl),rest l⟩]
noncomputable def UD(s:Stp)(l:Str->Int)(w i:Nat):Int:=match s with
 |.jump T j=>if T.val l w≠0 then j else(i:Int)+1
 |_=>(i:Int)+1
def W6(s:Stp)(j:List (Key×MV))(l:Str->Int)(w:Nat)(t:MV):List (Key×MV):=match s with
 |.take _ x=>putM j (Xo x) t
 |.put x T=>putM j (Xo x) (.int (T.val l w))
 |_=>j
abbrev NT:SpM:=λz M Q=>∃(x:MV) (t:Addr) (l:List Stp) (i w:Nat) (j:List (Key×MV)) (u:Str->Int) (y:List Str) (s:Stp),z=[.int w,x,.int i,.ref t]/\Ca M x (l.map Stp.mv)/\l[i]?=wc s/\s.ok y l.length/\1<=w/\w<=64/\M t=wc (.dic j)/\readsOk y j u w/\
 Q (.int (UD s u w i)) M
def _5n:MonW NT:=by walk_at "m"
def NU{M:MH}{x:MV}{l:List Stp}{i:Nat}{s:Stp}{Q:QM}(t:Ca M x (l.map Stp.mv))(u:l[i]?=wc s)(q:Q s.mv M):wIx x (.int i) M Q:=by
 have j:atI (l.map Stp.mv) (i:Int)=wc s.mv:=Y4 (by rw[Xl,u];rfl)
 rcases t with rfl|⟨a,rfl,h⟩
 .rw[IU];erw[⟨_,j,q⟩]
 .rw[IP,h,IQ];erw[⟨_,j,q⟩]
def _8c(T:Txt E):FO E 50 "number_after" NT:=by
 erw[T.bF.ok T.g _5n 4 ["width","steps","number","words","step"] (fC T (fc (Cd T 40) f0)) Ko (fun p M Q h=>?_)];have⟨x,m,L,i,w,l,t,N,s,rfl,g,d,ok,u,y,z,r,q⟩:=h;erw[⟨rfl,?_⟩];show wSs _ _ _ [wc (.int w),wc x,wc (.int i),wc (.ref m),we] M;delta Ko;simp!;erw[NU g d ?_];delta Kn;cases s with
 |take f x=>
  simp only[Stp.mv];simp!;delta A8;simp!;erw[q]
 |give f U=>
  simp only[Stp.mv];simp!;delta A8;simp!;erw[q]
 |put x U=>
  simp only[Stp.mv];simp!;delta A8;simp!;erw[q]
 |jump U j=>
  simp only[Stp.mv];simp!;erw[ex5 U w m l t ⟨rfl,XA ok.1.1 (by decide),u,y,z,r.tm ok.1,?_⟩]
  simp!;erw[XU (λc=>?_) (λc=>?_)]
  .have e:UD (.jump U j) t w i=j:=if_pos c;rw[e]at q;delta Km;simp!;erw[q]
  .have e:UD (.jump U j) t w i=(i:Int)+1:=if_neg c;rw[e]at q;delta A8;simp!;erw[q]
abbrev NV:SpM:=λz M Q=>∃(l:Addr) (w:Nat) (j:List (Key×MV)) (t:Str->Int) (u:List Str) (s:Stp) (k:Nat) (y:MV),z=[.int w,s.mv,.ref l,y]/\s.ok u k/\1<=w/\w<=64/\M l=wc (.dic j)/\j.length<=1000/\readsOk u j t w/\
 ∀p,M p=we->Q (.ref p) (updM M p (.dic (W6 s j t w y)))
def _5K:MonW NV:=by walk_at "m"
def _95(T:Txt E):FO E 50 "words_after" NV:=by
 erw[T.bH.ok T.g _5K 4 ["width","step","words","word","behind"] (fC T (fc (Cd T 40) f0)) Kt (fun N M Q h=>?_)];have⟨m,w,l,d,O,s,k,c,rfl,ok,y,z,t,r,e,q⟩:=h;erw[⟨rfl,?_⟩];show wSs _ _ _ [wc (.int w),wc s.mv,wc (.ref m),wc c,we] M;delta Kt
 simp![t]
 intro p g;have u:=SameM.new g (.dic l) _ _ t;have L:updM M p (.dic l) p=wc (.dic l):=Xa;have q:=q p g;delta Ks;cases s with
 |take f x=>
  simp only[Stp.mv];simp!;delta Kr;simp!;erw[⟨by lia,?_⟩]
  rw[YF];delta Aa;simp!;delta A9;simp!;erw[q]
 |give f U=>
  simp only[Stp.mv];simp!;delta Aa;simp!;delta A9;simp!;erw[q]
 |put x U=>
  simp only[Stp.mv];simp!;delta Aa;simp!;delta Kq;simp!;erw[ex5 U w m l d ⟨rfl,XA ok.2.1 (by decide),y,z,u,e.tm ok.2,?_⟩]
  simp!;erw[⟨by lia,?_⟩]
  rw[YF];delta A9;simp!;erw[q]
 |jump U j=>
  simp only[Stp.mv];simp!;delta Aa;simp!;delta A9;simp!;erw[q]
abbrev NW:SpM:=λm M Q=>∃(x:MV) (u:Addr) (l:List Stp) (i w:Nat) (j:List (Key×MV)) (t:Str->Int) (y:List Str) (s:Stp) (z:MV),m=[.int w,x,.int i,.ref u,z]/\Ca M x (l.map Stp.mv)/\l[i]?=wc s/\s.ok y l.length/\1<=w/\w<=64/\M u=wc (.dic j)/\j.length<=1000/\readsOk y j t w/\
 ∀p,M p=we->Q (.tup [.int (UD s t w i),.ref p]) (updM M p (.dic (W6 s j t w z)))
def _bt:MonW NW:=by walk_at "m"
def _hp(T:Txt E):FO E 51 "after" NW:=by
 erw[T.bU.ok T.g _bt 5 ["width","steps","number","words","word"] (fC T (fc (_8c T) (fc (_95 T) f0))) Ku (fun N M Q h=>?_)];have⟨x,y,e,i,w,j,m,g,s,d,rfl,c,f,ok,l,t,u,z,r,q⟩:=h;erw[⟨rfl,?_⟩];show wSs _ _ _ [wc (.int w),wc x,wc (.int i),wc (.ref y),wc d] M;delta Ku;simp!;erw[ex9 x y e i w j m g s ⟨rfl,c,f,ok,l,t,u,r,?_⟩];erw[NU c f ?_];erw[ex8 y w j m g s _ d ⟨rfl,ok,l,t,u,z,r,λp L=>?_⟩];erw[q p L]
def szs(j:List Tm):Nat:=(j.map Tm.size).sum
def NX(a b:List Tm):szs (a++b)=szs a+szs b:=by unfold szs;rw[XX,List.sum_append]
def _j0(a:Tm):szs [a]=a.size:=by simp[szs]
theorem NY{T:Tm}:∀{j:List Tm},T∈j->T.size<=szs j
 |U::j,h=>by
  have e:szs (U::j)=U.size+szs j:=by simp[szs]
  rcases Xh.mp h with z|z
  .subst z;lia
  .have:=NY z;lia
noncomputable def Tm.kids:Tm->List Tm
 |.num _=>[]
 |.var _=>[]
 |.two _ a b=>[a,b]
 |.pick c a b=>[c,a,b]
def Tm.size_kids:∀T:Tm,T.size=1+szs T.kids
 |.num _=>rfl
 |.var _=>rfl
 |.two _ a b=>by simp[Tm.size,Tm.kids,szs]
 |.pick c a b=>by simp[Tm.size,Tm.kids,szs]
noncomputable def mxd(j:List Tm):Nat:=j.foldl (λa T=>max a T.depth) 0
def _jU(j:List Tm)(T:Tm):mxd (j++[T])=max (mxd j) T.depth:=by unfold mxd;rw[List.foldl_append];rfl
def Tm.depth_kids:∀T:Tm,T.depth=mxd T.kids+1
 |.num _=>rfl
 |.var _=>rfl
 |.two _ a b=>by simp[Tm.depth,Tm.kids,mxd];lia
 |.pick c a b=>by simp[Tm.depth,Tm.kids,mxd];lia
def Tm.kid_depth{T U:Tm}(h:U∈T.kids):U.depth<T.depth:=by
 cases T<;>simp[Tm.kids]at h
 .rcases h with rfl|rfl<;>(simp only[Tm.depth];lia)
 .rcases h with rfl|rfl|rfl<;>(simp only[Tm.depth];lia)
def Tm.kid_size{T U:Tm}(h:U∈T.kids):U.size<T.size:=by
 rw[T.size_kids];have:=NY h;lia
def rds(j:List Tm):List Str:=(j.map Tm.reads).flatten
def _jc(j:List Tm)(T:Tm):rds (j++[T])=rds j++T.reads:=by simp[rds]
def Tm.reads_kids:∀T:Tm,(∀x,T≠.var x)->T.reads=rds T.kids
 |.num _,_=>rfl
 |.var x,h=>absurd rfl (h x)
 |.two _ a b,_=>by simp[Tm.reads,Tm.kids,rds]
 |.pick c a b,_=>by simp[Tm.reads,Tm.kids,rds]
theorem Tm.reads_len:∀T:Tm,T.reads.length<=T.size
 |.num _=>by simp[Tm.reads]
 |.var _=>by simp[Tm.reads,Tm.size]
 |.two _ a b=>by
  have:=a.reads_len;have:=b.reads_len;simp[Tm.reads,Tm.size];lia
 |.pick c a b=>by
  have:=a.reads_len;have:=b.reads_len;have:=c.reads_len;simp[Tm.reads,Tm.size];lia
theorem NZ:∀j:List Tm,(rds j).length<=szs j
 |[]=>Xc _
 |T::j=>by
  have:=NZ j;have:=T.reads_len;have e:szs (T::j)=T.size+szs j:=by simp[szs]
  have l:rds (T::j)=T.reads++rds j:=by simp[rds]
  rw[e,l,Yf];lia
def _gT(j:List Tm)(i:Nat):szs (j.take i)<=szs j:=by
 have l:=NX (j.take i) (j.drop i);rw[List.take_append_drop]at l;lia
def O0(x:MV)(j:List MV):cutM (x::j) (wc 1) we=j:=by
 have:=_eg (x::j) 1
 simpa using this
abbrev EG:SpM:=λj M Q=>∃T:Tm,j=[T.mv]/\∀p,M p=we->Q (.ref p) (updM M p (.lst (T.kids.map Tm.mv)))
def _5m:MonW EG:=by walk_at "m"
def O1(T:Txt E):FO E 1 "parts_within" EG:=by
 erw[T.ce.ok T.g _5m 1 ["T"] (fC T f0) JX (fun j M Q h=>?_)];have⟨U,rfl,q⟩:=h;erw[⟨rfl,?_⟩];show wSs _ _ _ [wc U.mv] M;delta JX;cases U with
 |num m=>
  simp only[Tm.mv];simp!;delta Ec;simp!;erw[q]
 |var x=>
  simp only[Tm.mv];simp!;delta Ec;simp!;erw[q]
 |two f a b=>
  simp only[Tm.mv];simp!;rw[if_neg (NP f),if_neg (EF f),Eb];simp!;rw[O0];erw[q]
 |pick c a b=>
  simp only[Tm.mv];simp!;delta Eb;simp!;rw[O0];erw[q]
abbrev EH(n:Nat):SpM:=λl M Q=>∃T:Tm,l=[T.mv]/\T.depth<=n/\∀j,SameM M j->Q (.tup [.int (T.size:Nat),.int (T.depth:Nat)]) j
def _9c(n:Nat):MonW (EH n):=by walk_at "m"
theorem O5(T:Txt E):∀n:Nat,FO E (n+8) "size_of" (EH n)
 |0=>by
  have no:∀y M Q,¬EH 0 y M Q:=λy M Q h=>by
   have⟨T,_,R,_⟩:=h;have:=T.depth_pos;lia
  erw[T.ay.nn T.g ["T"] no]
 |n+1=>by
  have r:=O5 T n;erw[T.ay.ok T.g (_9c _) 1 ["T","parts","deepest","part","size"] (fC T (fc (O1 T) (fc r f0 (Xc _)) (by lia))) Ed (fun y M Q h=>?_) (hc:=_ei)]
  have⟨U,rfl,W,q⟩:=h;erw[⟨rfl,?_⟩];show wSs _ _ _ [wc U.mv,we,we,we,we] M;delta Ed;simp!;delta K3;simp!;delta K2;simp!;erw[⟨U,rfl,λw z=>?_⟩];have p:=SameM.new z (.lst (U.kids.map Tm.mv));have d:updM M w (.lst (U.kids.map Tm.mv)) w=wc (.lst (U.kids.map Tm.mv)):=Xa;generalize updM M w (.lst (U.kids.map Tm.mv))=M1 at*
  simp![d]
  obtain⟨J,j⟩:∃J:Nat->Sm->MH->Prop,∀i l M2,J i l M2↔∃(m g:Option MV),SameM M1 M2/\l=[wc U.mv,wc (.int ((1+szs (U.kids.take i):Nat):Int)),wc (.int ((mxd (U.kids.take i):Nat):Int)),m,g]:=⟨_,λ_ _ _=>Yl⟩;erw[⟨J,(j _ _ _).2 ⟨_,_,SameM.refl _,rfl⟩,λi l M2 t=>?_,λi x l M2 L t=>?_,λl M2 t=>?_⟩]
  .have⟨_,_,u,_⟩:=(j _ _ _).1 t;erw[u _ _ d]
  .have⟨m,g,u,rfl⟩:=(j _ _ _).1 t;have⟨c,rfl⟩:=_7 L;have Y:=U.kid_depth (XW c);delta K1;simp!;erw[⟨U.kids[i],rfl,by lia,λZ N=>?_⟩]
   delta K0;simp!;delta JZ;simp!;have f:U.kids.take (i+1)=U.kids.take i++[U.kids[i]]:=by rw[ZX,Xb c];rfl
   have O:((1+szs (U.kids.take i):Nat):Int)+(U.kids[i].size:Nat)=((1+szs (U.kids.take (i+1)):Nat):Int):=by rw[f,NX,_j0];lia
   have P:(if((U.kids[i].depth:Nat):Int)>(mxd (U.kids.take i):Nat)then((U.kids[i].depth:Nat):Int)else(mxd (U.kids.take i):Nat))=((mxd (U.kids.take (i+1)):Nat):Int):=by
    rw[f,_jU];split<;>lia
   rw[O,P];erw[(j _ _ _).2 ⟨_,_,u.trans N,rfl⟩]
  .have⟨m,g,u,rfl⟩:=(j _ _ _).1 t;have e:U.kids.take (Src.lst w (U.kids.map Tm.mv)).len=U.kids:=by simp[Src.len]
   rw[e];delta JY;simp!;have:=q M2 (p.trans u);rw[U.size_kids,U.depth_kids]at this;erw[this]
abbrev Ce(n:Nat):SpM:=λl M Q=>∃T:Tm,l=[T.mv]/\T.depth<=n/\T.size<=4000/\∀p j,SameM M j->M p=we->j p=wc (.lst (T.reads.map MV.str))->Q (.ref p) j
def _6r(n:Nat):MonW (Ce n):=by walk_at "m"
theorem O7(T:Txt E):∀n:Nat,FO E (n+8) "names_read" (Ce n)
 |0=>by
  have no:∀L M Q,¬Ce 0 L M Q:=λL M Q h=>by
   have⟨T,_,d,_⟩:=h;have:=T.depth_pos;lia
  erw[T.aA.nn T.g ["T"] no]
 |n+1=>by
  have F:=O7 T n;erw[T.aA.ok T.g (_6r _) 1 ["T","names","part"] (fC T (fc F (fc (O1 T) f0 (by lia)) (Xc _))) Ef (fun L M Q h=>?_) (hc:=_aN)]
  have⟨U,rfl,hn,hz,q⟩:=h;erw[⟨rfl,?_⟩];show wSs _ _ _ [wc U.mv,we,we] M;have rest:(∀x,U≠.var x)->wSs [("names_read",Ce n),("parts_within",EG)] Ee {nx:=fun x G=>Q MV.non G,rt:=Q} [wc U.mv,we,we] M:=by
   intro I;delta Ee;simp!;intro l t;have A:=SameM.new t (.lst []);have d:updM M l (.lst []) l=wc (.lst ([]:List MV)):=Xa;generalize updM M l (.lst [])=M0 at*;delta K6;simp!;erw[⟨U,rfl,λu j=>?_⟩];have B:=SameM.new j (.lst (U.kids.map Tm.mv));have C:updM M0 u (.lst (U.kids.map Tm.mv)) u=wc (.lst (U.kids.map Tm.mv)):=Xa;have N:=B _ _ d;have S:=A.trans B;have nk:M u=we:=A.free j;generalize updM M0 u (.lst (U.kids.map Tm.mv))=M1 at*
   simp![C]
   have X:l≠u:=by
    intro e;rw[e]at d;rw[d]at j;cases j
   obtain⟨J,w⟩:∃J:Nat->Sm->MH->Prop,∀i y M2,J i y M2↔∃(O:Option MV),SameM M M2/\M2 u=wc (.lst (U.kids.map Tm.mv))/\M2 l=wc (.lst ((rds (U.kids.take i)).map MV.str))/\y=[wc U.mv,wc (.ref l),O]:=⟨_,λ_ _ _=>Yl⟩;erw[⟨J,(w _ _ _).2 ⟨_,S,C,N,rfl⟩,λi y M2 z=>?_,λi x y M2 H z=>?_,λy M2 z=>?_⟩]
   .have⟨_,_,r,_⟩:=(w _ _ _).1 z;erw[r]
   .have⟨O,P,r,g,rfl⟩:=(w _ _ _).1 z;have⟨R,rfl⟩:=_7 H;have hk:=U.kid_depth (XW R);have v:=U.kid_size (XW R);delta K5;simp!;simp only[g];simp!;erw[⟨⟨_,rfl⟩,?_⟩];erw[⟨U.kids[i],rfl,by lia,by lia,λp3 M3 W n3 o=>?_⟩]
    have Y:=W _ _ r;have Z:=W _ _ g;simp!;have l1:=NZ (U.kids.take i);have l2:=_gT U.kids i;have l3:=U.size_kids;have l4:=U.kids[i].reads_len;erw[⟨_,Z,_,o,by simp only[X7];lia,(w _ _ _).2 ⟨_,(P.trans W).upd t _,by rw[X9 X.symm];erw[Y],?_,rfl⟩⟩]
    rw[Xa,ZX,Xb R,Option.toList_some,_jc,XX]
   .have⟨O,P,r,g,rfl⟩:=(w _ _ _).1 z;have e:U.kids.take (Src.lst u (U.kids.map Tm.mv)).len=U.kids:=by simp[Src.len]
    rw[e,<-U.reads_kids I]at g;delta K4;simp!;erw[q l M2 P t g]
  delta Ef;cases U with
  |num m=>
   simp only[Tm.mv];simp!;erw[rest (λ_ e=>by cases e)]
  |var x=>
   simp only[Tm.mv];simp!;delta K7;simp!;erw[λp D=>q p _ (SameM.new D _) D Xa]
  |two f a b=>
   simp only[Tm.mv];simp!;rw[if_neg (EF f)];erw[rest (λ_ e=>by cases e)]
  |pick c a b=>
   simp only[Tm.mv];simp!;erw[rest (λ_ e=>by cases e)]
abbrev O8:SpM:=λt M Q=>∃(T:Tm) (N:List Str),t=[T.mv]/\T.depth<=40/\T.size<=4000/\(∀x∈T.reads,x∈N)/\N.length<64/\
 ∀p l (j:List Str),SameM M l->M p=we->l p=wc (.lst (j.map MV.str))->j.Nodup->(∀y,y∈j↔y∈T.reads)->PyProof.Rows.sortedS j=wf->Q (.ref p) l
def _9b:MonW O8:=by walk_at "m"
def _dU(T:Txt E):FO E 50 "vars_in" O8:=by
 erw[T.bO.ok T.g _9b 1 ["T"] (fC T (fc (O7 T 40) f0)) K8 (fun r M Q h=>?_)];have⟨U,N,rfl,t,u,w,y,q⟩:=h;erw[⟨rfl,?_⟩];show wSs _ _ _ [wc U.mv] M;delta K8;simp!;erw[⟨U,rfl,t,u,λz M1 j e m=>?_⟩];have L:scanBound=4096:=rfl;have:=U.reads_len;erw[⟨z,U.reads,N,rfl,m,by lia,w,y,λp g l d c f=>q p _ g (j.trans (SameM.new l _)) (j.free l) Xa d c f⟩]
abbrev Zl9:SpM:=λ_ _ _=>False
def GoodN(z:Str):Prop:=1<=z.length/\z.length<=8/\∀c∈z.cps.toList,97<=c/\c<=122
def O9{a b:Nat}:([a]:List Nat)<[b]↔a<b:=by
 rw[List.cons_lt_cons_iff];constructor
 .rintro(h|⟨_,h⟩)
  .erw[h]
  .erw[absurd h (by simp)]
 .erw[.inl]
def _oN:(("a":Str)).cps.toList=[97]:=by decide+kernel
def _oM:(("z":Str)).cps.toList=[122]:=by decide+kernel
def le_a{c:Nat}(h:97<=c):(!decide ((⟨#[c]⟩:Str).cps.toList<(("a":Str)).cps.toList))=wf:=by
 rw[_oN];have:¬((⟨#[c]⟩:Str).cps.toList<[97]):=λz=>by
  have z:([c]:List Nat)<[97]:=z;rw[O9]at z;lia
 simpa using this
def le_z{c:Nat}(h:c<=122):(!decide ((("z":Str)).cps.toList<(⟨#[c]⟩:Str).cps.toList))=wf:=by
 rw[_oM];have:¬([122]<(⟨#[c]⟩:Str).cps.toList):=λz=>by
  have z:([122]:List Nat)<[c]:=z;rw[O9]at z;lia
 simpa using this
abbrev Oa:SpM:=λl M Q=>∃z:Str,l=[.str z]/\GoodN z/\∀j,SameM M j->Q (.bl wf) j
def _9e:MonW Oa:=by walk_at "m"
def _dV(T:Txt E):FO E 1 "is_name" Oa:=by
 erw[T.bz.ok T.g _9e 1 ["text"] (fC T f0) Kv (fun m M Q h=>?_)];have⟨z,rfl,⟨g,d,l⟩,q⟩:=h;erw[⟨rfl,?_⟩];show wSs _ _ _ [wc (.str z)] M;delta Kv;simp!;erw[⟨by lia,?_⟩]
 rw[if_pos (by lia:(1:Int)<=(z.length:Int))]
 rw[if_pos (by lia:(z.length:Int)<=8)]
 erw[_L z.cps.toList (λc=>.str ⟨#[c]⟩) (λ_=>.bl wf) ?_ ?_ (λj f r h=>by simp at h) λD t=>?_]
 .simp!;have:z.cps.toList.length=z.length:=Yb;erw[⟨rfl,by lia,trivial⟩]
 .intro c u p s;have⟨w,y⟩:=l c u;simp only[sCm,Xy,YD,Z0,Z1,YC,Yj];simp!;rw[if_pos (by simpa using le_a w)]
  simpa using le_z y
 simp!;erw[⟨z.cps.toList.map λ_=>wf,by rw[Y5];rfl,?_⟩]
 have e:((z.cps.toList.map λ_=>wf).all id)=wf:=by simp
 rw[e];erw[q _ (SameM.new t _)]
def Cf{z:Str}{j:List Str}:inV (toV (.str z)) ((j.map MV.str).map toV)=decide (z∈j):=by
 unfold inV
 induction j with
 |nil=>simp
 |cons a r l=>
  rw[Xy,Xy,ZB,l];have e:eqV (toV (.str a)) (toV (.str z))=decide (a=z):=by
   show(a==z)=decide (a=z);by_cases h:a=z
   .subst h;simp
   .simp[h]
  rw[e];by_cases h:a=z
  .simp[h]
  .have t:¬z=a:=λw=>h w.symm;simp[h,t]
def EI(j:List Str):(j.map MV.str).all Yn=wf:=by
 rw[Ul];intro v l;have⟨x,_,rfl⟩:=XR.mp l
 rfl
abbrev Ob:SpM:=λt M Q=>∃(z:Str) (e:Addr) (j:List Str),t=[.str z,.ref e]/\M e=wc (.lst (j.map MV.str))/\GoodN z/\z∉j/\∀l,SameM M l->Q .non l
def _5M:MonW Ob:=by walk_at "m"
def EJ(T:Txt E):FO E 2 "refuse_name" Ob:=by
 erw[T.aK.ok T.g _5M 2 ["text","earlier"] (fC T (fc (_dV T) f0)) Kx (fun y M Q h=>?_)];have⟨z,a,l,rfl,t,u,w,q⟩:=h;erw[⟨rfl,?_⟩];show wSs _ _ _ [wc (.str z),wc (.ref a)] M;delta Kx;simp!;erw[⟨z,rfl,u,λM1 j=>?_⟩];simp!;delta Kw;simp!;erw[.inl ⟨_,j _ _ t,rfl,EI l,?_⟩];rw[Cf,decide_eq_false w];simp!;erw[q M1 j]
def Leaf(v:MV):Prop:=(∃i,v=.int i)\/∃z,v=.str z
def FroD:Nat->MH->MV->MV->Prop
 |0,_,v,v'=>Leaf v/\v'=v
 |n+1,M,v,v'=>(Leaf v/\v'=v)\/∃j:List (MV×MV),(v=.tup (j.map (·.1))\/∃a,v=.ref a/\M a=wc (.lst (j.map (·.1))))/\v'=.tup (j.map (·.2))/\j.length<=1000/\∀p∈j,FroD n M p.1 p.2
theorem FroD.keep{M M':MH}(s:SameM M M'):∀{n:Nat} {v l:MV},FroD n M v l->FroD n M' v l
 |0,_,_,h=>h
 |n+1,v,l,h=>by
  rcases h with h|⟨t,j,u,w,y⟩
  .erw[.inl h]
  .erw[.inr ⟨t,?_,u,w,λp z=>(y p z).keep s⟩];rcases j with j|⟨a,e,j⟩
   .erw[.inl j]
   .erw[.inr ⟨a,e,s _ _ j⟩]
abbrev UE(n:Nat):SpM:=λt M Q=>∃v j,t=[v]/\FroD n M v j/\∀l,SameM M l->Q j l
def Cg(n:Nat):MonW (UE n):=by walk_at "m"
def _cF{n:Nat}(w:∀(j:Nat)f y,([("frozen",UE n)]:List (Str×SpM))[j]?=wc (f,y)->MonW y){m:List MV} {M:MH} {Q:QM} (h:UE (n+1) m M Q):wSs [("frozen",UE n)] W5 {nx:=fun _ t=>Q .non t,rt:=Q} (Z6 1 m) M:=by
 have⟨v,P,rfl,c,q⟩:=h;show wSs _ _ _ [wc v] M;delta W5;rcases c with⟨l,rfl⟩|⟨r,g,rfl,R,e⟩
 .rcases l with⟨i,rfl⟩|⟨z,rfl⟩
  .simp!;simp only[decide_false,Bc,Yv,if_false,reduceCtorEq,ne_eq,not_false_eq_true,true_and];delta W4;simp!;erw[q M (SameM.refl _)]
  .simp!;simp only[decide_false,Bc,Yv,if_false,reduceCtorEq,ne_eq,not_false_eq_true,true_and];delta W4;simp!;erw[q M (SameM.refl _)]
 .have d:wSs [("frozen",UE n)] Er {nx:=fun L M=>wSs [("frozen",UE n)] W4 {nx:=fun _ t=>Q .non t,rt:=Q} L M,rt:=Q} [wc v] M:=by
   delta Er;simp!;erw[_gd r (·.1) (·.2) ?_ ?_ w λD t T s hd=>?_]
   .rcases g with rfl|⟨a,rfl,u⟩
    .simp!;erw[⟨rfl,by lia,trivial,λ_ _ h=>h⟩]
    .simp![u]
     erw[⟨rfl,by lia,u,λ_ _ h=>h⟩]
   .intro p N t s;simp only[sCm,Xy,YD,Z0,Z1,YC,Yj];simp!;erw[⟨p.1,p.2,rfl,(e p N).keep s,λM2 O=>⟨rfl,O⟩⟩]
   simp![hd]
   erw[q t s]
  rcases g with rfl|⟨a,rfl,u⟩
  .simp!;simp only[decide_true,Vv,Bool.true_or,if_true,reduceCtorEq,ne_eq,not_false_eq_true,true_and];erw[d]
  .simp![u]
   simp only[decide_true,Vv,Bool.true_or,if_true,reduceCtorEq,ne_eq,not_false_eq_true,true_and];erw[d]
theorem Oc(T:Txt E):∀n:Nat,FO E (n+8) "frozen" (UE n)
 |0=>by
  erw[T.ak.ok T.g (Cg _) 1 ["value"] (fC T (fc (T.ak.nn (k:=0) (sp:=Zl9) T.g ["value"] fun _ _ _ h=>h) f0)) W5 (fun t M Q h=>?_)];have⟨v,j,rfl,⟨l,rfl⟩,q⟩:=h;erw[⟨rfl,?_⟩];show wSs _ _ _ [wc j] M;delta W5;rcases l with⟨i,rfl⟩|⟨z,rfl⟩
  .simp!;simp only[decide_false,Bc,Yv,if_false,reduceCtorEq,ne_eq,not_false_eq_true,true_and];delta W4;simp!;erw[q M (SameM.refl _)]
  .simp!;simp only[decide_false,Bc,Yv,if_false,reduceCtorEq,ne_eq,not_false_eq_true,true_and];delta W4;simp!;erw[q M (SameM.refl _)]
 |n+1=>by
  have u:=Oc T n;erw[T.ak.ok T.g (Cg _) 1 ["value"] (fC T (fc u f0 (Xc _))) W5 (fun t M Q h=>⟨?_,?_⟩) (hc:=_gg)]
  .have⟨v,j,rfl,_⟩:=h;rfl
  erw[_cF (UB (fMc (Cg n) nl0)) h]
structure Isl where
 name:Str
 prs:List (Str×Int)
 stps:List Stp
structure Fer where
 name:Str
 giver:Str
 taker:Str
 k:Nat
 st:Nat
structure Wld where
 w:Nat
 isl:List Isl
 fer:List Fer
noncomputable def prV(p:Str×Int):MV:=.tup [.str p.1,.int p.2]
noncomputable def Fer.mv(f:Fer):MV:=.tup [.str f.name,.str f.giver,.str f.taker,.int f.k,.int f.st]
def Isl.mv(I:Isl):MV:=.tup [.str I.name,.tup (I.prs.map prV),.tup (I.stps.map Stp.mv)]
def Wld.mv(W:Wld):MV:=.tup [.int W.w,.tup (W.isl.map Isl.mv),.tup (W.fer.map Fer.mv)]
noncomputable def Isl.vars(I:Isl):List Str:=I.prs.map (·.1)
noncomputable def Wld.fns(W:Wld):List Str:=W.fer.map (·.name)
noncomputable def Wld.ins(W:Wld):List Str:=W.isl.map (·.name)
def TmIn(j:List Str)(T:Tm):Prop:=T.depth<=8/\T.size<=30/\∀x∈T.reads,x∈j
def ZM(fs:List Str)(j:List Str)(n:Nat):Stp->Prop
 |.take f x=>f∈fs/\x∈j
 |.give f T=>f∈fs/\TmIn j T
 |.put x T=>x∈j/\TmIn j T
 |.jump T i=>TmIn j T/\0<=i/\i<=(n:Int)
structure IslOk (w:Nat)(fs:List Str)(I:Isl):Prop where
 nv:I.prs.length<=6
 ns:I.stps.length<=12
 nd:I.vars.Nodup
 gd:∀x∈I.vars,GoodN x
 wd:∀p∈I.prs,0<=p.2/\p.2<2^w
 st:∀s∈I.stps,ZM fs I.vars I.stps.length s
structure FerOk (is:List Str)(f:Fer):Prop where
 g:f.giver∈is
 t:f.taker∈is
 ne:f.giver≠f.taker
 k3:f.k<=3
 s1:1<=f.st
 s3:f.st<=3
def ZN(F:List Fer)(z:Str):Stp->Prop
 |.take f _=>∀x∈F,x.name=f->x.taker=z
 |.give f _=>∀x∈F,x.name=f->x.giver=z
 |_=>True
structure Wld.Good (W:Wld):Prop where
 w1:1<=W.w
 w2:W.w<=64
 i5:W.isl.length<=5
 f6:W.fer.length<=6
 fg:∀z∈W.fns,GoodN z
 ig:∀z∈W.ins,GoodN z
 nd:(W.fns++W.ins).Nodup
 io:∀I∈W.isl,IslOk W.w W.fns I
 fo:∀f∈W.fer,FerOk W.ins f
 en:∀I∈W.isl,∀s∈I.stps,ZN W.fer I.name s
def IslIn(M:MH)(I:Isl)(y:MV):Prop:=∃a b,y=.tup [.str I.name,.ref a,.ref b]/\M a=wc (.lst (I.prs.map prV))/\M b=wc (.lst (I.stps.map Stp.mv))
def IslIn.keep{M M':MH}(s:SameM M M'){I:Isl}{y:MV}(h:IslIn M I y):IslIn M' I y:=by
 have⟨a,b,e,j,l⟩:=h;erw[⟨a,b,e,s _ _ j,s _ _ l⟩]
def IslsIn(M:MH)(Is:List Isl)(j:List MV):Prop:=j.length=Is.length/\∀(i:Nat)(I:Isl)(y:MV),Is[i]?=wc I->j[i]?=wc y->IslIn M I y
theorem IslsIn.keep{M M':MH}(s:SameM M M'){Is:List Isl}{j:List MV}(h:IslsIn M Is j):IslsIn M' Is j:=⟨h.1,λi z y a b=>(h.2 i z y a b).keep s⟩
def IslsIn.mem{M:MH}{Is:List Isl}{l:List MV}(h:IslsIn M Is l){y:MV}(u:y∈l):∃I∈Is,IslIn M I y:=by
 have⟨i,t,rfl⟩:=YB u;have j:i<Is.length:=by rw[<-h.1];erw[t]
 erw[⟨Is[i],XW j,h.2 i _ _ (Xb j) (Xb t)⟩]
def IslsIn.fst{M:MH}{Is:List Isl}{l:List MV}(h:IslsIn M Is l){f:MV->MV}(t:∀z r,f (.tup (.str z::r))=.str z):l.map f=(Is.map (·.name)).map MV.str:=by
 apply AE;intro i;rw[Xl,Xl,Xl];by_cases hi:i<l.length
 .have j:i<Is.length:=by rw[<-h.1];erw[hi]
  have⟨a,b,e,_⟩:=h.2 i _ _ (Xb j) (Xb hi);rw[Xb j,Xb hi,e];show wc (f _)=_;rw[t];rfl
 .have j:¬i<Is.length:=by rw[<-h.1];erw[hi]
  rw[Zb (by lia),Zb (by lia)];rfl
abbrev Od:SpM:=λj M Q=>∃i:Int,j=[.int i]/\Q (.bl wf) M
def _8l:MonW Od:=by walk_at "m"
def Oe(T:Txt E):FO E 1 "is_whole" Od:=by
 erw[T.bN.ok T.g _8l 1 ["value"] (fC T f0) Ja (fun j M Q h=>?_)];have⟨i,rfl,q⟩:=h;erw[⟨rfl,?_⟩];show wSs _ _ _ [wc (.int i)] M;delta Ja;simp!
 simpa using q
abbrev EK:SpM:=λj M Q=>∃i:Int,j=[.int i]/\1<=i/\i<=64/\Q (.bl wf) M
def Of:MonW EK:=by walk_at "m"
def _cl(T:Txt E):FO E 2 "is_width" EK:=by
 erw[T.aE.ok T.g Of 1 ["number"] (fC T (fc (Oe T) f0)) Jb (fun t M Q h=>?_)];have⟨i,rfl,j,l,q⟩:=h;erw[⟨rfl,?_⟩];show wSs _ _ _ [wc (.int i)] M;delta Jb;simp!;erw[⟨i,rfl,?_⟩];simp!;rw[if_pos j,decide_eq_true l];erw[q]
abbrev Og:SpM:=λj M Q=>∃(k:Nat) (i:Int),j=[.int k,.int i]/\k<=64/\0<=i/\i<2^k/\Q (.bl wf) M
def _cr:MonW Og:=by walk_at "m"
def _jO(T:Txt E):FO E 2 "fits" Og:=by
 erw[T.br.ok T.g _cr 2 ["width","number"] (fC T (fc (Oe T) (fc (Cb T) f0))) Jg (fun u M Q h=>?_)];have⟨k,i,rfl,j,l,t,q⟩:=h;erw[⟨rfl,?_⟩];show wSs _ _ _ [wc (.int k),wc (.int i)] M;delta Jg;simp!;erw[⟨i,rfl,?_⟩];simp!;rw[if_pos l];erw[⟨k,rfl,j,?_⟩];simp!;rw[decide_eq_true t];erw[q]
abbrev Oh:SpM:=λl M Q=>∃(z:Str) (e:Addr) (j:List Str),l=[.str z,.ref e]/\M e=wc (.lst (j.map MV.str))/\z∈j/\Q .non M
def _3D:MonW Oh:=by walk_at "m"
def EL(T:Txt E):FO E 1 "refuse_unknown" Oh:=by
 erw[T.ax.ok T.g _3D 2 ["name","known"] (fC T f0) Ky (fun u M Q h=>?_)];have⟨z,a,j,rfl,l,t,q⟩:=h;erw[⟨rfl,?_⟩];show wSs _ _ _ [wc (.str z),wc (.ref a)] M;delta Ky;simp!;erw[.inl ⟨_,l,rfl,EI j,?_⟩];rw[Cf,decide_eq_true t];simp!;erw[q]
def EM{l:Type} [DecidableEq l] {t:List l}(w:t.Nodup){j:Nat}{z:l}(y:t[j]?=wc z):z∉t.take j:=λm=>by
 have⟨c,rfl⟩:=XF.mp y;have⟨k,g,u⟩:=YB m;have d:k<j:=by rw[Ys]at g;lia
 rw[List.getElem_take]at u;have:=(AF w).mp u;lia
def EN{l u:Type}{f:l->u}{t:List l}{j:Nat}{z:l}(w:t[j]?=wc z):(t.take j).map f++[f z]=(t.take (j+1)).map f:=by
 rw[ZX,w,XX];rfl
abbrev EO:SpM:=λl M Q=>∃(f:Addr) (F:List Fer),l=[.ref f]/\M f=wc (.lst (F.map Fer.mv))/\F.length<=6/\(F.map (·.name)).Nodup/\(∀x∈F,GoodN x.name)/\∀j,SameM M j->Q .non j
def Oi:MonW EO:=by walk_at "m"
def _3B(T:Txt E):FO E 3 "refuse_ferry_names" EO:=by
 erw[T.aW.ok T.g Oi 1 ["ferries","earlier","ferry"] (fC T (fc (EJ T) f0)) KC (fun Y M Q h=>?_)];have⟨f,F,rfl,e,Z,R,U,q⟩:=h;erw[⟨rfl,?_⟩];show wSs _ _ _ [wc (.ref f),we,we] M;delta KC;simp!;intro p L;have N:=SameM.new L (.lst []);have m:=N _ _ e;have g:updM M p (.lst []) p=wc (.lst []):=Xa;have d:∀a o,M a=wc o->a≠p:=λa o h=>neM h L;generalize updM M p _=M1 at*;delta KB
 simp![m]
 obtain⟨J,t⟩:∃J:Nat->Sm->MH->Prop,∀j u l,J j u l↔SameM M l/\l p=wc (.lst (((F.map (·.name)).take j).map MV.str))/\∃v,u=[wc (.ref f),wc (.ref p),v]:=⟨_,λ_ _ _=>Yl⟩;erw[⟨J,(t _ _ _).mpr ⟨N,by simpa using g,_,rfl⟩,λj u l h=>((t _ _ _).mp h).1 _ _ e,?_,?_⟩]
 .rintro j y u l W h;have⟨c,w,v,rfl⟩:=(t _ _ _).mp h;have⟨z,rfl⟩:=_7 W;have z:j<F.length:=z;have O:(F.map (·.name))[j]?=wc F[j].name:=by rw[Xl,Xb z];rfl
  delta KA
  simp![Fer.mv]
  erw[ex3 (F[j].name) p ((F.map (·.name)).take j) ⟨rfl,w,U _ (XW z),EM R O,λA P=>?_⟩];have r:=P _ _ w;simp!;delta Kz
  simp![Fer.mv,r,X7,Ys]
  erw[⟨⟨_,rfl⟩,by lia,(t _ _ _).mpr ⟨λa o h=>by rw[X9 (d a o h)];erw[P _ _ (c _ _ h)],?_,_,rfl⟩⟩]
  rw[Xa,EN O]
 .rintro u l h;have⟨c,_⟩:=(t _ _ _).mp h;erw[q _ c]
abbrev EQ:SpM:=λt M Q=>∃(k:Nat) (f:Addr) (j:List (Str×Int)),t=[.int k,.ref f]/\M f=wc (.lst (j.map prV))/\k<=64/\j.length<=6/\(j.map (·.1)).Nodup/\(∀x∈j,GoodN x.1/\0<=x.2/\x.2<2^k)/\∀l,SameM M l->Q .non l
def Oj:MonW EQ:=by walk_at "m"
def _5i(T:Txt E):FO E 3 "refuse_variables" EQ:=by
 erw[T.bv.ok T.g Oj 2 ["width","pairs","earlier","pair","name"] (fC T (fc (_jO T) (fc (EJ T) f0))) KI (fun D M Q h=>?_)];have⟨k,f,F,rfl,e,U,G,W,Y,q⟩:=h;erw[⟨rfl,?_⟩];show wSs _ _ _ [wc (.int k),wc (.ref f),we,we,we] M;delta KI;simp!;intro p L;have N:=SameM.new L (.lst []);have m:=N _ _ e;have g:updM M p (.lst []) p=wc (.lst []):=Xa;have d:∀a o,M a=wc o->a≠p:=λa o h=>neM h L;generalize updM M p _=M1 at*;delta KH
 simp![m]
 obtain⟨J,t⟩:∃J:Nat->Sm->MH->Prop,∀j u l,J j u l↔SameM M l/\l p=wc (.lst (((F.map (·.1)).take j).map MV.str))/\∃v O,u=[wc (.int k),wc (.ref f),wc (.ref p),v,O]:=⟨_,λ_ _ _=>Yl⟩;erw[⟨J,(t _ _ _).mpr ⟨N,by simpa using g,_,_,rfl⟩,λj u l h=>((t _ _ _).mp h).1 _ _ e,?_,?_⟩]
 .rintro j y u l Z h;have⟨c,w,v,O,rfl⟩:=(t _ _ _).mp h;have⟨z,rfl⟩:=_7 Z;have z:j<F.length:=z;have P:(F.map (·.1))[j]?=wc F[j].1:=by rw[Xl,Xb z];rfl
  have⟨A,B,C⟩:=Y _ (XW z);delta KG
  simp![prV]
  delta KF;simp!;erw[ex3 (F[j].1) p ((F.map (·.1)).take j) ⟨rfl,w,A,EM W P,λI R=>?_⟩];have r:=R _ _ w;simp!;delta KE
  simp![r,X7,Ys]
  erw[⟨⟨_,rfl⟩,by lia,?_⟩]
  delta KD
  simp![prV]
  erw[⟨k,F[j].2,rfl,U,B,C,?_⟩];simp!;erw[(t _ _ _).mpr ⟨λa o h=>by rw[X9 (d a o h)];erw[R _ _ (c _ _ h)],?_,_,_,rfl⟩]
  rw[Xa,EN P]
 .rintro u l h;have⟨c,_⟩:=(t _ _ _).mp h;erw[q _ c]
abbrev Ol:SpM:=λt M Q=>∃(U:Tm) (e:Addr) (j:List Str),t=[U.mv,.ref e]/\M e=wc (.lst (j.map MV.str))/\j.length<=6/\TmIn j U/\∀l,SameM M l->Q .non l
def _5L:MonW Ol:=by walk_at "m"
def _96(T:Txt E):FO E 51 "refuse_term" Ol:=by
 erw[T.bG.ok T.g _5L 2 ["T","known","size","name"] (fC T (fc (EL T) (fc (O5 T 8) (fc (_dU T) f0)))) KN (fun O M Q h=>?_)];have⟨U,a,z,rfl,f,P,⟨hd,R,m⟩,q⟩:=h;erw[⟨rfl,?_⟩];show wSs _ _ _ [wc U.mv,wc (.ref a),we,we] M;delta KN;simp!;erw[⟨U,rfl,hd,λM1 g=>?_⟩];simp!;delta KM;simp!;rw[if_neg (by lia:¬((U.size:Nat):Int)>30)]
 rw[if_neg (by lia:¬((U.depth:Nat):Int)>8)]
 delta KL;simp!;erw[⟨U,z,rfl,by lia,by lia,m,by lia,λp M2 r d W l Y e _=>?_⟩]
 simp![l]
 obtain⟨J,t⟩:∃J:Nat->Sm->MH->Prop,∀j u w,J j u w↔w=M2/\∃v c,u=[wc U.mv,wc (.ref a),v,c]:=⟨_,λ_ _ _=>Yl⟩;erw[⟨J,(t _ _ _).mpr ⟨rfl,_,_,rfl⟩,λj u w h=>by rw[((t _ _ _).mp h).1];erw[l],?_,?_⟩]
 .rintro j y u w L h;have⟨rfl,v,c,rfl⟩:=(t _ _ _).mp h;have⟨N,rfl⟩:=_7 L;delta KJ;simp!;erw[ex3 (r[j]) a z ⟨rfl,d _ _ (g _ _ f),m _ ((e _).mp (XW N)),?_⟩];simp!;erw[(t _ _ _).mpr ⟨rfl,_,_,rfl⟩]
 .rintro u w h;have⟨rfl,_⟩:=(t _ _ _).mp h;erw[q _ (g.trans d)]
def ER{f x:Str}:(Stp.take f x).mv=.tup [.str "take",.str f,.str x]:=rfl
def ES{f:Str}{U:Tm}:(Stp.give f U).mv=.tup [.str "give",.str f,U.mv]:=rfl
def ET{f:Str}{U:Tm}:(Stp.put f U).mv=.tup [.str "put",.str f,U.mv]:=rfl
def EU{i:Int}{U:Tm}:(Stp.jump U i).mv=.tup [.str "jump",U.mv,.int i]:=rfl
abbrev EV:SpM:=λt M Q=>∃(S:Stp) (a b:Addr) (j fs:List Str) (n:Nat),t=[S.mv,.ref a,.int n,.ref b]/\M a=wc (.lst (j.map MV.str))/\M b=wc (.lst (fs.map MV.str))/\j.length<=6/\ZM fs j n S/\∀l,SameM M l->Q .non l
def Om:MonW EV:=by walk_at "m"
def _97(T:Txt E):FO E 52 "refuse_step" EV:=by
 erw[T.aD.ok T.g Om 4 ["step","known","count","ferry_names"] (fC T (fc (_96 T) (fc (EL T) f0))) KZ (fun g M Q h=>?_)];have⟨S,a,b,t,fs,n,rfl,u,m,z,y,q⟩:=h;erw[⟨rfl,?_⟩];show wSs _ _ _ [wc S.mv,wc (.ref a),wc (.int n),wc (.ref b)] M;delta KZ;cases S with
 |take f x=>
  have⟨j,l⟩:=y
  simp![ER]
  delta KP;simp!;erw[ex3 f b fs ⟨rfl,m,j,?_⟩];simp!;delta KO;simp!;erw[ex3 x a t ⟨rfl,u,l,?_⟩];simp!;erw[q _ (SameM.refl _)]
 |give f U=>
  have⟨j,l⟩:=y
  simp![ES]
  delta C6;simp!;delta KR;simp!;erw[ex3 f b fs ⟨rfl,m,j,?_⟩];simp!;delta KQ;simp!;erw[ex3 U a t ⟨rfl,u,z,l,λM1 w=>?_⟩];simp!;erw[q _ w]
 |put f U=>
  have⟨j,l⟩:=y
  simp![ET]
  delta C6;simp!;delta Ep;simp!;delta KU;simp!;erw[ex3 f a t ⟨rfl,u,j,?_⟩];simp!;delta KS;simp!;erw[ex3 U a t ⟨rfl,u,z,l,λM1 w=>?_⟩];simp!;erw[q _ w]
 |jump U i=>
  have⟨j,l,d⟩:=y
  simp![EU]
  delta C6;simp!;delta Ep;simp!;delta KY;simp!;erw[ex3 U a t ⟨rfl,u,z,j,λM1 w=>?_⟩];simp!;delta KW;simp!;rw[if_pos l];rw[if_neg (by lia:¬¬i<=(n:Int))]
  erw[q _ w]
abbrev On:SpM:=λl M Q=>∃(k:Nat) (I:Isl) (y:MV) (b:Addr) (fs:List Str),l=[.int k,y,.ref b]/\k<=64/\IslIn M I y/\M b=wc (.lst (fs.map MV.str))/\IslOk k fs I/\∀j,SameM M j->Q .non j
def _4v:MonW On:=by walk_at "m"
def _7B(T:Txt E):FO E 53 "refuse_island" On:=by
 erw[T.bb.ok T.g _4v 3 ["width","island","ferry_names","known","step"] (fC T (fc (_97 T) (fc (_5i T) f0))) L9 (fun C M Q h=>?_)];have⟨k,I,y,d,fs,rfl,W,⟨a,b,rfl,c,O⟩,f,ok,q⟩:=h;erw[⟨rfl,?_⟩];show wSs _ _ _ [wc (.int k),wc (.tup [.str I.name,.ref a,.ref b]),wc (.ref d),we,we] M;have P:=ok.nv;have F:=ok.ns;delta L9
 simp![c,X7]
 erw[XU (λz=>by lia) (λ_=>?_)]
 delta L8
 simp![O,X7]
 erw[XU (λz=>by lia) (λ_=>?_)]
 delta L7;simp!;erw[ex3 k a I.prs ⟨rfl,c,W,P,ok.nd,λx R=>⟨ok.gd _ (XR.mpr ⟨x,R,rfl⟩),ok.wd _ R⟩,λM1 U=>?_⟩];simp!;have w:=U _ _ c;delta L6;simp!;erw[_L I.prs prV (fun p=>.str p.1) ?_ ?_ (UB (t:=[("refuse_step",EV),("refuse_variables",EQ)]) (fMc Om (fMc Oj nl0))) fun D Y=>?_]
 .simp![w]
  erw[⟨rfl,by lia,w⟩]
 .intro p G t s;simp only[sCm,Xy,YD,Z0,Z1,YC,Yj]
  simp![prV]
  try erw[⟨rfl,rfl⟩]
 have Z:(I.prs.map λp=>MV.str p.1)=I.vars.map MV.str:=by unfold Isl.vars;rw[Y5];rfl
 rw[Z];have r:=U.trans (SameM.new Y (.lst (I.vars.map MV.str)));have e:updM M1 D (.lst (I.vars.map MV.str)) D=wc (.lst (I.vars.map MV.str)):=Xa;generalize updM M1 D _=M2 at*;have l:=r _ _ O;delta L5
 simp![l]
 obtain⟨J,m⟩:∃J:Nat->Sm->MH->Prop,∀j g t,J j g t↔SameM M2 t/\∃v,g=[wc (.int k),wc (.tup [.str I.name,.ref a,.ref b]),wc (.ref d),wc (.ref D),v]:=⟨_,λ_ _ _=>Yl⟩;erw[⟨J,(m _ _ _).mpr ⟨SameM.refl _,_,rfl⟩,λj g t h=>((m _ _ _).mp h).1 _ _ l,?_,?_⟩]
 .rintro j y g t A h;have⟨u,v,rfl⟩:=(m _ _ _).mp h;have⟨L,rfl⟩:=_7 A;have L:j<I.stps.length:=L;have N:=u _ _ l;delta L0
  simp![N,X7]
  erw[ex6 (I.stps[j]) D d I.vars fs I.stps.length ⟨rfl,u _ _ e,u _ _ (r _ _ f),by unfold Isl.vars;rw[X7];erw[P],ok.st _ (XW L),λS B=>?_⟩]
  simp!;erw[(m _ _ _).mpr ⟨u.trans B,_,rfl⟩]
 .rintro g t h;have⟨u,_⟩:=(m _ _ _).mp h;erw[q _ (r.trans u)]
abbrev EW:SpM:=λu M Q=>∃(k:Nat) (p b:Addr) (j:List Isl) (l:List MV) (fs:List Str),u=[.int k,.ref p,.ref b]/\k<=64/\M p=wc (.lst l)/\IslsIn M j l/\j.length<=5/\fs.length<=6/\M b=wc (.lst (fs.map MV.str))/\(fs++j.map (·.name)).Nodup/\(∀I∈j,GoodN I.name)/\(∀I∈j,IslOk k fs I)/\∀t,SameM M t->Q .non t
def Oo:MonW EW:=by walk_at "m"
def _6l(T:Txt E):FO E 54 "refuse_islands" EW:=by
 erw[T.bZ.ok T.g Oo 3 ["width","islands","ferry_names","earlier","island"] (fC T (fc (_7B T) (fc (EJ T) f0))) Lf (fun vs M Q h=>?_)];have⟨k,p,f,l,H,fs,rfl,i,B,c,h5,n,C,r,x,ok,q⟩:=h;erw[⟨rfl,?_⟩];show wSs _ _ _ [wc (.int k),wc (.ref p),wc (.ref f),we,we] M;delta Lf
 simp![C]
 intro e D;have F:=SameM.new D (.lst (fs.map MV.str));have L:updM M e (.lst (fs.map MV.str)) e=wc (.lst (fs.map MV.str)):=Xa;have N:=F _ _ B;have O:∀a o,M a=wc o->a≠e:=λa o h=>neM h D;generalize updM M e _=M1 at*;delta Ld
 simp![N]
 obtain⟨J,u⟩:∃J:Nat->Sm->MH->Prop,∀j w t,J j w t↔SameM M t/\t e=wc (.lst ((fs++(l.map (·.name)).take j).map MV.str))/\∃v,w=[wc (.int k),wc (.ref p),wc (.ref f),wc (.ref e),v]:=⟨_,λ_ _ _=>Yl⟩;erw[⟨J,(u _ _ _).mpr ⟨F,by simpa using L,_,rfl⟩,λj w t h=>((u _ _ _).mp h).1 _ _ B,?_,?_⟩]
 .rintro j y w t m h;have⟨d,g,v,rfl⟩:=(u _ _ _).mp h;have m:H[j]?=wc y:=m;have G:j<l.length:=by rw[<-c.1];erw[(XF.mp m).1]
  have P:l[j]?=wc l[j]:=Xb G;have I:(l.map (·.name))[j]?=wc l[j].name:=by rw[Xl,P];rfl
  have R:=XW G;have⟨a,b,rfl,_⟩:=(c.keep d).2 j l[j] y P m;have U:l[j].name∉fs++(l.map (·.name)).take j:=by
   rw[YO]at r;intro z;rcases Ya.mp z with z|z
   .erw[r.2.2 _ z _ (XR.mpr ⟨_,R,rfl⟩) rfl]
   .erw[EM r.2.1 I z]
  delta Lc;simp!;erw[ex3 (l[j].name) e (fs++(l.map (·.name)).take j) ⟨rfl,g,x _ R,U,λW S=>?_⟩];have Y:=S _ _ g;simp!;delta Lb
  simp![Y,X7,Yf,Ys]
  erw[⟨⟨_,rfl⟩,by lia,?_⟩]
  have Z:SameM M (updM W e (.lst ((fs++(l.map (·.name)).take j).map MV.str++[.str l[j].name]))):=λa o h=>by rw[X9 (O a o h)];erw[S _ _ (d _ _ h)]
  have A:updM W e (.lst ((fs++(l.map (·.name)).take j).map MV.str++[.str l[j].name])) e=wc (.lst ((fs++(l.map (·.name)).take (j+1)).map MV.str)):=by
   rw[Xa,XX,XX,UP,EN I]
  generalize updM W e _=M4 at*;delta La;simp!;erw[ex5 k (l[j]) _ f fs ⟨rfl,i,(c.keep Z).2 j _ _ P m,Z _ _ C,ok _ R,λM5 X=>?_⟩];simp!;erw[(u _ _ _).mpr ⟨Z.trans X,X _ _ A,_,rfl⟩]
 .rintro w t h;have⟨d,_⟩:=(u _ _ _).mp h;erw[q _ d]
abbrev EX:SpM:=λl M Q=>∃(x:Fer) (e:Addr) (j:List Str),l=[x.mv,.ref e]/\M e=wc (.lst (j.map MV.str))/\FerOk j x/\Q .non M
def Op:MonW EX:=by walk_at "m"
def _8b(T:Txt E):FO E 2 "refuse_ferry" EX:=by
 erw[T.aR.ok T.g Op 2 ["ferry","island_names"] (fC T (fc (EL T) f0)) Ll (fun t M Q h=>?_)];have⟨x,a,j,rfl,l,ok,q⟩:=h;erw[⟨rfl,?_⟩];show wSs _ _ _ [wc (.tup [.str x.name,.str x.giver,.str x.taker,.int x.k,.int x.st]),wc (.ref a)] M;have u:=ok.k3;have w:=ok.s1;have y:=ok.s3;delta Ll;simp!;erw[ex3 _ a j ⟨rfl,l,ok.g,?_⟩];simp!;delta Lj;simp!;erw[ex3 _ a j ⟨rfl,l,ok.t,?_⟩];simp!;delta Li;simp!;rw[if_neg ok.ne];delta Lh;simp!;rw[if_pos (by lia:(0:Int)<=(x.k:Int))]
 rw[if_neg (by lia:¬¬(x.k:Int)<=3)]
 delta Lg;simp!;rw[if_pos (by lia:(1:Int)<=(x.st:Int))]
 rw[if_neg (by lia:¬¬(x.st:Int)<=3)]
 erw[q]
def _dQ{F:List Fer}{g:Fer->Str}:∀{c:List (Key×MV)},(F.map (·.name)).Nodup->(∀x∈F,valM c (Xo x.name)=we)->∀x∈F,valM ((F.map λy=>((Xo y.name:Key),MV.str (g y))).foldl (λc z=>putM c z.1 z.2) c) (Xo x.name)=wc (.str (g x)):=by
 have stay:∀(F:List Fer)(c:List (Key×MV))(z:Str),(∀y∈F,y.name≠z)->valM ((F.map λy=>((Xo y.name:Key),MV.str (g y))).foldl (λc z=>putM c z.1 z.2) c) (Xo z)=valM c (Xo z):=by
  intro F
  induction F with
  |nil=>intro c z _;rfl
  |cons y r u=>
   intro c z h;rw[Xy,Vp,u _ _ (λy w=>h y (XD _ w)),C8,if_neg (λe=>h y (XZ ..) (V1 e).symm)]
 induction F with
 |nil=>intro c _ _ x j;cases j
 |cons y r u=>
  intro c l h x j;rw[Xy,Yi]at l;rw[Xy,Vp];rcases Xh.mp j with rfl|j
  .rw[stay _ _ _ (λz t e=>l.1 (XR.mpr ⟨z,t,e⟩)),C8,if_pos rfl]
  .erw[u l.2 (λz t=>?_) x j];rw[C8,if_neg (λe=>l.1 (XR.mpr ⟨z,t,V1 e⟩))];erw[h z (XD _ t)]
def dirK(F:List Fer)(g:Fer->Str):List (Key×MV):=Ua (F.map λy=>((Xo y.name:Key),MV.str (g y)))
def Oq{F:List Fer}{g:Fer->Str}(j:(F.map (·.name)).Nodup){x:Fer}(l:x∈F):valM (dirK F g) (Xo x.name)=wc (.str (g x)):=_dQ j (λ_ _=>rfl) x l
abbrev EY:SpM:=λj M Q=>∃(z:Str) (S:Stp) (a b:Addr) (F:List Fer),j=[.str z,S.mv,.ref a,.ref b]/\M a=wc (.dic (dirK F (·.giver)))/\M b=wc (.dic (dirK F (·.taker)))/\(F.map (·.name)).Nodup/\ZN F z S/\(∀f,(∃x,S=.take f x)\/(∃U,S=.give f U)->f∈F.map (·.name))/\Q .non M
def Os:MonW EY:=by walk_at "m"
def _5h(T:Txt E):FO E 1 "refuse_wrong_end" EY:=by
 erw[T.bW.ok T.g Os 4 ["name","step","givers","takers"] (fC T f0) Lm (fun d M Q h=>?_)];have⟨z,S,a,b,F,rfl,w,m,l,t,u,q⟩:=h;erw[⟨rfl,?_⟩];show wSs _ _ _ [wc (.str z),wc S.mv,wc (.ref a),wc (.ref b)] M;delta Lm;cases S with
 |take f x=>
  have⟨y,j,rfl⟩:=XR.mp (u f (.inl ⟨x,rfl⟩));have v:=Oq (g:=(·.taker)) l j;have e:=t y j rfl
  simp![ER,m,v,e]
  delta Ac
  simp![ER]
  erw[q]
 |give f U=>
  have⟨y,j,rfl⟩:=XR.mp (u f (.inr ⟨U,rfl⟩));have v:=Oq (g:=(·.giver)) l j;have e:=t y j rfl
  simp![ES]
  delta Ac
  simp![ES,w,v,e]
  erw[q]
 |put f U=>
  simp![ET]
  delta Ac
  simp![ET]
  erw[q]
 |jump U i=>
  simp![EU]
  delta Ac
  simp![EU]
  erw[q]
def _at{fs j:List Str}{n:Nat}{S:Stp}(h:ZM fs j n S):∀f,(∃x,S=.take f x)\/(∃U,S=.give f U)->f∈fs:=by
 rintro f (⟨x,rfl⟩|⟨U,rfl⟩)
 .erw[h.1]
 .erw[h.1]
abbrev EZ:SpM:=λu M Q=>∃(p f:Addr) (l:List MV) (j:List Isl) (F:List Fer),u=[.ref p,.ref f]/\M p=wc (.lst l)/\IslsIn M j l/\j.length<=5/\M f=wc (.lst (F.map Fer.mv))/\F.length<=6/\(F.map (·.name)).Nodup/\
 (∀I∈j,I.stps.length<=12/\∀s∈I.stps,ZN F I.name s/\∃w n,ZM (F.map (·.name)) w n s)/\∀t,SameM M t->Q .non t
def Ot:MonW EZ:=by walk_at "m"
def Ou(F:List Fer)(g:Fer->Str):(F.map λx=>MV.tup [.str x.name,.str (g x)])=(F.map λy=>((Xo y.name:Key),MV.str (g y))).map prM:=by rw[Y5];rfl
def _4u(T:Txt E):FO E 2 "refuse_wrong_ends" EZ:=by
 erw[T.aP.ok T.g Ot 2 ["islands","ferries","givers","takers","island","step"] (fC T (fc (_5h T) f0)) Lr (fun vs M Q h=>?_)];have⟨p,f,ys,Is,F,rfl,X,H,h5,e,h6,o,hE,q⟩:=h;erw[⟨rfl,?_⟩];show wSs _ _ _ [wc (.ref p),wc (.ref f),we,we,we,we] M;have z:=(UB (t:=[("refuse_wrong_end",EY)]) (fMc Os nl0));delta Lr;simp!;erw[_L F Fer.mv (λx=>.tup [.str x.name,.str x.giver]) ?_ ?_ z λD hD=>?_]
 .simp![e]
  erw[⟨rfl,by lia,e⟩]
 .intro x L u s;simp only[sCm,Xy,YD,Z0,Z1,YC,Yj]
  simp![Fer.mv]
  try erw[⟨rfl,rfl⟩]
 rw[Ou F (·.giver)];have s1:=SameM.new hD (.lst ((F.map λy=>((Xo y.name:Key),MV.str y.giver)).map prM));have d1:updM M D (.lst ((F.map λy=>((Xo y.name:Key),MV.str y.giver)).map prM)) D=wc (.lst ((F.map λy=>((Xo y.name:Key),MV.str y.giver)).map prM)):=Xa;generalize updM M D _=M1 at*;simp!;erw[⟨_,d1,λa ha=>?_⟩];have G:=s1.trans (SameM.new ha (.dic (dirK F (·.giver))));have N:updM M1 a (.dic (dirK F (·.giver))) a=wc (.dic (dirK F (·.giver))):=Xa
 change wSs _ _ _ _ (updM M1 a (.dic (dirK F (·.giver))))
 generalize updM M1 a _=M2 at*;have m:=G _ _ e;delta Lq;simp!;erw[_L F Fer.mv (λx=>.tup [.str x.name,.str x.taker]) ?_ ?_ z λO P=>?_]
 .simp![m]
  erw[⟨rfl,by lia,m⟩]
 .intro x L u s;simp only[sCm,Xy,YD,Z0,Z1,YC,Yj]
  simp![Fer.mv]
  try erw[⟨rfl,rfl⟩]
 rw[Ou F (·.taker)];have s3:=SameM.new P (.lst ((F.map λy=>((Xo y.name:Key),MV.str y.taker)).map prM));have d3:updM M2 O (.lst ((F.map λy=>((Xo y.name:Key),MV.str y.taker)).map prM)) O=wc (.lst ((F.map λy=>((Xo y.name:Key),MV.str y.taker)).map prM)):=Xa;generalize updM M2 O _=M3 at*;simp!;erw[⟨_,d3,λb hb=>?_⟩];have S:=s3.trans (SameM.new hb (.dic (dirK F (·.taker))));have R:updM M3 b (.dic (dirK F (·.taker))) b=wc (.dic (dirK F (·.taker))):=Xa
 change wSs _ _ _ _ (updM M3 b (.dic (dirK F (·.taker))))
 generalize updM M3 b _=M4 at*;have U:=S _ _ N;have W:=G.trans S;have g:=W _ _ X;have Y:=H.keep W;delta Lp
 simp![g]
 obtain⟨J,r⟩:∃J:Nat->Sm->MH->Prop,∀j l u,J j l u↔u=M4/\∃v w,l=[wc (.ref p),wc (.ref f),wc (.ref a),wc (.ref b),v,w]:=⟨_,λ_ _ _=>Yl⟩;erw[⟨J,(r _ _ _).mpr ⟨rfl,_,_,rfl⟩,λj l u h=>by rw[((r _ _ _).mp h).1];erw[g],?_,?_⟩]
 .rintro j y l u hy h;have⟨rfl,v,w,rfl⟩:=(r _ _ _).mp h;have⟨I,hm,c,d,rfl,hc,hd⟩:=Y.mem (Xv hy);have⟨l12,hS⟩:=hE I hm;delta Lo
  simp![hd]
  obtain⟨Z,t⟩:∃Z:Nat->Sm->MH->Prop,∀j l M,Z j l M↔M=u/\∃w,l=[wc (.ref p),wc (.ref f),wc (.ref a),wc (.ref b),wc (.tup [.str I.name,.ref c,.ref d]),w]:=⟨_,λ_ _ _=>Yl⟩;erw[⟨Z,(t _ _ _).mpr ⟨rfl,_,rfl⟩,λj l M h=>by rw[((t _ _ _).mp h).1];erw[hd],?_,?_⟩]
  .rintro i x l A L B;have⟨rfl,w,rfl⟩:=(t _ _ _).mp B;have⟨C,rfl⟩:=_7 L;have C:i<I.stps.length:=C;have⟨e1,ns,n,e2⟩:=hS _ (XW C);delta Ln;simp!;erw[ex5 I.name (I.stps[i]) a b F ⟨rfl,U,R,o,e1,_at e2,?_⟩];simp!;erw[(t _ _ _).mpr ⟨rfl,_,rfl⟩]
  .rintro l A B;have⟨rfl,w,rfl⟩:=(t _ _ _).mp B
   try walk_at "s"
   erw[(r _ _ _).mpr ⟨rfl,_,_,rfl⟩]
 .rintro l u h;have⟨rfl,_⟩:=(r _ _ _).mp h;erw[q _ W]
theorem FroD.up{M:MH}:∀{n:Nat} {v j:MV},FroD n M v j->FroD (n+1) M v j
 |0,_,_,h=>.inl h
 |n+1,v,j,h=>by
  rcases h with h|⟨l,t,u,w,y⟩
  .erw[.inl h]
  .erw[.inr ⟨l,t,u,w,λp z=>(y p z).up⟩]
def FroD.to{M:MH}{n m:Nat}{v j:MV}(h:FroD n M v j)(l:n<=m):FroD m M v j:=by
 obtain⟨d,rfl⟩:∃d,m=n+d:=⟨m - n,by lia⟩
 clear l
 induction d with
 |zero=>erw[h]
 |succ d t=>erw[t.up]
def fro_str{M:MH}{z:Str}:FroD 0 M (.str z) (.str z):=⟨.inr ⟨z,rfl⟩,rfl⟩
def fro_int{M:MH}{i:Int}:FroD 0 M (.int i) (.int i):=⟨.inl ⟨i,rfl⟩,rfl⟩
def _O{M:MH}{n:Nat}{j:List MV}(l:j.length<=1000)(h:∀x∈j,FroD n M x x):FroD (n+1) M (.tup j) (.tup j):=by
 have t:(j.map λx=>(x,x)).map (·.1)=j:=by rw[Y5];erw[AK j]
 have u:(j.map λx=>(x,x)).map (·.2)=j:=by rw[Y5];erw[AK j]
 erw[.inr ⟨j.map λx=>(x,x),.inl (by rw[t]),by rw[u],by rw[X7];erw[l],λp w=>?_⟩]
 have⟨x,y,rfl⟩:=XR.mp w;erw[h x y]
def F0{M:MH}{n:Nat}{a:Addr}{j:List MV}(e:M a=wc (.lst j))(l:j.length<=1000)(h:∀x∈j,FroD n M x x):FroD (n+1) M (.ref a) (.tup j):=by
 have t:(j.map λx=>(x,x)).map (·.1)=j:=by rw[Y5];erw[AK j]
 have u:(j.map λx=>(x,x)).map (·.2)=j:=by rw[Y5];erw[AK j]
 erw[.inr ⟨j.map λx=>(x,x),.inr ⟨a,rfl,by rw[t];erw[e]⟩,by rw[u],by rw[X7];erw[l],λp w=>?_⟩]
 have⟨x,y,rfl⟩:=XR.mp w;erw[h x y]
theorem UF{M:MH}:∀U:Tm,FroD U.depth M U.mv U.mv
 |.num n=>_O (j:=[.str "num",.int n]) (by simp) (by
   intro x j;simp only[Xh,XM,or_false]at j;rcases j with rfl|rfl
   .erw[fro_str]
   .erw[fro_int])
 |.var z=>_O (j:=[.str "var",.str z]) (by simp) (by
   intro x j;simp only[Xh,XM,or_false]at j;rcases j with rfl|rfl
   .erw[fro_str]
   .erw[fro_str])
 |.two f a b=>by
  have l:=UF (M:=M) a;have t:=UF (M:=M) b;show FroD (1+max a.depth b.depth) M (.tup [.str f.str,a.mv,b.mv]) (.tup [.str f.str,a.mv,b.mv]);rw[UV];erw[_O (by simp) λx j=>?_]
  simp only[Xh,XM,or_false]at j;rcases j with rfl|rfl|rfl
  .erw[fro_str.to (YQ _)]
  .erw[l.to (by lia)]
  .erw[t.to (by lia)]
 |.pick c a b=>by
  have u:=UF (M:=M) c;have l:=UF (M:=M) a;have t:=UF (M:=M) b;show FroD (1+max c.depth (max a.depth b.depth)) M (.tup [.str "pick",c.mv,a.mv,b.mv]) (.tup [.str "pick",c.mv,a.mv,b.mv]);rw[UV];erw[_O (by simp) λx j=>?_]
  simp only[Xh,XM,or_false]at j;rcases j with rfl|rfl|rfl|rfl
  .erw[fro_str.to (YQ _)]
  .erw[u.to (by lia)]
  .erw[l.to (by lia)]
  .erw[t.to (by lia)]
def _j1{M:MH}{fs l:List Str}{n:Nat}{S:Stp}(h:ZM fs l n S):FroD 9 M S.mv S.mv:=by
 cases S with
 |take f x=>
  erw[_O (j:=[.str "take",.str f,.str x]) (by simp) fun v j=>?_]
  simp only[Xh,XM,or_false]at j;rcases j with rfl|rfl|rfl<;>erw[fro_str.to (by decide)]
 |give f U=>
  erw[_O (j:=[.str "give",.str f,U.mv]) (by simp) fun v j=>?_]
  simp only[Xh,XM,or_false]at j;rcases j with rfl|rfl|rfl
  .erw[fro_str.to (by decide)]
  .erw[fro_str.to (by decide)]
  .erw[(UF U).to h.2.1]
 |put f U=>
  erw[_O (j:=[.str "put",.str f,U.mv]) (by simp) fun v j=>?_]
  simp only[Xh,XM,or_false]at j;rcases j with rfl|rfl|rfl
  .erw[fro_str.to (by decide)]
  .erw[fro_str.to (by decide)]
  .erw[(UF U).to h.2.1]
 |jump U i=>
  erw[_O (j:=[.str "jump",U.mv,.int i]) (by simp) fun v j=>?_]
  simp only[Xh,XM,or_false]at j;rcases j with rfl|rfl|rfl
  .erw[fro_str.to (by decide)]
  .erw[(UF U).to h.1.1]
  .erw[fro_int.to (by decide)]
def _ka{M:MH}{k:Nat}{fs:List Str}{I:Isl}{y:MV}(ok:IslOk k fs I)(h:IslIn M I y):FroD 11 M y I.mv:=by
 have⟨a,b,rfl,u,w⟩:=h;have m:=ok.nv;have g:=ok.ns;erw[.inr ⟨[(.str I.name,.str I.name),(.ref a,.tup (I.prs.map prV)),(.ref b,.tup (I.stps.map Stp.mv))],.inl rfl,rfl,by simp,λp l=>?_⟩]
 simp only[Xh,XM,or_false]at l;rcases l with rfl|rfl|rfl
 .erw[fro_str.to (by decide)]
 .erw[F0 u (by rw[X7];lia) λx j=>?_]
  have⟨q,_,rfl⟩:=XR.mp j;erw[(_O (n:=0) (j:=[.str q.1,.int q.2]) (by simp) λv t=>?_).to (by decide)]
  simp only[Xh,XM,or_false]at t;rcases t with rfl|rfl
  .erw[fro_str]
  .erw[fro_int]
 .erw[F0 w (by rw[X7];lia) λx j=>?_]
  have⟨S,z,rfl⟩:=XR.mp j;erw[_j1 (ok.st S z)]
def _kw{M:MH}(f:Fer):FroD 1 M f.mv f.mv:=by
 erw[_O (j:=[.str f.name,.str f.giver,.str f.taker,.int f.k,.int f.st]) (by simp) λv j=>?_]
 simp only[Xh,XM,or_false]at j;rcases j with rfl|rfl|rfl|rfl|rfl
 .erw[fro_str]
 .erw[fro_str]
 .erw[fro_str]
 .erw[fro_int]
 .erw[fro_int]
def _hB{M:MH}{k:Nat}{fs:List Str}{Is:List Isl}{j:List MV}{p:Addr}(w:M p=wc (.lst j))(h:IslsIn M Is j)(l:Is.length<=5)(ok:∀I∈Is,IslOk k fs I):FroD 12 M (.ref p) (.tup (Is.map Isl.mv)):=by
 have d:=h.1;have y:(j.zip (Is.map Isl.mv)).map (·.1)=j:=List.map_fst_zip (by rw[X7];lia)
 have z:(j.zip (Is.map Isl.mv)).map (·.2)=Is.map Isl.mv:=List.map_snd_zip (by rw[X7];lia)
 erw[.inr ⟨j.zip (Is.map Isl.mv),.inr ⟨p,rfl,by rw[y];erw[w]⟩,by rw[z],by rw[AH,X7];lia,λq m=>?_⟩]
 have⟨i,g,rfl⟩:=YB m;rw[AH,X7]at g;have u:i<j.length:=by lia
 have t:i<Is.length:=by lia
 rw[List.getElem_zip,CO];erw[_ka (ok _ (XW t)) (h.2 i _ _ (Xb t) (Xb u))]
noncomputable def fstM:MV->MV
 |.tup (x::_)=>x
 |v=>v
abbrev Ch:SpM:=λt M Q=>∃(p f:Addr) (j:List MV) (W:Wld),t=[.int W.w,.ref p,.ref f]/\M p=wc (.lst j)/\IslsIn M W.isl j/\M f=wc (.lst (W.fer.map Fer.mv))/\W.Good/\∀l,SameM M l->Q W.mv l
def Ov:MonW Ch:=by walk_at "m"
def _jN(T:Txt E):FO E 56 "made" Ch:=by
 erw[T.bo.ok T.g Ov 3 ["width","islands","ferries","island_names","ferry"] (fC T (fc (Oc T 13) (fc (_cl T) (fc (_8b T) (fc (_3B T) (fc (_6l T) (fc (_4u T) f0))))))) LC (fun vs M Q h=>?_)];have⟨p,f,O,W,rfl,m,u,w,G,q⟩:=h;erw[⟨rfl,?_⟩];have g:=UB (t:=[("frozen",UE 13),("is_width",EK),("refuse_ferry",EX),("refuse_ferry_names",EO),("refuse_islands",EW),("refuse_wrong_ends",EZ)]) (fMc (Cg 13) (fMc Of (fMc Op (fMc Oi (fMc Oo (fMc Ot (fun _ h=>nomatch h)))))));show wSs _ _ _ [wc (.int W.w),wc (.ref p),wc (.ref f),we,we] M;have w1:=G.w1;have w2:=G.w2;have Z:=G.i5;have A:=G.f6;have hl:=u.1;have nd:=YO.mp G.nd;delta LC;simp!;erw[⟨W.w,rfl,by lia,by lia,?_⟩]
 simp!;delta LB
 simp![m]
 erw[XU (λz=>by lia) (λ_=>?_)]
 delta LA
 simp![w,X7]
 erw[XU (λz=>by lia) (λ_=>?_)]
 delta Lz;simp!;erw[⟨f,W.fer,rfl,w,A,nd.1,λx P=>G.fg _ (XR.mpr ⟨x,P,rfl⟩),λM1 s1=>?_⟩];simp!;have d:=s1 _ _ w;delta Ly;simp!;erw[_L W.fer Fer.mv (λx=>.str x.name) ?_ ?_ g λD B=>?_]
 .simp![d]
  erw[⟨rfl,by lia,d⟩]
 .intro x P l s;simp only[sCm,Xy,YD,Z0,Z1,YC,Yj]
  simp![Fer.mv]
  try erw[⟨rfl,rfl⟩]
 have eF:(W.fer.map λx=>MV.str x.name)=W.fns.map MV.str:=by unfold Wld.fns;rw[Y5];rfl
 rw[eF];have C:=s1.trans (SameM.new B (.lst (W.fns.map MV.str)));have F:updM M1 D (.lst (W.fns.map MV.str)) D=wc (.lst (W.fns.map MV.str)):=Xa;generalize updM M1 D _=M2 at*
 try walk_at "s"
 erw[ex6 W.w p D W.isl O W.fns ⟨rfl,w2,C _ _ m,u.keep C,Z,by unfold Wld.fns;rw[X7];erw[A],F,G.nd,λI c=>G.ig _ (XR.mpr ⟨I,c,rfl⟩),G.io,λM3 s3=>?_⟩]
 have R:=C.trans s3;have e:=R _ _ m;have hf3:=R _ _ w;have X:=u.keep R;simp!;delta Lx;simp!;erw[_L O (λy=>y) fstM ?_ ?_ g λD B=>?_]
 .simp![e]
  erw[⟨by simp[Src.items],by lia,e⟩]
 .intro y H l s;have⟨I,_,a,b,rfl,_⟩:=X.mem H;simp only[sCm,Xy,YD,Z0,Z1,YC,Yj];simp!
  rfl
 have eI:O.map fstM=W.ins.map MV.str:=u.fst λz r=>rfl;rw[eI];have U:=R.trans (SameM.new B (.lst (W.ins.map MV.str)));have o:updM M3 D (.lst (W.ins.map MV.str)) D=wc (.lst (W.ins.map MV.str)):=Xa;generalize updM M3 D _=M5 at*;have t:=U _ _ w;delta Lw
 simp![t]
 obtain⟨J,L⟩:∃J:Nat->Sm->MH->Prop,∀j N l,J j N l↔l=M5/\∃v,N=[wc (.int W.w),wc (.ref p),wc (.ref f),wc (.ref D),v]:=⟨_,λ_ _ _=>Yl⟩;erw[⟨J,(L _ _ _).mpr ⟨rfl,_,rfl⟩,λj N l h=>by rw[((L _ _ _).mp h).1];erw[t],?_,?_⟩]
 .rintro j y N l H h;have⟨rfl,v,rfl⟩:=(L _ _ _).mp h;have⟨i,rfl⟩:=_7 H;have i:j<W.fer.length:=i;delta Lv;simp!;erw[ex3 (W.fer[j]) D W.ins ⟨rfl,o,G.fo _ (XW i),?_⟩];simp!;erw[(L _ _ _).mpr ⟨rfl,_,rfl⟩]
 .rintro N l h;have⟨rfl,v,rfl⟩:=(L _ _ _).mp h;delta Lu;simp!;erw[ex5 p f O W.isl W.fer ⟨rfl,U _ _ m,u.keep U,Z,t,A,nd.1,λI c=>⟨(G.io I c).ns,λS hS=>⟨G.en I c S hS,_,_,(G.io I c).st S hS⟩⟩,λM6 s6=>?_⟩];have Y:=U.trans s6;simp!;delta Ls;simp!;erw[⟨_,W.mv,rfl,?_,λl s'=>q l (Y.trans s')⟩];erw[.inr ⟨[(.int W.w,.int W.w),(.ref p,.tup (W.isl.map Isl.mv)),(.ref f,.tup (W.fer.map Fer.mv))],.inl rfl,rfl,by simp,λz hz=>?_⟩]
  simp only[Xh,XM,or_false]at hz;rcases hz with rfl|rfl|rfl
  .erw[fro_int.to (by decide)]
  .erw[_hB (Y _ _ m) (u.keep Y) Z G.io]
  .erw[(F0 (n:=1) (Y _ _ w) (by rw[X7];lia) λx P=>?_).to (by decide)]
   have⟨y,_,rfl⟩:=XR.mp P;erw[_kw y]
def _cn(m:Nat):∀n:Nat,(m^^^n)+2*(m&&& n)=m+n:=by
 induction m using Nat.strongRecOn with
 |ind m l=>
  intro n;by_cases h0:m=0
  .subst h0;simp
  .have j:=l (m/2) (by lia) (n/2)
   rw[<-Nat.xor_div_two,<-Nat.and_div_two]at j;have t:=@Nat.xor_mod_two_eq_one m n;have u:=@Nat.and_mod_two_eq_one m n;lia
noncomputable def seen(o n c:Nat):Nat:=o^^^((o^^^n)&&& c)
def Ci(m n:Nat):Bt (m:Int) (n:Int)=((m^^^n:Nat):Int):=by
 rw[PyProof.Rows.bitXor_and,Fv (U3 m) (U3 n),Z2,Z2];have:=_cn m n;lia
def _hU(m n:Nat):Bs (m:Int) (n:Int)=((m&&& n:Nat):Int):=by
 rw[Fv (U3 m) (U3 n),Z2,Z2]
noncomputable def gray(n:Nat):Nat:=n^^^(n/2)
noncomputable def ugF:Nat->Nat->Nat->Nat
 |0,n,_=>n
 |k+1,n,a=>if a=0 then n else ugF k (n^^^a) (a/2)
def _gL:∀k n,ugF k n 0=n
 |0,_=>rfl
 |k+1,n=>by simp[ugF]
def W7(w:Nat):Nat:=ugF 64 w (w/2)
noncomputable def Cj(x:Nat):Bool:=x==1||x==2||x==4||x==8
def Zl4(m:Nat):Bool:=(Xr (2^(m+1))).all λn=>decide (gray n<16)&&decide (W7 (gray n)=n)&&Cj (gray n^^^gray ((n+1)%2^(m+1)))
def _gM:(Xr 4).all Zl4=wf:=by decide+kernel
def Ow{m n:Nat}(l:m<4)(t:n<2^(m+1)):gray n<16/\W7 (gray n)=n/\Cj (gray n^^^gray ((n+1)%2^(m+1)))=wf:=by
 have u:=Ul.mp _gM m (Zf.mpr l);have j:=Ul.mp u n (Zf.mpr t);simp only[Xs,decide_eq_true_eq]at j;erw[⟨j.1.1,j.1.2,j.2⟩]
def _kI{x c:Nat}(h:Cj x=wf):x&&& c=0\/x&&& c=x:=by
 have l:∀i:Nat,(2^i&&& c)=0\/(2^i&&& c)=2^i:=λi=>by
  cases h:c.testBit i with
  |false=>
   left
   erw[Nat.eq_of_testBit_eq λj=>?_];rw[Nat.testBit_and,Nat.testBit_two_pow,Nat.zero_testBit];by_cases e:i=j
   .subst e;rw[h,Ba]
   .rw[decide_eq_false e,Wv]
  |true=>
   right
   erw[Nat.eq_of_testBit_eq λj=>?_];rw[Nat.testBit_and,Nat.testBit_two_pow];by_cases e:i=j
   .subst e;rw[h,Bool.and_true]
   .rw[decide_eq_false e,Wv]
 unfold Cj at h;simp only[B8,beq_iff_eq]at h;rcases h with((rfl|rfl)|rfl)|rfl
 .erw[l 0]
 .erw[l 1]
 .erw[l 2]
 .erw[l 3]
set_option tactic.hygienic true in
def _eT{m a b c:Nat}(t:m<4)(h:a=b\/a=b+1):
  seen (gray (b%2^(m+1))) (gray (a%2^(m+1))) c=if c&&&(gray (a%2^(m+1))^^^gray (b%2^(m+1)))=0 then gray (b%2^(m+1))else gray (a%2^(m+1)):=by
 have l:0<2^(m+1):=Zs _;have u:=Ow t (U2 b l);have w:a=b+1->(b%2^(m+1)+1)%2^(m+1)=a%2^(m+1):=λe=>by rw[e,Nat.mod_add_mod]
 unfold seen;rcases h with rfl|h
 .rw[Nat.xor_self,Nat.and_zero,if_pos rfl,Nat.zero_and,Nat.xor_zero]
 .have j:=u.2.2;rw[w h]at j;rw[Nat.and_comm c,Nat.xor_comm (gray (a%2^(m+1)))];rcases _kI (c:=c) j with e|e
  .rw[e,if_pos rfl,Nat.xor_zero]
  .rw[e,<-Nat.xor_assoc,Nat.xor_self,Nat.zero_xor];split
   .rename_i z
    rw[z]at j;cases j
   .rfl
structure Ab where
 k:Nat
 ws:List Nat
 tn:Nat
 gp:Nat
 tp:Nat
 gm:Int
 tm:Int
 gx:List Nat
 tx:List Nat
 lg:Nat
 lt:Nat
def Zw(k n p:Nat)(fresh:Bool)(c:Nat):Nat:=if fresh=wf/\c&&&(gray (n%2^(k+1))^^^gray (p%2^(k+1)))=0 then p else n
noncomputable def XH(j:List Nat):Nat:=j.getLastD 0
def Ab.gSamp(A:Ab)(c:Nat):Nat:=Zw A.k A.tn A.tp (decide (A.gm<A.tm)) c
def Ab.tSamp(A:Ab)(c:Nat):Nat:=Zw A.k A.ws.length A.gp (decide (A.tm<A.gm)) c
def Ab.gives(A:Ab)(w:Option Nat):Bool:=w.isSome&&decide (A.ws.length<XH A.gx+2^A.k)
def Ab.takes(A:Ab)(w:Bool):Bool:=w&&decide (XH A.tx≠A.tn)
noncomputable def Ab.giver(A:Ab)(m:Int)(c:Nat)(w:Option Nat):Ab:=
 {A with ws:=if A.gives w=wf then A.ws++[w.getD 0]else A.ws,gp:=A.ws.length,gm:=m,gx:=A.gSamp c::A.gx.dropLast,lg:=A.tn}
noncomputable def Ab.taker(A:Ab)(m:Int)(c:Nat)(w:Bool):Ab:=
 {A with tn:=if A.takes w=wf then A.tn+1 else A.tn,tp:=A.tn,tm:=m,tx:=A.tSamp c::A.tx.dropLast,lt:=A.ws.length}
structure Ab.Ok (A:Ab):Prop where
 k4:A.k<4
 gl:1<=A.gx.length/\A.gx.length<=3
 tl:A.tx.length=A.gx.length
 g1:A.gp<=A.ws.length/\A.ws.length<=A.gp+1
 t1:A.tp<=A.tn/\A.tn<=A.tp+1
 gs:A.gx.Pairwise (·>= ·)
 ts:A.tx.Pairwise (·>= ·)
 gb:∀d∈A.gx,d<=A.lg/\A.ws.length<=d+2^A.k
 tb:∀c∈A.tx,c<=A.lt/\A.tn<=c
 lg1:A.lg<=A.tn
 lt1:A.lt<=A.ws.length
 lg2:A.gm<A.tm->A.lg<=A.tp
 lt2:A.tm<A.gm->A.lt<=A.gp
theorem Ag:∀{j:List Nat},1<=j.length->j=j.dropLast++[XH j]
 |[],h=>by simp at h
 |[a],_=>rfl
 |a::b::s,_=>by
  have l:=Ag (j:=b::s) (by simp)
  have e:XH (a::b::s)=XH (b::s):=by simp[XH]
  rw[e];show a::b::s=a::((b::s).dropLast++[XH (b::s)]);rw[<-l]
def _P{j:List Nat}(h:1<=j.length):XH j∈j:=by
 have e:=Ag h;rw[e];have l:XH (j.dropLast++[XH j])=XH j:=by rw[<-e]
 rw[l];simp
def _gE{k n p:Nat}{f:Bool}{c:Nat}:Zw k n p f c=p\/Zw k n p f c=n:=by
 unfold Zw;split
 .erw[.inl rfl]
 .erw[.inr rfl]
def _gD{k n p:Nat}{c:Nat}:Zw k n p wg c=n:=by simp[Zw]
def Ox{k n p l:Nat}{f:Bool}{c:Nat}(t:p<=n)(j:l<=n)(u:f=wf->l<=p):l<=Zw k n p f c/\Zw k n p f c<=n:=by
 cases f with
 |false=>rw[_gD];erw[⟨j,Xc _⟩]
 |true=>
  rcases @_gE k n p wf c with e|e
  all_goals first|erw[⟨by rw[e];erw[u rfl],by rw[e];erw[t]⟩]|erw[⟨by rw[e];erw[j],by rw[e];erw[Xc _]⟩]
theorem Ab.Ok.gSamp{A:Ab}(h:A.Ok)(c:Nat):A.lg<=A.gSamp c/\A.gSamp c<=A.tn:=Ox h.t1.1 h.lg1 (λf=>h.lg2 (of_decide_eq_true f))
theorem Ab.Ok.tSamp{A:Ab}(h:A.Ok)(c:Nat):A.lt<=A.tSamp c/\A.tSamp c<=A.ws.length:=Ox h.g1.1 h.lt1 (λf=>h.lt2 (of_decide_eq_true f))
def Ab.Ok.room{A:Ab}(h:A.Ok):A.tn<=A.ws.length/\A.ws.length<=A.tn+2^A.k:=by
 have a:=h.gb _ (_P h.gl.1);have b:=h.tb _ (_P (by rw[h.tl];erw[h.gl.1]))
 have:=h.lg1;have:=h.lt1;lia
set_option tactic.hygienic true in
theorem Ab.Ok.giver{A:Ab}(h:A.Ok){m:Int}{c:Nat}{w:Option Nat}(l:A.tm<m):(A.giver m c w).Ok:=by
 have u:=h.gSamp c;have y:=h.gb _ (_P h.gl.1);have rm:=h.room;have g:∃n,(A.giver m c w).ws.length=n/\A.ws.length<=n/\n<=A.ws.length+1/\n<=XH A.gx+2^A.k:=by
  unfold Ab.giver;dsimp only;split
  .rename_i e
   unfold Ab.gives at e;simp only[Xs,decide_eq_true_eq]at e;erw[⟨_,rfl,by simp,by simp,by simp;lia⟩]
  .erw[⟨_,rfl,by lia,by lia,by lia⟩]
 have⟨n,j,t,f,r⟩:=g;erw[⟨h.k4,?_,?_,?_,h.t1,?_,h.ts,?_,?_,Xc _,?_,λz=>?_,λz=>?_⟩]
 .show 1<=(A.gSamp c::A.gx.dropLast).length/\(A.gSamp c::A.gx.dropLast).length<=3;have:=h.gl;simp only[Yr,Wj];lia
 .show A.tx.length=(A.gSamp c::A.gx.dropLast).length;have:=h.gl;have:=h.tl;simp[Wj];lia
 .rw[j];erw[⟨t,f⟩]
 .show(A.gSamp c::A.gx.dropLast).Pairwise (·>= ·);rw[CM];erw[⟨λd hd=>?_,FY (List.dropLast_sublist _) h.gs⟩];have:=(h.gb d (AB _ hd)).1;show d<=A.gSamp c;lia
 .intro d hd;rw[j];show d<=A.tn/\n<=d+2^A.k;rcases Xh.mp hd with rfl|hd
  .have:=y.1;erw[⟨u.2,by lia⟩]
  .have l:=AB _ hd;erw[⟨XA (h.gb d l).1 h.lg1,?_⟩];have:XH A.gx<=d:=by
    have e:=Ag h.gl.1;have p:=h.gs;rw[e]at p;erw[(List.pairwise_append.mp p).2.2 d hd _ (Y9.mpr rfl)]
   lia
 .erw[h.tb]
 .rw[j];erw[XA h.lt1 t]
 .erw[absurd z (by show¬m<A.tm;lia)]
 .erw[h.lt1]
set_option tactic.hygienic true in
theorem Ab.Ok.taker{A:Ab}(h:A.Ok){m:Int}{c:Nat}{w:Bool}(t:A.gm<m):(A.taker m c w).Ok:=by
 have y:=h.tSamp c;have j:1<=A.tx.length:=by rw[h.tl];erw[h.gl.1]
 have g:=h.tb _ (_P j);have rm:=h.room;have f:∃n,(A.taker m c w).tn=n/\A.tn<=n/\n<=A.tn+1/\n<=XH A.tx:=by
  unfold Ab.taker;dsimp only;split
  .rename_i e
   unfold Ab.takes at e;simp only[Xs,decide_eq_true_eq]at e;erw[⟨_,rfl,by simp,by simp,by lia⟩]
  .erw[⟨_,rfl,by lia,by lia,by lia⟩]
 have⟨n,l,u,r,L⟩:=f;erw[⟨h.k4,h.gl,?_,h.g1,?_,h.gs,?_,?_,?_,?_,Xc _,λz=>?_,λz=>?_⟩]
 .show(A.tSamp c::A.tx.dropLast).length=A.gx.length;have:=h.tl;simp[Wj];lia
 .rw[l];erw[⟨u,r⟩]
 .show(A.tSamp c::A.tx.dropLast).Pairwise (·>= ·);rw[CM];erw[⟨λd hd=>?_,FY (List.dropLast_sublist _) h.ts⟩];have:=(h.tb d (AB _ hd)).1;show d<=A.tSamp c;lia
 .erw[h.gb]
 .intro d hd;rw[l];show d<=A.ws.length/\n<=d;rcases Xh.mp hd with rfl|hd
  .erw[⟨y.2,by have:=g.1;lia⟩]
  .have t:=AB _ hd;erw[⟨XA (h.tb d t).1 h.lt1,?_⟩];have:XH A.tx<=d:=by
    have e:=Ag j;have p:=h.ts;rw[e]at p;erw[(List.pairwise_append.mp p).2.2 d hd _ (Y9.mpr rfl)]
   lia
 .rw[l];erw[XA h.lg1 u]
 .erw[h.lg1]
 .erw[absurd z (by show¬m<A.gm;lia)]
noncomputable def ab0(k st:Nat):Ab:=⟨k,[],0,0,0,-1,-1,Xg st 0,Xg st 0,0,0⟩
def Oy(n:Nat):(Xg n 0).Pairwise (·>= ·):=by
 induction n with
 |zero=>erw[.nil]
 |succ n j=>rw[Zc,CM];erw[⟨λd hd=>by rw[UN hd];erw[Xc _],j⟩]
def _na{k st:Nat}(j:k<4)(l:1<=st)(t:st<=3):(ab0 k st).Ok:=by
 erw[⟨j,by simpa [ab0]using⟨l,t⟩,by simp[ab0],by simp[ab0],by simp[ab0],Oy _,Oy _,?_,?_,Xc _,Xc _,λz=>Xc _,λz=>Xc _⟩]
 .intro d hd;rw[UN hd];erw[⟨Xc _,YQ _⟩]
 .intro d hd;rw[UN hd];erw[⟨Xc _,Xc _⟩]
def PlOk(A:Ab)(pl:List (Nat×Nat×Int)):Prop:=pl.length=2^A.k/\∀j (t:j<A.ws.length),A.ws.length<=j+2^A.k->∃l,pl[j%2^A.k]?=wc (A.ws[j],l,A.gm)/\(j<A.gp->l=A.ws[j])
noncomputable def YM(A:Ab)(m:Int)(w:Option Nat)(pl:List (Nat×Nat×Int)):List (Nat×Nat×Int):=
 (Xr pl.length).map λi=>((if A.gives w=wf/\i=A.ws.length%2^A.k then w.getD 0 else(pl.getD i (0,0,0)).1),(pl.getD i (0,0,0)).1,m)
def _ms{a b n:Nat}(l:a<b)(t:b<a+n):a%n≠b%n:=by
 intro e;have j:(b - a)%n=0:=Nat.sub_mod_eq_zero_of_mod_eq e.symm;rw[Nat.mod_eq_of_lt (by lia)]at j
 lia
def _dS{A:Ab}{m:Int}{c:Nat}{w:Option Nat}{pl:List (Nat×Nat×Int)}(h:PlOk A pl):PlOk (A.giver m c w) (YM A m w pl):=by
 have f:0<2^A.k:=Zs _;erw[⟨?_,?_⟩]
 .show(YM A m w pl).length=2^A.k;simp[YM,h.1]
 .intro j r y;have y:(A.giver m c w).ws.length<=j+2^A.k:=y;show∃d,(YM A m w pl)[j%2^A.k]?=wc ((A.giver m c w).ws[j],d,m)/\(j<A.ws.length->d=(A.giver m c w).ws[j]);have lt:j%2^A.k<pl.length:=by rw[h.1];erw[U2 _ f]
  have get:(YM A m w pl)[j%2^A.k]?=wc ((if A.gives w=wf/\j%2^A.k=A.ws.length%2^A.k then w.getD 0 else(pl.getD (j%2^A.k) (0,0,0)).1),(pl.getD (j%2^A.k) (0,0,0)).1,m):=by
   unfold YM;rw[Xl,Wl lt]
   rfl
  rw[get];by_cases g:A.gives w=wf
  .have u:(A.giver m c w).ws=A.ws++[w.getD 0]:=by unfold Ab.giver;rw[if_pos g]
   have N:j<A.ws.length+1:=by rw[u]at r;simpa using r
   have O:A.ws.length+1<=j+2^A.k:=by rw[u]at y;simpa using y
   by_cases e:j=A.ws.length
   .subst e;erw[⟨(pl.getD (A.ws.length%2^A.k) (0,0,0)).1,?_,λz=>absurd z (U1 _)⟩];rw[if_pos ⟨g,rfl⟩];simp[u]
   .have l:j<A.ws.length:=by lia
    have⟨d,p,_⟩:=h.2 j l (by lia)
    have P:=_ms (n:=2^A.k) l (by lia)
    have L:pl.getD (j%2^A.k) (0,0,0)=(A.ws[j],d,A.gm):=by rw[YK,p];rfl
    have t:(A.giver m c w).ws[j]=A.ws[j]:=by simp[u,l]
    erw[⟨A.ws[j],?_,λ_=>t.symm⟩];rw[if_neg (λz=>P z.2),L,t]
  .have u:(A.giver m c w).ws=A.ws:=by unfold Ab.giver;rw[if_neg g]
   have l:j<A.ws.length:=by rw[u]at r;erw[r]
   have⟨d,p,_⟩:=h.2 j l (by rw[u]at y;erw[y])
   have L:pl.getD (j%2^A.k) (0,0,0)=(A.ws[j],d,A.gm):=by rw[YK,p];rfl
   have t:(A.giver m c w).ws[j]=A.ws[j]:=by simp[u]
   erw[⟨A.ws[j],?_,λ_=>t.symm⟩];rw[if_neg (λz=>g z.1),L,t]
def _eC{A:Ab}(h:A.Ok){pl:List (Nat×Nat×Int)}(u:PlOk A pl)(m:XH A.tx≠A.tn):∃(l:A.tn<A.ws.length) (j:Nat),pl[A.tn%2^A.k]?=wc (A.ws[A.tn],j,A.gm)/\(A.tm<A.gm->j=A.ws[A.tn]):=by
 have t:1<=A.tx.length:=by rw[h.tl];erw[h.gl.1]
 have g:=h.tb _ (_P t);have rm:=h.room;have d:=h.lt1;have l:A.tn<A.ws.length:=by lia
 have⟨j,w,y⟩:=u.2 A.tn l rm.2;erw[⟨l,j,w,λz=>y (by have:=h.lt2 z;lia)⟩]
def _eS(a c:Nat):seen a a c=a:=by simp[seen]
def _h2{A:Ab}(h:A.Ok):(((A.ws.length:Int) - ((XH A.gx%2^(A.k+1):Nat):Int))%((2^(A.k+1):Nat):Int)<((2^A.k:Nat):Int))↔A.ws.length<XH A.gx+2^A.k:=by
 have a:=h.gb _ (_P h.gl.1);have rm:=h.room;have j:=h.lg1;have e:((A.ws.length:Int) - ((XH A.gx%2^(A.k+1):Nat):Int))%((2^(A.k+1):Nat):Int)=((A.ws.length - XH A.gx:Nat):Int):=by
  rw[Wx,Bf,Int.emod_emod,<-Bf];have:(A.ws.length:Int) - (XH A.gx:Int)=((A.ws.length - XH A.gx:Nat):Int):=by lia
  rw[this,<-Wx,Nat.mod_eq_of_lt (by rw[Nat.pow_succ];have:=Zs A.k;lia)]
 rw[e];lia
def Oz{A:Ab}(h:A.Ok):(((A.tn:Int) - ((XH A.tx%2^(A.k+1):Nat):Int))%((2^(A.k+1):Nat):Int)=0)↔XH A.tx=A.tn:=by
 have j:1<=A.tx.length:=by rw[h.tl];erw[h.gl.1]
 have a:=h.tb _ (_P j);have rm:=h.room;have u:=h.lt1;have p:=Zs A.k;rw[Wx,Bf,Int.emod_emod,<-Bf];constructor
 .intro z;have d:=Int.dvd_of_emod_eq_zero z;have l:((2^(A.k+1):Nat):Int)∣((XH A.tx - A.tn:Nat):Int):=by
   have:((XH A.tx - A.tn:Nat):Int)= -((A.tn:Int) - (XH A.tx:Int)):=by lia
   rw[this];erw[Int.dvd_neg.mpr d]
  have t:=Int.natCast_dvd_natCast.mp l;have:=Nat.eq_zero_of_dvd_of_lt t (by rw[Nat.pow_succ];lia)
  lia
 .intro z;rw[z,Int.sub_self];rfl
abbrev OA:SpM:=λj M Q=>∃(o n c:Nat),j=[.int o,.int n,.int c]/\Q (.int (seen o n c:Nat)) M
def _cs:MonW OA:=by walk_at "m"
def _jP(T:Txt E):FO E 1 "amid" OA:=by
 erw[T.cf.ok T.g _cs 3 ["old","new","choice"] (fC T f0) Ji (fun j M Q h=>?_)];have⟨o,n,c,rfl,q⟩:=h;erw[⟨rfl,?_⟩];show wSs _ _ _ [wc (.int o),wc (.int n),wc (.int c)] M;delta Ji;simp!;rw[Ci,_hU,Ci];erw[q]
abbrev F1:SpM:=λj M Q=>∃w:Int,j=[.int w]/\Q (.tup [.int w,.int w,.int (-1)]) M
def _6t:MonW F1:=by walk_at "m"
def OB(T:Txt E):FO E 1 "first_sign" F1:=by
 erw[T.aF.ok T.g _6t 1 ["word"] (fC T f0) Jr (fun j M Q h=>?_)];have⟨n,rfl,q⟩:=h;erw[⟨rfl,?_⟩];show wSs _ _ _ [wc (.int n)] M;delta Jr;simp!;erw[q]
abbrev W8:SpM:=λj M Q=>∃a b c w m:Int,j=[.tup [.int a,.int b,.int c],.int w,.int m]/\Q (.tup [.int w,.int a,.int m]) M
def OC:MonW W8:=by walk_at "m"
def OD(T:Txt E):FO E 1 "shown" W8:=by
 erw[T.aY.ok T.g OC 3 ["sign","word","moment"] (fC T f0) Js (fun j M Q h=>?_)];have⟨a,b,c,w,m,rfl,q⟩:=h;erw[⟨rfl,?_⟩];show wSs _ _ _ [wc (.tup [.int a,.int b,.int c]),wc (.int w),wc (.int m)] M;delta Js;simp!;erw[q]
abbrev Ah:SpM:=λj M Q=>∃(a b:Nat) (m s:Int) (c:Nat),j=[.tup [.int a,.int b,.int m],.int s,.int c]/\Q (.int ((if s<m then seen b a c else a:Nat):Int)) M
def _9d:MonW Ah:=by walk_at "m"
def OE(T:Txt E):FO E 2 "sampled" Ah:=by
 erw[T.bw.ok T.g _9d 3 ["sign","since","choice"] (fC T (fc (_jP T) f0)) Jw (fun j M Q h=>?_)];have⟨a,b,m,s,c,rfl,q⟩:=h;erw[⟨rfl,?_⟩];show wSs _ _ _ [wc (.tup [.int a,.int b,.int m]),wc (.int s),wc (.int c)] M;delta Jw;simp!;erw[XU (λh=>?_) (λh=>?_)]
 .rw[if_pos h]at q;delta Jv;simp!;erw[ex3 b a c ⟨rfl,q⟩]
 .rw[if_neg h]at q;delta Ju;simp!;erw[q]
abbrev OF:SpM:=λj M Q=>∃(w:Int) (k:Nat),j=[.int w,.int k]/\1<=k/\k<=3/\Q (.tup ((Xg k w).map MV.int)) M
def _5N:MonW OF:=by walk_at "m"
theorem F2{j:Type}(x:j):∀k:Nat,(Xg k [x]).flatten=Xg k x
 |0=>rfl
 |k+1=>by rw[Zc,Zo,F2 x k];rfl
def _98(T:Txt E):FO E 1 "first_sight" OF:=by
 erw[T.b8.ok T.g _5N 2 ["word","stages"] (fC T f0) Jt (fun j M Q h=>?_)];have⟨w,k,rfl,l,t,q⟩:=h;erw[⟨rfl,?_⟩];show wSs _ _ _ [wc (.int w),wc (.int k)] M;delta Jt;simp!;erw[⟨by lia,by lia,?_⟩]
 rw[Z2,F2];rw[Wm]at q;erw[q]
abbrev OG:SpM:=λj M Q=>∃(l:List Int) (a:Int),j=[.tup ((l++[a]).map MV.int)]/\Q (.int a) M
def _cq:MonW OG:=by walk_at "m"
def _kK(j:List Int)(a:Int):atI ((j++[a]).map MV.int) (-1)=wc (.int a):=by
 unfold atI ixN;rw[if_neg (by decide),if_pos (by simp;lia)]
 have e:((-1:Int)+(((j++[a]).map MV.int).length:Int)).toNat=j.length:=by simp;lia
 rw[e];simp
def _jM(T:Txt E):FO E 1 "used" OG:=by
 erw[T.b9.ok T.g _cq 1 ["sight"] (fC T f0) Jy (fun l M Q h=>?_)];have⟨j,a,rfl,q⟩:=h;erw[⟨rfl,?_⟩];show wSs _ _ _ [wc (.tup ((j++[a]).map MV.int))] M;delta Jy;simp!;erw[⟨_,_kK j a,q⟩]
abbrev F3:SpM:=λl M Q=>∃(j:List Int) (a w:Int),l=[.tup ((j++[a]).map MV.int),.int w]/\j.length<=100/\Q (.tup ((w::j).map MV.int)) M
def _bs:MonW F3:=by walk_at "m"
def _ho(T:Txt E):FO E 1 "moved" F3:=by
 erw[T.bT.ok T.g _bs 2 ["sight","word"] (fC T f0) Jx (fun t M Q h=>?_)];have⟨j,a,w,rfl,u,q⟩:=h;erw[⟨rfl,?_⟩];show wSs _ _ _ [wc (.tup ((j++[a]).map MV.int)),wc (.int w)] M;delta Jx;simp!;have len:([MV.int w]++(j++[a]).map MV.int).length=j.length+2:=by simp
 have l:HT.sIx (j.length+2) (j.length+2) (wc (-1))=j.length+1:=by
  unfold HT.sIx;dsimp only;rw[if_pos (by decide)]
  lia
 have cut:cutM ([MV.int w]++(j++[a]).map MV.int) we (wc (-1))=(w::j).map MV.int:=by
  unfold cutM;rw[len,l,HT.sIx_none,Nat.sub_zero,CT,XX,<-UP];rw[Fi (by simp),UO (by simp)]
  rfl
 erw[⟨by simp;lia,?_⟩]
 rw[cut];erw[q]
abbrev F4:SpM:=λj M Q=>∃n:Nat,j=[.int n]/\Q (.int (gray n:Nat)) M
def _9f:MonW F4:=by walk_at "m"
def OH(T:Txt E):FO E 1 "code_of" F4:=by
 erw[T.aV.ok T.g _9f 1 ["n"] (fC T f0) Jj (fun j M Q h=>?_)];have⟨n,rfl,q⟩:=h;erw[⟨rfl,?_⟩];show wSs _ _ _ [wc (.int n)] M;delta Jj;simp!;have e:(n:Int)/2=((n/2:Nat):Int):=by lia
 rw[e,Ci];erw[q]
abbrev OI:SpM:=λl M Q=>∃j:Nat,l=[.int j]/\j<2^60/\Q (.int (W7 j:Nat)) M
def _7E:MonW OI:=by walk_at "m"
def _bi(T:Txt E):FO E 1 "number_of" OI:=by
 erw[T.bh.ok T.g _7E 1 ["word","n","above"] (fC T f0) Jq (fun d M Q h=>?_)];have⟨l,rfl,f,q⟩:=h;erw[⟨rfl,?_⟩];show wSs _ _ _ [wc (.int l),we,we] M;have j:∀a:Nat,(a:Int)/2=((a/2:Nat):Int):=λa=>by lia
 delta Jq;simp!;delta Jp;simp!;rw[j];delta Jo;simp!;erw[⟨λm w y=>y=M/\∃n a k:Nat,a=m/\a<2^k/\ugF k n a=W7 l/\w=[wc (.int l),wc (.int n),wc (.int a)],⟨l/2,rfl,l,l/2,64,rfl,by lia,rfl,rfl⟩,?_⟩]
 rintro m w y ⟨rfl,n,a,k,rfl,z,t,rfl⟩;simp!;erw[XU (λc=>?_) (λc=>?_)]
 .delta Jn;simp!;rw[Ci];delta Jl;simp!;rw[j];obtain⟨u,rfl⟩:∃u,k=u+1:=⟨k - 1,by
   cases k with
   |zero=>simp at z;lia
   |succ k=>rfl⟩
  erw[⟨a/2,by lia,?_⟩]
  erw[⟨_,u,by rw[Nat.pow_succ]at z;lia,?_,rfl⟩]
  rw[ugF,if_neg (by lia)]at t
  erw[t]
 .have g:a=0:=by lia
  subst g;rw[_gL]at t;rw[t];delta Jk;simp!;erw[q]
noncomputable abbrev natM:Nat->MV:=λn=>.int n
noncomputable abbrev sgnM(s:Nat×Nat×Int):MV:=.tup [.int s.1,.int s.2.1,.int s.2.2]
def Xj(j n:Nat)(s:Nat×Nat×Int)(l:List Nat):MO:=.ins "Side" [("turn",.int j),("total",.int n),("sign",sgnM s),("sight",.tup (l.map natM))]
def F5(j:List Nat):j.map natM=(j.map λn:Nat=>(n:Int)).map MV.int:=by rw[Y5];rfl
def F6(a b:Nat):(a:Int)%(b:Int)=((a%b:Nat):Int):=by lia
def OJ{k n p:Nat}(j:k<4)(h:p<=n/\n<=p+1)(s m:Int)(c:Nat):(if s<m then seen (gray (p%2^(k+1))) (gray (n%2^(k+1))) c else gray (n%2^(k+1)))=gray (Zw k n p (decide (s<m)) c%2^(k+1)):=by
 unfold Zw;by_cases e:s<m
 .rw[if_pos e,_eT j (a:=n) (b:=p) (by lia)]
  by_cases f:c&&&(gray (n%2^(k+1))^^^gray (p%2^(k+1)))=0
  .rw[if_pos f,if_pos ⟨decide_eq_true e,f⟩]
  .rw[if_neg f,if_neg (λz=>f z.2)]
 .rw[if_neg e,if_neg (λz=>e (of_decide_eq_true z.1))]
abbrev Ck:SpM:=fun l M Q=>∃(a:Addr) (j st:Nat),l=[.ref a,.int j,.int st]/\M a=wc (.ins "Side" [])/\1<=st/\st<=3/\Q .non (updM M a (Xj j 0 (0,0,-1) (Xg st 0)))
def _4w:MonW Ck:=by walk_at "m"
def _7C(T:Txt E):FI E 2 "Side" Ck:=by
 erw[T.bX.oi T.ag T.ae T.g 3 ["self","turn","stages"] (fC T (fc (OH T) (fc (_98 T) (fc (OB T) f0)))) JC (fun y M Q h=>?_)];have⟨a,j,st,rfl,l,t,u,q⟩:=h;erw[⟨rfl,?_⟩];show wSs _ _ _ [wc (.ref a),wc (.int j),wc (.int st)] M;have w:gray 0=0:=by decide
 delta JC
 simp![l,putM]
 delta JB
 simp![putM,YF]
 delta JA
 simp![putM,YF]
 erw[⟨0,rfl,?_⟩]
 simp![putM,YF]
 erw[⟨_,rfl,?_⟩]
 simp![putM,YF]
 delta Jz
 simp![putM,YF]
 erw[⟨0,rfl,?_⟩]
 simp![putM,YF]
 erw[⟨_,st,rfl,t,u,?_⟩]
 simp![putM,YF]
 rw[w];have e:List.map MV.int (Xg st (((0:Nat):Int)))=(Xg st 0).map natM:=by rw[Wm,Wm]
 rw[e];erw[q]
abbrev V9:SpM:=λj M Q=>∃(a:Addr) (l n:Nat) (s:Nat×Nat×Int) (t:List Nat),j=[.ref a]/\M a=wc (Xj l n s t)/\Q (.int s.2.2) M
def OK:MonW V9:=by walk_at "m"
def OL(T:Txt E):FM E 1 "Side" "ring_ahead" V9:=by
 erw[T.ci.ok T.ag T.ae 1 ["self"] (fC T f0) JD (fun l M Q h=>?_)];have⟨a,t,n,s,u,rfl,j,q⟩:=h;erw[⟨rfl,?_⟩];show wSs _ _ _ [wc (.ref a)] M;delta JD
 simp![j,Xj,valM]
 erw[q]
abbrev Ub:SpM:=λl M Q=>∃(a:Addr) (j n:Nat) (s:Nat×Nat×Int) (t:List Nat) (u:Nat),l=[.ref a]/\M a=wc (Xj j n s (t++[u]))/\u<2^60/\0<j/\Q (.int (((n:Int) - (W7 u:Nat))%(j:Int))) M
def F7:MonW Ub:=by walk_at "m"
def OM(T:Txt E):FM E 2 "Side" "less_the_seen" Ub:=by
 erw[T.be.ok T.ag T.ae 1 ["self"] (fC T (fc (_bi T) (fc (_jM T) f0))) JE (fun w M Q h=>?_)];have⟨a,y,n,s,l,u,rfl,j,t,z,q⟩:=h;erw[⟨rfl,?_⟩];show wSs _ _ _ [wc (.ref a)] M;delta JE
 simp![j,Xj,valM]
 erw[⟨l.map (λn:Nat=>(n:Int)),(u:Int),by rw[F5,XX];rfl,?_⟩]
 simp![j,Xj,valM]
 erw[⟨u,rfl,t,?_⟩]
 simp![j,Xj,valM]
 erw[⟨by lia,q⟩]
abbrev Uc:SpM:=λt M Q=>∃(a:Addr) (j n:Nat) (s:Nat×Nat×Int) (l:List Nat),t=[.ref a]/\M a=wc (Xj j n s l)/\Q .non (updM M a (Xj j (n+1) s l))
def F8:MonW Uc:=by walk_at "m"
def ON(T:Txt E):FM E 1 "Side" "grow" Uc:=by
 erw[T.bQ.ok T.ag T.ae 1 ["self"] (fC T f0) JF (fun l M Q h=>?_)];have⟨a,t,n,s,u,rfl,j,q⟩:=h;erw[⟨rfl,?_⟩];show wSs _ _ _ [wc (.ref a)] M;delta JF
 simp![j,Xj,valM,putM]
 erw[q]
abbrev Ud:SpM:=λt M Q=>∃(a:Addr) (j n:Nat) (s:Nat×Nat×Int) (l:List Nat) (u:Nat) (m:Int) (c:Nat) (o:Nat×Nat×Int),t=[.ref a,.int m,.int c,sgnM o]/\M a=wc (Xj j n s (l++[u]))/\l.length<=100/\0<j/\
 ∀d:Nat,(if s.2.2<o.2.2 then seen o.2.1 o.1 c else o.1)=d->Q (.int d) (updM M a (Xj j n (gray (n%j),s.1,m) (d::l)))
def F9:MonW Ud:=by walk_at "m"
def OO(T:Txt E):FM E 3 "Side" "show_and_see" Ud:=by
 erw[T.bL.ok T.ag T.ae 4 ["self","moment","choice","other_sign","seen"] (mC T [("code_of",F4),("moved",F3),("sampled",Ah),("shown",W8),("Side_ring_ahead",V9)] [("Side_ring_ahead",V9)] [(4,"Side","ring_ahead")] [] (fc (OH T) (fc (_ho T) (fc (OE T) (fc (OD T) f0)))) (fMc OK nl0) (fMc ⟨_,_,rfl,fM (OL T)⟩ nl0) nl0) JJ (fun y M Q h=>?_)];have⟨a,t,n,s,l,u,m,c,o,rfl,j,w,g,q⟩:=h;erw[⟨rfl,?_⟩];show wSs _ _ _ [wc (.ref a),wc (.int m),wc (.int c),wc (sgnM o),we] M;delta JJ
 simp![j,Xj,valM]
 erw[ex5 a t n s (l++[u]) ⟨rfl,j,?_⟩]
 simp![j,Xj,valM]
 erw[ex5 o.1 o.2.1 o.2.2 s.2.2 c ⟨rfl,?_⟩];obtain⟨d,hd⟩:∃d:Nat,(if s.2.2<o.2.2 then seen o.2.1 o.1 c else o.1)=d:=⟨_,rfl⟩;rw[hd];delta JI
 simp![j,Xj,valM]
 erw[⟨by lia,?_⟩]
 rw[F6];erw[⟨_,rfl,?_⟩]
 simp![j,Xj,valM,putM]
 erw[ex5 s.1 s.2.1 s.2.2 _ m ⟨rfl,?_⟩]
 simp![j,Xj,valM,putM]
 delta JH
 simp![j,Xj,valM,putM,YF]
 erw[ex3 (l.map (λn:Nat=>(n:Int))) (u:Int) (d:Int) ⟨by rw[F5,XX];rfl,by rw[X7];erw[w],?_⟩]
 simp![j,Xj,valM,putM,YF]
 delta JG
 simp![j,Xj,valM,putM,YF]
 have e:MV.int (d:Int)::List.map MV.int (l.map λn:Nat=>(n:Int))=(d::l).map natM:=by rw[Xy,F5]
 have z:=q d hd;rw[Xj,<-e]at z
 simpa only[Xy]using z
noncomputable def XY(p g u:Addr):MO:=.ins "Ferry" [("places",.ref p),("giver",.ref g),("taker",.ref u)]
abbrev Xf(k n:Nat):Nat:=gray (n%2^(k+1))
noncomputable def wM:Option Nat->MV
 |we=>.non
 |wc x=>.int x
structure FyAt (M:MH)(f p g u:Addr)(A:Ab):Prop where
 ok:A.Ok
 fe:M f=wc (XY p g u)
 pls:∃pl,M p=wc (.lst (pl.map sgnM))/\PlOk A pl
 gi:M g=wc (Xj (2^(A.k+1)) A.ws.length (Xf A.k A.ws.length,Xf A.k A.gp,A.gm) (A.gx.map (Xf A.k)))
 ta:M u=wc (Xj (2^(A.k+1)) A.tn (Xf A.k A.tn,Xf A.k A.tp,A.tm) (A.tx.map (Xf A.k)))
 ne:g≠u
def FrM(M j:MH)(l:List Addr):Prop:=∀a o,M a=wc o->a∉l->j a=wc o
def FrM.refl(M:MH)(l:List Addr):FrM M M l:=λ_ _ h _=>h
def FrM.new{M M':MH}{l:List Addr}(h:FrM M M' l){p:Addr}(j:M' p=we)(o:MO):FrM M (updM M' p o) l:=λa u e n=>by
 have:=h a u e n;rw[X9 (neM this j)];erw[this]
def FrM.upd{M M':MH}{l:List Addr}(h:FrM M M' l){p:Addr}(j:p∈l)(o:MO):FrM M (updM M' p o) l:=λa u e n=>by
 rw[X9 (λz=>n (by rw[z];erw[j]))];erw[h a u e n]
def Cm{j n:Nat}{s:Nat×Nat×Int}{l:List Nat}{p g u:Addr}:Xj j n s l≠XY p g u:=by
 intro e;unfold Xj XY at e;injection e with e1 _;erw[absurd e1 (by rw[_j];decide)]
def YH{M:MH}{a b:Addr}{o u:MO}(l:M a=wc o)(j:M b=wc u)(n:o≠u):a≠b:=by
 intro e;subst e;rw[l]at j;cases j;erw[n rfl]
def OP{k n:Nat}(j:k<4):Xf k n<2^60/\W7 (Xf k n)=n%2^(k+1):=by
 have h:=Ow j (U2 n (Zs (k+1)));erw[⟨Yu h.1 (by decide),h.2.1⟩]
def OQ{k:Nat}{j:List Nat}(h:1<=j.length):j.map (Xf k)=j.dropLast.map (Xf k)++[Xf k (XH j)]:=by
 have e:=Ag h;have:j.map (Xf k)=(j.dropLast++[XH j]).map (Xf k):=by rw[<-e]
 rw[this,XX];rfl
def _k9{n j:Nat}(h:j<n):ixN n (j:Int)=wc j:=by
 unfold ixN;rw[if_pos (by lia),if_pos (by lia),Z2]
abbrev Ue:SpM:=fun l M Q=>∃(f:Addr) (k st:Nat),l=[.ref f,.int k,.int st]/\M f=wc (.ins "Ferry" [])/\k<4/\1<=st/\st<=3/\∀p g u j,M p=we->M g=we->M u=we->FrM M j [f]->FyAt j f p g u (ab0 k st)->Q .non j
def OR:MonW Ue:=by walk_at "m"
def _6n(T:Txt E):FI E 4 "Ferry" Ue:=by
 erw[T.bA.oi T.ai T.aj T.g 3 ["self","k","stages"] (mC T [("first_sign",F1),("two_to",UC),("Side___init__",Ck)] [("Side___init__",Ck)] [] [(2,"Side")] (fc (OB T) (fc (Cb T) f0)) (fMc _4w nl0) nl0 (fMc ⟨_,_,rfl,fI (_7C T)⟩ nl0)) JM (fun vs M Q h=>?_)];have⟨f,k,st,rfl,a,hk,F,G,q⟩:=h;erw[⟨rfl,?_⟩];show wSs _ _ _ [wc (.ref f),wc (.int k),wc (.int st)] M;have I:∀j:Nat,((2:Int)^j)=((2^j:Nat):Int):=λj=>by rw[Wy];rfl
 have kp0:(0:Int)<=((2^k:Nat):Int):=U3 _;have k16:2^k<=8:=AW (by lia) (by lia:k<=3)
 delta JM
 simp![putM]
 erw[⟨0,rfl,?_⟩]
 simp![putM]
 intro C O;have P:=(FrM.refl M [f]).new O (.lst [.tup [.int 0,.int 0,.int (-1)]]);have m:updM M C (.lst [.tup [.int 0,.int 0,.int (-1)]]) f=wc (.ins "Ferry" []):=by rw[X9 (neM a O)];erw[a]
 have J:updM M C (.lst [.tup [.int 0,.int 0,.int (-1)]]) C=wc (.lst [.tup [.int 0,.int 0,.int (-1)]]):=Xa;generalize updM M C _=M0 at*;erw[⟨k,rfl,by lia,?_⟩]
 simp![J,I]
 rw[Z2];erw[⟨by lia,by lia,by lia,λp L=>?_⟩]
 have S:M p=we:=by
  cases e:M p with
  |none=>rfl
  |some o=>
   by_cases ez:p=f
   .subst ez;rw[m]at L;cases L
   .rw[P p o e (by simpa using ez)]at L;cases L
 have X:=P.new L (.lst (Xg (2^k) [MV.tup [.int 0,.int 0,.int (-1)]]).flatten);have R:updM M0 p (.lst (Xg (2^k) [MV.tup [.int 0,.int 0,.int (-1)]]).flatten) f=wc (.ins "Ferry" []):=by rw[X9 (neM m L)];erw[m]
 have U:updM M0 p (.lst (Xg (2^k) [MV.tup [.int 0,.int 0,.int (-1)]]).flatten) p=wc (.lst (Xg (2^k) [MV.tup [.int 0,.int 0,.int (-1)]]).flatten):=Xa;generalize updM M0 p _=M1 at*
 simp![R,putM]
 have W:=X.upd (Y9.mpr rfl) (.ins "Ferry" [("places",.ref p)]);have l:updM M1 f (.ins "Ferry" [("places",.ref p)]) f=wc (.ins "Ferry" [("places",.ref p)]):=Xa;have cv:updM M1 f (.ins "Ferry" [("places",.ref p)]) p=wc (.lst (Xg (2^k) [MV.tup [.int 0,.int 0,.int (-1)]]).flatten):=by rw[X9 (YH U R (by intro z;cases z))];erw[U]
 have free:∀z,updM M1 f (.ins "Ferry" [("places",.ref p)]) z=we->M z=we:=fun z y=>by
  cases e:M z with
  |none=>rfl
  |some o=>
   by_cases ez:z=f
   .subst ez;rw[l]at y;cases y
   .rw[W z o e (by simpa using ez)]at y;cases y
 generalize updM M1 f _=M2 at*;delta JL
 simp![l,putM]
 erw[⟨k+1,rfl,by lia,?_⟩]
 simp![l,putM,I]
 intro g D;erw[ex3 g (2^(k+1)) st ⟨rfl,Xa,F,G,rfl,?_⟩];rw[YF];have H:=W.new D (Xj (2^(k+1)) 0 (0,0,-1) (Xg st 0));have d:updM M2 g (Xj (2^(k+1)) 0 (0,0,-1) (Xg st 0)) f=wc (.ins "Ferry" [("places",.ref p)]):=by rw[X9 (neM l D)];erw[l]
 have cw:updM M2 g (Xj (2^(k+1)) 0 (0,0,-1) (Xg st 0)) p=wc (.lst (Xg (2^k) [MV.tup [.int 0,.int 0,.int (-1)]]).flatten):=by rw[X9 (neM cv D)];erw[cv]
 have Y:updM M2 g (Xj (2^(k+1)) 0 (0,0,-1) (Xg st 0)) g=wc (Xj (2^(k+1)) 0 (0,0,-1) (Xg st 0)):=Xa;have v:=free g D;generalize updM M2 g _=M3 at*
 simp![d,putM]
 have gf:g≠f:=YH Y d (by intro z;unfold Xj at z;injection z with z1 _;erw[absurd z1 (by rw[_j];decide)])
 have Z:=H.upd (Y9.mpr rfl) (.ins "Ferry" [("places",.ref p),("giver",.ref g)]);have t:updM M3 f (.ins "Ferry" [("places",.ref p),("giver",.ref g)]) f=wc (.ins "Ferry" [("places",.ref p),("giver",.ref g)]):=Xa;have cx:updM M3 f (.ins "Ferry" [("places",.ref p),("giver",.ref g)]) p=wc (.lst (Xg (2^k) [MV.tup [.int 0,.int 0,.int (-1)]]).flatten):=by rw[X9 (YH cw d (by intro z;cases z))];erw[cw]
 have w:updM M3 f (.ins "Ferry" [("places",.ref p),("giver",.ref g)]) g=wc (Xj (2^(k+1)) 0 (0,0,-1) (Xg st 0)):=by rw[X9 gf];erw[Y]
 generalize updM M3 f _=M4 at*;have c:∀z,M4 z=we->M z=we:=λz y=>by
  cases e:M z with
  |none=>rfl
  |some o=>
   by_cases ez:z=f
   .subst ez;rw[t]at y;cases y
   .rw[Z z o e (by simpa using ez)]at y;cases y
 delta JK
 simp![t,putM]
 erw[⟨k+1,rfl,by lia,?_⟩]
 simp![t,putM,I]
 intro u N;erw[ex3 u (2^(k+1)) st ⟨rfl,Xa,F,G,rfl,?_⟩];rw[YF];have i:=Z.new N (Xj (2^(k+1)) 0 (0,0,-1) (Xg st 0));have r:updM M4 u (Xj (2^(k+1)) 0 (0,0,-1) (Xg st 0)) f=wc (.ins "Ferry" [("places",.ref p),("giver",.ref g)]):=by rw[X9 (neM t N)];erw[t]
 have cy:updM M4 u (Xj (2^(k+1)) 0 (0,0,-1) (Xg st 0)) p=wc (.lst (Xg (2^k) [MV.tup [.int 0,.int 0,.int (-1)]]).flatten):=by rw[X9 (neM cx N)];erw[cx]
 have A:updM M4 u (Xj (2^(k+1)) 0 (0,0,-1) (Xg st 0)) g=wc (Xj (2^(k+1)) 0 (0,0,-1) (Xg st 0)):=by rw[X9 (neM w N)];erw[w]
 have B:updM M4 u (Xj (2^(k+1)) 0 (0,0,-1) (Xg st 0)) u=wc (Xj (2^(k+1)) 0 (0,0,-1) (Xg st 0)):=Xa;have gu:=neM w N;have n:=c u N;generalize updM M4 u _=M5 at*
 simp![r,putM]
 have uf:u≠f:=YH B r (by intro z;unfold Xj at z;injection z with z1 _;erw[absurd z1 (by rw[_j];decide)])
 have x:=i.upd (Y9.mpr rfl) (XY p g u);have g0:gray 0=0:=by decide
 have b:∀j,Xf j 0=0:=λj=>by unfold Xf;rw[Nat.zero_mod,g0]
 have gr:(Xg st 0).map (Xf k)=Xg st 0:=by rw[Wm,b]
 erw[q p g u _ S v n x ⟨_na hk F G,Xa,⟨Xg (2^k) (0,0,-1),?_,by simp[ab0],λj hj=>absurd hj (by simp[ab0])⟩,?_,?_,gu⟩]
 .rw[X9 (YH cy r (by intro z;cases z)),cy,F2,Wm]
  rfl
 .rw[X9 gf,A];show wc (Xj _ 0 (0,0,-1) _)=wc (Xj (2^(k+1)) 0 (Xf k 0,Xf k 0,-1) ((Xg st 0).map (Xf k)));rw[b,gr]
 .rw[X9 uf,B];show wc (Xj _ 0 (0,0,-1) _)=wc (Xj (2^(k+1)) 0 (Xf k 0,Xf k 0,-1) ((Xg st 0).map (Xf k)));rw[b,gr]
abbrev Va:SpM:=λt M Q=>∃(f p g u:Addr) (A:Ab) (m:Int) (c:Nat) (x:Option Nat),t=[.ref f,.int m,.int c,wM x]/\FyAt M f p g u A/\A.gm<m/\A.tm<m/\
 ∀l j,M l=we->FrM M j [f,g,u]->FyAt j f l g u (A.giver m c x)->Q (.tup [.bl (A.gives x),.int (Xf A.k (A.gSamp c):Nat)]) j
def _3d:MonW Va:=by walk_at "m"
def _5k(T:Txt E):FM E 4 "Ferry" "ring_giver" Va:=by
 erw[T.bV.ok T.ai T.aj 4 ["self","moment","choice","word","words","gives"] (mC T [("shown",W8),("Side_grow",Uc),("Side_less_the_seen",Ub),("Side_show_and_see",Ud)] [("Side_grow",Uc),("Side_less_the_seen",Ub),("Side_show_and_see",Ud)] [(1,"Side","grow"),(2,"Side","less_the_seen"),(3,"Side","show_and_see")] [] (fc (OD T) f0) (fMc F8 (fMc F7 (fMc F9 nl0))) (fMc ⟨_,_,rfl,fM (ON T)⟩ (fMc ⟨_,_,rfl,fM (OM T)⟩ (fMc ⟨_,_,rfl,fM (OO T)⟩ nl0))) nl0) JR (fun vs M Q h=>?_)];have⟨f,p,g,u,A,m,c,x,rfl,G,h1,h2,q⟩:=h;erw[⟨rfl,?_⟩];have b:=G.fe;have⟨j,hp,hpl⟩:=G.pls;have hg:=G.gi;have hu:=G.ta;have ok:=G.ok;have hΦ:=(UB (t:=[("shown",W8),("Side_grow",Uc),("Side_less_the_seen",Ub),("Side_show_and_see",Ud)]) (fMc OC (fMc F8 (fMc F7 (fMc F9 nl0)))));have kpos:0<2^A.k:=Zs _;have k8:2^A.k<=8:=AW (by lia) (by have:=ok.k4;lia:A.k<=3)
 have pll:j.length=2^A.k:=hpl.1;have gs:=OP (n:=XH A.gx) ok.k4;have eg:=OQ (k:=A.k) ok.gl.1;have gf:g≠f:=YH hg b Cm;have uf:u≠f:=YH hu b Cm;have R:∀(M1:MH)(D:Addr)(n:Nat),FrM M M1 [f,g,u]->M1 f=wc (XY p g u)->M1 p=wc (.lst (j.map sgnM))->M1 u=M u->M1 g=wc (Xj (2^(A.k+1)) n (Xf A.k A.ws.length,Xf A.k A.gp,A.gm) (A.gx.map (Xf A.k)))->n=(A.giver m c x).ws.length->
   M1 D=wc (.lst ((Xr j.length).map λi=>MV.int ((if A.gives x=wf/\i=A.ws.length%2^A.k then x.getD 0 else(j.getD i (0,0,0)).1:Nat):Int)))->
   wSs ([("shown",W8),("Side_grow",Uc),("Side_less_the_seen",Ub),("Side_show_and_see",Ud)]:List (Str×SpM)) E8 {nx:=fun _ M'=>Q .non M',rt:=Q} [wc (.ref f),wc (.int m),wc (.int c),wc (wM x),wc (.ref D),wc (.bl (A.gives x))] M1:=by
  intro M1 D n fr L Z U r hn N;delta E8;simp!;erw[_L (Xr j.length) (λi=>.int (0+(i:Nat))) (λi=>sgnM ((if A.gives x=wf/\i=A.ws.length%2^A.k then x.getD 0 else(j.getD i (0,0,0)).1),(j.getD i (0,0,0)).1,m)) ?_ ?_ hΦ λt l=>?_]
  .simp![N,X7,ZW]
   rw[Z2];erw[⟨by lia,by lia,rfl,by lia,trivial⟩]
  .intro i B M' s;have B:i<j.length:=by simpa using B
   have f':=s _ _ L;have p':=s _ _ Z;have d':=s _ _ N;simp only[sCm,Xy,YD,Z0,Z1,YC,Yj];have a1:atI (j.map sgnM) (0+(i:Int))=wc (sgnM (j.getD i (0,0,0))):=by
    rw[Wz];erw[Y4 ?_];rw[Xl,Xb B,YK,Xb B];rfl
   have a2:atI ((Xr j.length).map λi=>MV.int ((if A.gives x=wf/\i=A.ws.length%2^A.k then x.getD 0 else(j.getD i (0,0,0)).1:Nat):Int)) (0+(i:Int))=wc (.int ((if A.gives x=wf/\i=A.ws.length%2^A.k then x.getD 0 else(j.getD i (0,0,0)).1:Nat):Int)):=by
    rw[Wz];erw[Y4 ?_];rw[Xl,Wl B];rfl
   simp![f',p',d',a1,a2,XY,valM]
   erw[ex5 _ _ _ _ _ ⟨rfl,rfl,rfl⟩]
  have md2:M t=we:=by
   cases e:M t with
   |none=>rfl
   |some o=>
    by_cases e1:t=f
    .subst e1;rw[L]at l;cases l
    .by_cases e2:t=g
     .subst e2;rw[r]at l;cases l
     .by_cases e3:t=u
      .subst e3;rw[U,hu]at l;cases l
      .rw[fr t o e (by simp[e1,e2,e3])]at l;cases l
  have C:=fr.new l (.lst ((Xr j.length).map λi=>sgnM ((if A.gives x=wf/\i=A.ws.length%2^A.k then x.getD 0 else(j.getD i (0,0,0)).1),(j.getD i (0,0,0)).1,m)));have hpl2:(Xr j.length).map (λi=>sgnM ((if A.gives x=wf/\i=A.ws.length%2^A.k then x.getD 0 else(j.getD i (0,0,0)).1),(j.getD i (0,0,0)).1,m))=(YM A m x j).map sgnM:=by
   unfold YM;rw[Y5];rfl
  rw[hpl2]at C ⊢;have hf2:updM M1 t (.lst ((YM A m x j).map sgnM)) f=wc (XY p g u):=by rw[X9 (neM L l)];erw[L]
  have hg2:updM M1 t (.lst ((YM A m x j).map sgnM)) g=wc (Xj (2^(A.k+1)) n (Xf A.k A.ws.length,Xf A.k A.gp,A.gm) (A.gx.map (Xf A.k))):=by rw[X9 (neM r l)];erw[r]
  have hu2:updM M1 t (.lst ((YM A m x j).map sgnM)) u=M u:=by rw[X9 (neM (U.trans hu) l)];erw[U]
  have hd2:updM M1 t (.lst ((YM A m x j).map sgnM)) t=wc (.lst ((YM A m x j).map sgnM)):=Xa;generalize updM M1 t _=M2 at*
  simp![hf2,XY,putM]
  have fr3:=C.upd (p:=f) (by simp) (XY t g u)
  have J:updM M2 f (XY t g u) f=wc (XY t g u):=Xa;have W:updM M2 f (XY t g u) g=wc (Xj (2^(A.k+1)) n (Xf A.k A.ws.length,Xf A.k A.gp,A.gm) (A.gx.map (Xf A.k))):=by rw[X9 gf];erw[hg2]
  have F:updM M2 f (XY t g u) u=M u:=by rw[X9 uf];erw[hu2]
  have S:updM M2 f (XY t g u) t=wc (.lst ((YM A m x j).map sgnM)):=by rw[X9 (YH hd2 hf2 (by intro z;cases z))];erw[hd2]
  rw[XY]at fr3 J W F S;generalize updM M2 f _=M3 at*;delta JN;rw[hu]at F
  simp![J,W,F,Xj,valM]
  rw[eg]at W;erw[ex9 g (2^(A.k+1)) n (Xf A.k A.ws.length,Xf A.k A.gp,A.gm) (A.gx.dropLast.map (Xf A.k)) (Xf A.k (XH A.gx)) m c (Xf A.k A.tn,Xf A.k A.tp,A.tm) ⟨rfl,W,?_,Zs _,?_⟩]
  .have:=ok.gl;rw[X7,Wj];lia
  intro d hd;have ed:d=Xf A.k (A.gSamp c):=by
   rw[<-hd];erw[OJ ok.k4 ok.t1 _ _ c]
  simp![ed]
  have fr4:=fr3.upd (p:=g) (by simp) (Xj (2^(A.k+1)) n (gray (n%2^(A.k+1)),Xf A.k A.ws.length,m) (d::A.gx.dropLast.map (Xf A.k)))
  rw[ed]at fr4;erw[q t _ md2 fr4 ⟨ok.giver h2,?_,⟨YM A m x j,?_,_dS hpl⟩,?_,?_,G.ne⟩]
  .rw[X9 gf.symm];erw[J]
  .rw[X9 (YH S W (by intro z;unfold Xj at z;cases z))];erw[S]
  .rw[Xa];show _=wc (Xj (2^(A.k+1)) (A.giver m c x).ws.length (Xf A.k (A.giver m c x).ws.length,Xf A.k A.ws.length,m) ((A.gSamp c::A.gx.dropLast).map (Xf A.k)));rw[<-hn];rfl
  .rw[X9 G.ne.symm];erw[F]
 show wSs _ _ _ [wc (.ref f),wc (.int m),wc (.int c),wc (wM x),we,we] M;delta JR;simp!;erw[_L j sgnM (λs=>.int s.1) ?_ ?_ hΦ λD N=>?_]
 .simp![b,hp,XY,valM]
  erw[⟨rfl,by lia,hp⟩]
 .intro s hs M' same;simp only[sCm,Xy,YD,Z0,Z1,YC,Yj];simp!
 have X:=(FrM.refl M [f,g,u]).new N (.lst (j.map λs=>MV.int s.1));have Y:updM M D (.lst (j.map λs=>MV.int s.1)) f=wc (XY p g u):=by rw[X9 (neM b N)];erw[b]
 have H:updM M D (.lst (j.map λs=>MV.int s.1)) p=wc (.lst (j.map sgnM)):=by rw[X9 (neM hp N)];erw[hp]
 have O:updM M D (.lst (j.map λs=>MV.int s.1)) g=wc (Xj (2^(A.k+1)) A.ws.length (Xf A.k A.ws.length,Xf A.k A.gp,A.gm) (A.gx.map (Xf A.k))):=by rw[X9 (neM hg N)];erw[hg]
 have v:updM M D (.lst (j.map λs=>MV.int s.1)) u=M u:=by rw[X9 (neM hu N)]
 have P:updM M D (.lst (j.map λs=>MV.int s.1)) D=wc (.lst (j.map λs=>MV.int s.1)):=Xa;generalize updM M D _=M0 at*;have no:¬A.gives x=wf->j.map (λs=>MV.int s.1)=(Xr j.length).map λi=>MV.int ((if A.gives x=wf/\i=A.ws.length%2^A.k then x.getD 0 else(j.getD i (0,0,0)).1:Nat):Int):=λz=>by
  erw[AG (by simp) λi h1 h2=>?_]
  have B:i<j.length:=by simpa using h1
  simp[z,B]
 delta JQ;cases x with
 |none=>
  have z:¬A.gives we=wf:=by simp[Ab.gives]
  have z':A.gives we=wg:=by simpa using z
  simp![wM]
  delta E9
  simp![true_and]
  rw[no z]at P;have I:=R M0 D A.ws.length X Y H v O (by unfold Ab.giver;rw[if_neg z]) P
  rw[z',wM]at I;erw[I]
 |some y=>
  have cA:=O;rw[eg]at cA
  simp![wM,Y,O,XY,Xj,valM]
  erw[ex6 g _ _ _ _ _ ⟨rfl,cA,gs.1,Zs _,?_⟩]
  simp![P]
  rw[gs.2,X7,pll];have er:decide ((((A.ws.length:Int) - ((XH A.gx%2^(A.k+1):Nat):Int))%((2^(A.k+1):Nat):Int)<((2^A.k:Nat):Int)))=A.gives (wc y):=by
   unfold Ab.gives;simp only[Option.isSome_some,Ww];erw[decide_eq_decide.mpr (_h2 ok)]
  rw[er];delta E9;cases z:A.gives (wc y)with
  |false=>
   simp![true_and]
   rw[no (by rw[z];erw[Xx])]at P
   have I:=R M0 D A.ws.length X Y H v O (by unfold Ab.giver;rw[if_neg (by rw[z];erw[Xx])]) P
   rw[z,wM]at I;erw[I]
  |true=>
   simp![true_and]
   delta JP
   simp![wM,Y,O,P,XY,Xj,valM,X7]
   rw[pll,F6];erw[⟨by lia,A.ws.length%2^A.k,_k9 (U2 _ kpos),?_⟩]
   have fr1:FrM M (updM M0 D (.lst ((j.map λs=>MV.int s.1).set (A.ws.length%2^A.k) (.int y)))) [f,g,u]:=λa o e n=>by
    rw[X9 (neM e N)];erw[X a o e n]
   have eset:(j.map λs=>MV.int s.1).set (A.ws.length%2^A.k) (.int y)=(Xr j.length).map λi=>MV.int ((if A.gives (wc y)=wf/\i=A.ws.length%2^A.k then(wc y).getD 0 else(j.getD i (0,0,0)).1:Nat):Int):=by
    erw[AG (by simp) λi h1 h2=>?_]
    have B:i<j.length:=by simpa using h1
    rw[CP];by_cases e:A.ws.length%2^A.k=i
    .subst e;rw[if_pos rfl];simp[z]
    .rw[if_neg e];have e2:¬(A.gives (wc y)=wf/\i=A.ws.length%2^A.k):=λw=>e w.2.symm;simp[e2,B]
   rw[eset]at fr1 ⊢;have L:updM M0 D (.lst ((Xr j.length).map λi=>MV.int ((if A.gives (wc y)=wf/\i=A.ws.length%2^A.k then(wc y).getD 0 else(j.getD i (0,0,0)).1:Nat):Int))) f=wc (XY p g u):=by rw[X9 (neM b N)];erw[Y]
   have Z:updM M0 D (.lst ((Xr j.length).map λi=>MV.int ((if A.gives (wc y)=wf/\i=A.ws.length%2^A.k then(wc y).getD 0 else(j.getD i (0,0,0)).1:Nat):Int))) p=wc (.lst (j.map sgnM)):=by rw[X9 (neM hp N)];erw[H]
   have r:updM M0 D (.lst ((Xr j.length).map λi=>MV.int ((if A.gives (wc y)=wf/\i=A.ws.length%2^A.k then(wc y).getD 0 else(j.getD i (0,0,0)).1:Nat):Int))) g=wc (Xj (2^(A.k+1)) A.ws.length (Xf A.k A.ws.length,Xf A.k A.gp,A.gm) (A.gx.map (Xf A.k))):=by rw[X9 (neM hg N)];erw[O]
   have U:updM M0 D (.lst ((Xr j.length).map λi=>MV.int ((if A.gives (wc y)=wf/\i=A.ws.length%2^A.k then(wc y).getD 0 else(j.getD i (0,0,0)).1:Nat):Int))) u=M u:=by rw[X9 (neM hu N)];erw[v]
   have hd1:updM M0 D (.lst ((Xr j.length).map λi=>MV.int ((if A.gives (wc y)=wf/\i=A.ws.length%2^A.k then(wc y).getD 0 else(j.getD i (0,0,0)).1:Nat):Int))) D=wc (.lst ((Xr j.length).map λi=>MV.int ((if A.gives (wc y)=wf/\i=A.ws.length%2^A.k then(wc y).getD 0 else(j.getD i (0,0,0)).1:Nat):Int))):=Xa;generalize updM M0 D _=M1 at*;delta JO
   simp![L,r,XY,Xj,valM]
   erw[ex5 g _ _ _ _ ⟨rfl,r,?_⟩];have C:=fr1.upd (p:=g) (by simp) (Xj (2^(A.k+1)) (A.ws.length+1) (Xf A.k A.ws.length,Xf A.k A.gp,A.gm) (A.gx.map (Xf A.k)))
   have I:=R _ D (A.ws.length+1) C (by rw[X9 gf.symm];erw[L]) (by rw[X9 (YH Z r (by intro z;unfold Xj at z;cases z))];erw[Z]) (by rw[X9 G.ne.symm];erw[U]) Xa
    (by unfold Ab.giver;rw[if_pos z];simp) (by rw[X9 (YH hd1 r (by intro z;unfold Xj at z;cases z))];erw[hd1])
   rw[z,wM]at I;erw[I]
noncomputable def takM(A:Ab)(x:Bool):MV:=if A.takes x=wf then .int (A.ws.getD A.tn 0:Nat)else .non
abbrev W9:SpM:=λl M Q=>∃(f p g u:Addr) (A:Ab) (m:Int) (c:Nat) (x:Bool),l=[.ref f,.int m,.int c,.bl x]/\FyAt M f p g u A/\A.gm<m/\A.tm<m/\
 ∀j,FrM M j [f,g,u]->FyAt j f p g u (A.taker m c x)->Q (.tup [takM A x,.int (Xf A.k (A.tSamp c):Nat)]) j
def _3c:MonW W9:=by walk_at "m"
set_option tactic.hygienic true in
def _5j(T:Txt E):FM E 4 "Ferry" "ring_taker" W9:=by
 erw[T.aM.ok T.ai T.aj 4 ["self","moment","choice","wished","word","place"] (mC T [("sampled",Ah),("Side_grow",Uc),("Side_less_the_seen",Ub),("Side_ring_ahead",V9),("Side_show_and_see",Ud)] [("Side_grow",Uc),("Side_less_the_seen",Ub),("Side_ring_ahead",V9),("Side_show_and_see",Ud)] [(1,"Side","grow"),(2,"Side","less_the_seen"),(3,"Side","ring_ahead"),(4,"Side","show_and_see")] [] (fc (OE T) f0) (fMc F8 (fMc F7 (fMc OK (fMc F9 nl0)))) (fMc ⟨_,_,rfl,fM (ON T)⟩ (fMc ⟨_,_,rfl,fM (OM T)⟩ (fMc ⟨_,_,rfl,fM (OL T)⟩ (fMc ⟨_,_,rfl,fM (OO T)⟩ nl0)))) nl0) JW (fun vs M Q h=>?_)];have⟨f,p,g,u,A,m,c,x,rfl,y,a,h2,q⟩:=h;erw[⟨rfl,?_⟩];have t:=y.fe;have⟨Y,R,L⟩:=y.pls;have I:=y.gi;have j:=y.ta;have ok:=y.ok;have J:0<2^A.k:=Zs _;have k8:2^A.k<=8:=AW (by lia) (by have:=ok.k4;lia:A.k<=3)
 have B:Y.length=2^A.k:=L.1;have S:=OP (n:=XH A.tx) ok.k4;have C:1<=A.tx.length:=by rw[ok.tl];erw[ok.gl.1]
 have X:=OQ (k:=A.k) C;have gf:g≠f:=YH I t Cm;have H:u≠f:=YH j t Cm;have up:u≠p:=YH j R (by intro z;unfold Xj at z;cases z)
 have l:∀(M1:MH)(n:Nat)(v:Option MV),FrM M M1 [f,g,u]->M1 f=wc (XY p g u)->M1 p=wc (.lst (Y.map sgnM))->M1 g=M g->M1 u=wc (Xj (2^(A.k+1)) n (Xf A.k A.tn,Xf A.k A.tp,A.tm) (A.tx.map (Xf A.k)))->n=(A.taker m c x).tn->
   wSs ([("sampled",Ah),("Side_grow",Uc),("Side_less_the_seen",Ub),("Side_ring_ahead",V9),("Side_show_and_see",Ud)]:List (Str×SpM)) Ea {nx:=fun _ M'=>Q .non M',rt:=Q} [wc (.ref f),wc (.int m),wc (.int c),wc (.bl x),wc (takM A x),v] M1:=by
  intro M1 n v fr U D N O hn;rw[I]at N;delta Ea
  simp![U,O,N,XY,Xj,valM]
  rw[X]at O;erw[ex9 u (2^(A.k+1)) n (Xf A.k A.tn,Xf A.k A.tp,A.tm) (A.tx.dropLast.map (Xf A.k)) (Xf A.k (XH A.tx)) m c (Xf A.k A.ws.length,Xf A.k A.gp,A.gm) ⟨rfl,O,?_,Zs _,?_⟩]
  .have:=ok.gl;have:=ok.tl;rw[X7,Wj];lia
  intro d hd;have o:d=Xf A.k (A.tSamp c):=by
   rw[<-hd];erw[OJ ok.k4 ok.g1 _ _ c]
  simp![o]
  have W:=fr.upd (p:=u) (by simp) (Xj (2^(A.k+1)) n (gray (n%2^(A.k+1)),Xf A.k A.tn,m) (d::A.tx.dropLast.map (Xf A.k)))
  rw[o]at W;erw[q _ W ⟨ok.taker a,?_,⟨Y,?_,L⟩,?_,?_,y.ne⟩]
  .rw[X9 H.symm];erw[U]
  .rw[X9 up.symm];erw[D]
  .rw[X9 y.ne];erw[N]
  .rw[Xa];show _=wc (Xj (2^(A.k+1)) (A.taker m c x).tn (Xf A.k (A.taker m c x).tn,Xf A.k A.tn,m) ((A.tSamp c::A.tx.dropLast).map (Xf A.k)));rw[<-hn];rfl
 show wSs _ _ _ [wc (.ref f),wc (.int m),wc (.int c),wc (.bl x),we,we] M;delta JW;simp!;delta JV;cases x with
 |false=>
  have z:¬A.takes wg=wf:=by simp[Ab.takes]
  simp![true_and]
  have r:=l M A.tn we (FrM.refl _ _) t R rfl j (by unfold Ab.taker;rw[if_neg z])
  rw[takM,if_neg z]at r;erw[r]
 |true=>
  have i:=j;rw[X]at i
  simp![t,j,XY,Xj,valM]
  erw[ex6 u _ _ _ _ _ ⟨rfl,i,S.1,Zs _,?_⟩]
  simp![true_and]
  rw[S.2];erw[XU (λP=>?_) (λP=>?_)]
  .have b:XH A.tx≠A.tn:=λe=>P ((Oz ok).mpr e);have z:A.takes wf=wf:=by unfold Ab.takes;simpa using b
   have⟨hj,Z,ha,hb⟩:=_eC ok L b;delta JU
   simp![t,j,R,XY,Xj,valM,X7]
   rw[B,F6];have a1:atI (Y.map sgnM) ((A.tn%2^A.k:Nat):Int)=wc (sgnM (A.ws[A.tn],Z,A.gm)):=by
    erw[Y4 ?_];rw[Xl,ha];rfl
   erw[⟨by lia,_,a1,?_⟩]
   delta JT
   simp![t,j,XY,Xj,valM]
   erw[ex5 u _ _ _ _ ⟨rfl,j,?_⟩]
   simp![true_and]
   erw[ex5 (A.ws[A.tn]) Z A.gm A.tm c ⟨rfl,?_⟩];have ew:(if A.tm<A.gm then seen Z A.ws[A.tn] c else A.ws[A.tn])=A.ws[A.tn]:=by
    split
    .rename_i w;rw[hb w,_eS]
    .rfl
   rw[ew];delta JS
   simp![t,j,XY,Xj,valM]
   erw[ex5 u _ _ _ _ ⟨rfl,j,?_⟩];have F:=(FrM.refl M [f,g,u]).upd (p:=u) (by simp) (Xj (2^(A.k+1)) (A.tn+1) (Xf A.k A.tn,Xf A.k A.tp,A.tm) (A.tx.map (Xf A.k)))
   have r:=l _ (A.tn+1) (wc (sgnM (A.ws[A.tn],Z,A.gm))) F (by rw[X9 H.symm];erw[t]) (by rw[X9 up.symm];erw[R]) (by rw[X9 y.ne]) Xa (by unfold Ab.taker;rw[if_pos z])
   have G:A.ws.getD A.tn 0=A.ws[A.tn]:=by rw[YK,Xb hj];rfl
   rw[takM,if_pos z,G]at r;erw[r]
  .have e:XH A.tx=A.tn:=(Oz ok).mp (Decidable.not_not.mp P);have z:¬A.takes wf=wf:=by unfold Ab.takes;simpa using e
   have r:=l M A.tn we (FrM.refl _ _) t R rfl j (by unfold Ab.taker;rw[if_neg z])
   rw[takM,if_neg z]at r;erw[r]
def FrM.trans{M M1 M2:MH}{l:List Addr}(a:FrM M M1 l)(b:FrM M1 M2 l):FrM M M2 l:=λc o h n=>b c o (a c o h n) n
def FyAt.same{M t:MH}{f p g u:Addr}{A:Ab}(h:FyAt M f p g u A)(s:∀a o,M a=wc o->(∀j,o=.lst j->a=p)->t a=wc o):FyAt t f p g u A:=by
 have⟨w,y,l⟩:=h.pls;erw[⟨h.ok,s _ _ h.fe (λj z=>by cases z),⟨w,s _ _ y (λj _=>rfl),l⟩,s _ _ h.gi (λj z=>by cases z),s _ _ h.ta (λj z=>by cases z),h.ne⟩]
def FyAt.put{M:MH}{f p g u q:Addr}{A:Ab}{xs:List MV}(h:FyAt M f p g u A)(j:M q=wc (.lst xs))(n:q≠p)(l:List MV):FyAt (updM M q (.lst l)) f p g u A:=h.same λa o e z=>by
 by_cases w:a=q
 .subst w;rw[j]at e;cases e;erw[absurd (z xs rfl) n]
 .rw[X9 w];erw[e]
def OS{M:MH}{f p g u q:Addr}{A:Ab}{l:List MV}(h:FyAt M f p g u A)(j:M q=wc (.lst l)):q∉ [f,g,u]:=by
 intro z;rcases Xh.mp z with rfl|z
 .rw[h.fe]at j;cases j
 rcases Xh.mp z with rfl|z
 .rw[h.gi]at j;cases j
 rcases Xh.mp z with rfl|z
 .rw[h.ta]at j;cases j
 .cases z
abbrev Cn:SpM:=λl M Q=>∃(j:List Int) (k:Nat),l=[.frl (j.map .int),.int k]/\Q (.int (j.getD k 0)) M
def _5o:MonW Cn:=by walk_at "m"
def _8g(T:Txt E):FO E 1 "_law_cell_at" Cn:=by
 erw[T.bu.ok T.g _5o 2 ["script","k"] (fC T f0) Mv (fun t M Q h=>?_)];have⟨j,k,rfl,q⟩:=h;erw[⟨rfl,?_⟩];show wSs _ _ _ [wc (.frl (j.map .int)),wc (.int k)] M;delta Mv;simp!;erw[XU (λc=>?_) (λc=>?_)]
 .rw[X7]at c;have l:k<j.length:=by lia
  delta Mu;simp!;have e:j.getD k 0=j[k]:=by simp[YK,l]
  rw[e]at q;erw[⟨_,Y4 (by rw[Xl,Xb l];rfl),q⟩]
 .rw[X7]at c;have e:j.getD k 0=0:=by simp[YK,Fk.mpr (show j.length<=k by lia)]
  rw[e]at q;delta Mt;simp!;erw[q]
noncomputable def alph:Str:="abcdefghijklmnopqrstuvwxyz"
def _i1:alph.cps.toList.length=26:=by decide+kernel
def _gC:alph.length<=16777216:=by decide+kernel
def _kS{i:Int}(l:0<=i)(u:i<26):∃c,atI alph.cps.toList i=wc c:=by
 have t:i.toNat<alph.cps.toList.length:=by rw[_i1];lia
 erw[⟨alph.cps.toList[i.toNat],?_⟩];have:=Y4 (l:=alph.cps.toList) (j:=i.toNat) (Xb t)
 rwa [UY l]at this
def Fa(a:Int):∃c,atI alph.cps.toList (a%26)=wc c:=_kS (Zu _ (by decide)) (ZE _ (by decide))
def OT(c:Nat):(⟨#[c]⟩:Str).length=1:=rfl
def _kQ(a b:Str):(a++b).length=a.length+b.length:=by
 show(a.cps++b.cps).size=_;rw[Array.size_append]
 rfl
def ltr(i:Int):Str:=match atI alph.cps.toList i with
 |wc c=>⟨#[c]⟩
 |we=>V2
def Yp(n k:Int):Str:=if n%3=2 then Txt.mul (ltr (n/192%26)) (1+(3*k+n/192)%7)++Txt.mul (ltr ((n/192%26+1+n/4992%25)%26)) (k/7)
 else Txt.mul (ltr (n/192%26)) (n/24%8%(1+n/3%8))++ltr ((n/4992+7*k)%26)++Txt.mul (ltr (n/192%26)) (1+n/3%8 - 1 - n/24%8%(1+n/3%8))
abbrev Wa:SpM:=λj M Q=>∃(n k:Int),j=[.int n,.int k]/\0<=k/\k<=50/\Q (.str (Yp n k)) M
def _7H:MonW Wa:=by walk_at "m"
def OU(T:Txt E):FO E 1 "_law_name" Wa:=by
 erw[T.aI.ok T.g _7H 2 ["number","k","letters","fill","other","long","at","sign"] (fC T f0) MG (fun U M Q h=>?_)];have⟨n,k,rfl,p,e,q⟩:=h;erw[⟨rfl,?_⟩];show wSs _ _ _ [wc (.int n),wc (.int k),we,we,we,we,we,we] M;delta MG;simp!;delta MF;simp!;delta ME;simp!;have u:=_gC;have⟨t,y⟩:=Fa (n/192);have L:ltr (n/192%26)=⟨#[t]⟩:=by unfold ltr;rw[y]
 unfold Yp at q;rw[L]at q;erw[XU (λc=>?_) (λc=>?_)]
 .rw[if_pos c]at q;delta MD;simp!;have⟨m,d⟩:=Fa ((n/192%26+1+n/4992%25));have N:ltr ((n/192%26+1+n/4992%25)%26)=⟨#[m]⟩:=by unfold ltr;rw[d]
  rw[N]at q;erw[⟨u,m,d,?_⟩];delta MC;simp!;erw[⟨u,t,y,?_⟩];have O:=BG (z:=⟨#[t]⟩) (i:=1+(3*k+n/192)%7) 8 (by lia) (Xc 1)
  have P:=BG (z:=⟨#[m]⟩) (i:=k/7) 8 (by lia) (Xc 1)
  simp only[OT];erw[⟨by decide,by lia,by lia,by decide,by lia,by lia,by lia,q⟩]
 .rw[if_neg c]at q;obtain⟨lo,w⟩:∃lo:Int,1+n/3%8=lo:=⟨_,rfl⟩;have⟨f,r⟩:=Fa ((n/4992+7*k));have R:ltr ((n/4992+7*k)%26)=⟨#[f]⟩:=by unfold ltr;rw[r]
  rw[R,w]at q;delta MA;simp!;rw[w];delta Mz;simp!;have g:(0:Int)<lo:=by lia
  erw[⟨g,?_⟩];obtain⟨j,l⟩:∃j:Int,n/24%8%lo=j:=⟨_,rfl⟩;have W:0<=j:=by rw[<-l];erw[Zu _ (Int.ne_of_gt g)]
  have Y:j<lo:=by rw[<-l];erw[ZE _ g]
  rw[l]at q;rw[l];delta Mx;simp!;erw[⟨u,f,r,?_⟩];delta Mw;simp!;have O:=BG (z:=⟨#[t]⟩) (i:=j) 8 (by lia) (Xc 1)
  have P:=BG (z:=⟨#[t]⟩) (i:=lo - 1 - j) 8 (by lia) (Xc 1)
  erw[⟨u,t,y,?_⟩];simp only[OT,_kQ];erw[⟨by decide,by lia,by lia,by lia,u,t,y,by decide,by lia,by lia,by lia,q⟩]
theorem OV(c:Nat):∀(k:Nat)(j:Array Nat),((Xg k #[c]).foldl (·++·) j).toList=j.toList++Xg k c
 |0,j=>by simp
 |k+1,j=>by
  rw[Zc,Vp,OV c k,Array.toList_append,UP,Zc];rfl
def mul_one(c:Nat)(i:Int):(Txt.mul (⟨#[c]⟩:Str) i).cps.toList=Xg i.toNat c:=by
 unfold Txt.mul;by_cases h:i<1
 .rw[if_pos h];have:i.toNat=0:=by lia
  rw[this];rfl
 rw[if_neg h];by_cases h2:(i==1||(⟨#[c]⟩:Str).length==0)=wf
 .rw[if_pos h2];rcases(B8 _ _).mp h2 with e|e
  .have:i=1:=by simpa using e
   subst this;rfl
  .have:(⟨#[c]⟩:Str).length=0:=by simpa using e
   cases this
 .rw[if_neg h2];show((Xg i.toNat #[c]).foldl (·++·) #[]).toList=_;rw[OV];rfl
def _kR:alph.cps.toList=(Xr 26).map (97+·):=by decide+kernel
def _mv{i:Int}(l:0<=i)(u:i<26):ltr i=⟨#[97+i.toNat]⟩:=by
 unfold ltr;have t:i.toNat<26:=by lia
 have e:atI alph.cps.toList i=wc (97+i.toNat):=by
  have:=Y4 (l:=alph.cps.toList) (j:=i.toNat) (v:=97+i.toNat) (by rw[_kR,Xl,Wl t];rfl)
  rwa [UY l]at this
 rw[e]
def Co(a:Int):ltr (a%26)=⟨#[97+(a%26).toNat]⟩:=_mv (Zu _ (by decide)) (ZE _ (by decide))
def Vb(a:Int):97<=97+(a%26).toNat/\97+(a%26).toNat<=122:=⟨UT ..,Nat.add_le_add_left (D6 ((Int.toNat_lt (Zu _ (by decide))).mpr (ZE a (by decide)))) 97⟩
def Cp(a b:Str):(a++b).cps.toList=a.cps.toList++b.cps.toList:=by
 show(a.cps++b.cps).toList=_;rw[Array.toList_append]
def Fc{n:Int}(c:n%3=2){k:Int}(t:0<=k)(u:k<=10):∃j l:Nat,j≠l/\97<=j/\j<=122/\97<=l/\l<=122/\j=97+(n/192%26).toNat/\l=97+((n/192%26+1+n/4992%25)%26).toNat/\(Yp n k).cps.toList=Xg (1+(3*k+n/192)%7).toNat j++Xg (k/7).toNat l:=by
 erw[⟨_,_,?_,(Vb _).1,(Vb _).2,(Vb _).1,(Vb _).2,rfl,rfl,?_⟩]
 .lia
 .unfold Yp;rw[if_pos c,Cp,Co,Co,mul_one,mul_one]
def Fe{n:Int}(c:¬n%3=2)(k:Int):∃j lo l:Nat,j<lo/\lo<=8/\97<=l/\l<=122/\j=(n/24%8%(1+n/3%8)).toNat/\
  (Yp n k).cps.toList=Xg j l++(97+((n/4992+7*k)%26).toNat)::Xg (lo - 1 - j) l:=by
 have t:0<=n/24%8%(1+n/3%8):=Zu _ (by lia)
 have u:n/24%8%(1+n/3%8)<1+n/3%8:=ZE _ (by lia)
 erw[ex3 ((n/24%8%(1+n/3%8)).toNat) ((1+n/3%8).toNat) (97+(n/192%26).toNat) ⟨by lia,by lia,(Vb _).1,(Vb _).2,rfl,?_⟩]
 unfold Yp;rw[if_neg c,Cp,Cp,Co,Co,mul_one,mul_one];have e:(1+n/3%8 - 1 - n/24%8%(1+n/3%8)).toNat=(1+n/3%8).toNat - 1 - (n/24%8%(1+n/3%8)).toNat:=by lia
 rw[e,UP];rfl
def Ff{n k:Int}(w:0<=k)(y:k<=10):GoodN (Yp n k):=by
 have l:∀z:Str,z.length=z.cps.toList.length:=λz=>Yb.symm;by_cases c:n%3=2
 .have⟨m,r,p,t,u,g,d,_,_,e⟩:=Fc c w y;erw[⟨?_,?_,?_⟩]
  .rw[l,e,Yf,Za,Za];lia
  .rw[l,e,Yf,Za,Za];lia
  .intro x j;rw[e]at j;rcases Ya.mp j with j|j
   .rw[UN j];erw[⟨t,u⟩]
   .rw[UN j];erw[⟨g,d⟩]
 .have⟨f,lo,m,L,N,t,u,_,e⟩:=Fe c k;erw[⟨?_,?_,?_⟩]
  .rw[l,e,Yf,Yr,Za,Za];lia
  .rw[l,e,Yf,Yr,Za,Za];lia
  .intro x j;rw[e]at j;rcases Ya.mp j with j|j
   .rw[UN j];erw[⟨t,u⟩]
   .rcases Xh.mp j with j|j
    .rw[j];erw[Vb _]
    .rw[UN j];erw[⟨t,u⟩]
def OW{n k j:Int}(d:0<=k)(r:k<=10)(t:0<=j)(u:j<=10)(h:Yp n k=Yp n j):k=j:=by
 by_cases c:n%3=2
 .have⟨L,N,w,_,_,_,_,O,P,e⟩:=Fc c d r;have⟨R,T,_,_,_,_,_,y,z,f⟩:=Fc c t u;rw[<-O]at y;rw[<-P]at z;subst y z;rw[<-h,e]at f;have m:=congrArg (List.count R) f;have g:=congrArg (List.count T) f;simp only[List.count_append,List.count_replicate,beq_iff_eq,if_true,w,XT w,if_false,Nat.add_zero,Nat.zero_add]at m g
  try simp at m g
  omega
 .have⟨U,lo,L,Z,A,B,C,W,e⟩:=Fe c k;have⟨at2,Y,N,_,_,_,_,f0,f⟩:=Fe c j;rw[<-W]at f0;subst f0;rw[<-h,e]at f;have p:=congrArg (λl=>l[at2]?) f
  try simp only at p
  rw[ZU (by rw[Za];erw[Xc _]),ZU (by rw[Za];erw[Xc _]),Za,Nat.sub_self]at p
  have p:97+((n/4992+7*k)%26).toNat=97+((n/4992+7*j)%26).toNat:=by simpa using p
  omega
abbrev Ai:SpM:=λl M Q=>∃(n:Int) (a:Addr) (x y:Str),l=[.int n,.ref a]/\M a=wc (.lst [.str x,.str y])/\0<=n/\n<=10^8/\∀(U:Tm)j,SameM M j->TmIn [x,y] U->Q U.mv j
def OX:MonW Ai:=by walk_at "m"
def _bl(T:Txt E):FO E 1 "_law_term" Ai:=by
 erw[T.bB.ok T.g OX 2 ["number","names","one","other"] (fC T f0) MR (fun A M Q h=>?_)];have⟨n,a,x,y,rfl,N,B,C,q⟩:=h;erw[⟨rfl,?_⟩];show wSs _ _ _ [wc (.int n),wc (.ref a),we,we] M;obtain⟨z,O,R⟩:∃z,(z=x\/z=y)/\atI [MV.str x,.str y] (n/8%2)=wc (.str z):=by
  rcases(show n/8%2=0\/n/8%2=1 by lia)with e|e<;>rw[e]
  .erw[⟨x,.inl rfl,at0⟩]
  .erw[⟨y,.inr rfl,at1⟩]
 obtain⟨U,g,d⟩:∃z,(z=x\/z=y)/\atI [MV.str x,.str y] (n/224%2)=wc (.str z):=by
  rcases(show n/224%2=0\/n/224%2=1 by lia)with e|e<;>rw[e]
  .erw[⟨x,.inl rfl,at0⟩]
  .erw[⟨y,.inr rfl,at1⟩]
 delta MR
 simp![N,R]
 delta MQ;simp!;intro p W;obtain⟨r,Y⟩:∃r:Int,atI [MV.int (n/16%7 - 3),MV.int (n/16*1000000007%100000000000000000000)] (n/112%2)=wc (.int r):=by
  rcases(show n/112%2=0\/n/112%2=1 by lia)with e|e<;>rw[e]
  .erw[⟨_,at0⟩]
  .erw[⟨_,at1⟩]
 erw[⟨_,Y,?_⟩];have w:=SameM.new W (.lst [MV.int (n/16%7 - 3),MV.int (n/16*1000000007%100000000000000000000)]);generalize updM M p _=M1 at*;have c:=w _ _ N;have L:∀u,u∈ [z]->u∈ [x,y]:=λu j=>by
  rw[Y9.mp j];rcases O with rfl|rfl<;>simp
 delta MP;simp!;erw[XU (λ_=>?_) (λD=>?_)]
 .delta MN;simp!;intro P l;have m:=w.trans (SameM.new l (.lst [.tup [.str "var",.str z],.tup [.str "num",.int r]]));rcases(show n%2=0\/n%2=1 by lia)with e|e<;>rw[e]
  .erw[⟨_,at0,q (.var z) _ m ⟨by simp[Tm.depth],by simp[Tm.size],λu j=>L u j⟩⟩]
  .erw[⟨_,at1,q (.num r) _ m ⟨by simp[Tm.depth],by simp[Tm.size],λu j=>by simp[Tm.reads]at j⟩⟩]
 delta MM;simp!;erw[XU (λZ=>?_) (λZ=>?_)]
 .delta ML;simp!;intro P l;have m:=w.trans (SameM.new l (.lst [.str "plus",.str "minus",.str "times"]));have t:∀f:Form,Q (.tup [.str f.str,.tup [.str "var",.str z],.tup [.str "num",.int r]]) (updM M1 P (.lst [.str "plus",.str "minus",.str "times"])):=fun f=>
   q (.two f (.var z) (.num r)) _ m ⟨by simp[Tm.depth],by simp[Tm.size],λu j=>L u (by simpa [Tm.reads]using j)⟩
  rcases(show n%8 - 2=0\/n%8 - 2=1\/n%8 - 2=2 by lia)with e|e|e<;>rw[e]
  .erw[⟨_,at0,t .plus⟩]
  .erw[⟨_,at1,t .minus⟩]
  .erw[⟨_,at2,t .times⟩]
 delta MK;simp!;erw[XU (λ_=>?_) (λ_=>?_)]
 .delta MJ;simp!;erw[q (.pick (.two .less (.var z) (.num r)) (.num r) (.var z)) _ w ⟨by simp[Tm.depth],by simp[Tm.size],λu j=>L u (by simpa [Tm.reads]using j)⟩]
 .delta MI
  simp![c,d]
  erw[q (.two .plus (.var z) (.var U)) _ w ⟨by simp[Tm.depth],by simp[Tm.size],λu j=>?_⟩]
  simp only[Tm.reads,YC,Yj,Xh,XM,or_false]at j;rcases j with rfl|rfl
  .rcases O with rfl|rfl<;>simp
  .rcases g with rfl|rfl<;>simp
def OY{d:List (Str×SpM)}{own:List Str}{fr:List Nat}{u:ISr}{L:ITg}{t w:IE}{N:Sm}{M:MH}{Q:QM}{O:Type}(l:List O)(f g:O->MV)(b:O->Bool)
  (C:wSr d u N M λS M1=>S.items=l.map f/\l.length<sizeLine/\S.okF M1/\M1=M)
  (F:∀x∈l,∀c,SameM M c->wTg L (f x) (sCm own fr N) λz=>wE d t z c λv M2=>v=.bl (b x)/\M2=c/\(b x=wf->wE d w z c λy M2=>y=g x/\M2=c))
  (m:∀(j:Nat)f U,d[j]?=wc (f,U)->MonW U)(q:∀D,M D=we->Q (.ref D) (updM M D (.lst ((l.filter b).map g)))):wE d (.comp own fr u L (.some t) w) N M Q:=by
 rw[BV];erw[mon_sr m u (λS M1 r=>?_) C];have⟨e,G,W,I⟩:=r;subst I;have Y:S.len=l.length:=by rw[<-S.items_len,e,X7]
 erw[⟨by rw[Y];erw[G],λD P=>⟨λi p M2=>M2=updM M1 D (.lst p)/\p=((l.take i).filter b).map g,⟨rfl,by simp⟩,?_,?_,?_⟩⟩]
 .rintro i p M2 ⟨rfl,rfl⟩;erw[⟨Xa,?_,?_⟩]
  .rw[X7];have e:=CJ b (l.take i);rw[Ys]at e;lia
  cases S with
  |tup _=>trivial
  |rng _ _=>trivial
  |str _=>trivial
  |lst a X=>erw[SameM.new P _ _ _ W]
 .rintro i x p M2 Z ⟨rfl,rfl⟩;rw[e]at Z;have⟨A,rfl⟩:=_7 Z;erw[WU L (λz h=>?_) (F l[i] (XW A) _ (SameM.new P (.lst (((l.take i).filter b).map g))))];rw[wI];erw[X6 m t (λv M2 r=>?_) h];have⟨R,T,J⟩:=r;subst R T;have B:l.take (i+1)=l.take i++[l[i]]:=by rw[ZX,Xb A];rfl
  erw[⟨b l[i],rfl,?_⟩];by_cases hb:b l[i]=wf
  .rw[if_pos hb];erw[X6 m w (λy M2 r=>?_) (J hb)];have⟨R,T⟩:=r;subst R T;erw[⟨Xa,YF,?_⟩];rw[B,AD,XX,List.filter_cons_of_pos hb]
   rfl
  .rw[if_neg hb];erw[⟨rfl,?_⟩];rw[B,AD,XX,List.filter_cons_of_neg hb];simp
 .rintro p M2 ⟨rfl,rfl⟩;rw[Y,UO (Xc _),DZ W];erw[q D P]
abbrev Cq:SpM:=λl M Q=>∃(n:Int) (z:Str) (a f:Addr) (x y:Str) (F:List Fer) (m:Nat),l=[.int n,.str z,.ref a,.ref f,.int m]/\M a=wc (.lst [.str x,.str y])/\M f=wc (.lst (F.map Fer.mv))/\F.length<=6/\0<=n/\n<=10^8/\m<=100/\(F.map (·.name)).Nodup/\
 ∀(S:Stp)j,SameM M j->ZM (F.map (·.name)) [x,y] m S->ZN F z S->Q S.mv j
def _7G:MonW Cq:=by walk_at "m"
def OZ{F:List Fer}(l:(F.map (·.name)).Nodup){u v:Fer}(t:u∈F)(w:v∈F)(e:u.name=v.name):u=v:=by
 have⟨i,y,rfl⟩:=YB t;have⟨j,z,rfl⟩:=YB w;have:i=j:=by
  erw[(AF (xs:=F.map (·.name)) (h₀:=by simpa using y) (h₁:=by simpa using z) l).mp ?_]
  rw[CO,CO];erw[e]
 subst this;rfl
def P0{F:List Fer}{b:Fer->Bool}{i:Int}(h:F.filter b≠ []):∃v∈F,b v=wf/\atI ((F.filter b).map λv=>MV.str v.name) (i%((F.filter b).length:Int))=wc (.str v.name):=by
 have w:0<(F.filter b).length:=AC.mpr h;have y:=Zu i (b:=((F.filter b).length:Int)) (by lia)
 have z:=ZE i (b:=((F.filter b).length:Int)) (by lia)
 obtain⟨j,u⟩:∃j:Nat,i%((F.filter b).length:Int)=(j:Int):=⟨(i%((F.filter b).length:Int)).toNat,by lia⟩
 have l:j<(F.filter b).length:=by lia
 have t:=XW l;rw[CQ]at t;erw[⟨(F.filter b)[j],t.1,t.2,?_⟩];rw[u];erw[Y4 (by rw[Xl,Xb l];rfl)]
def _bm(T:Txt E):FO E 2 "_law_step" Cq:=by
 erw[T.cm.ok T.g _7G 5 ["number","name","names","ferries","many","takes","gives","rest"] (fC T (fc (_bl T) f0)) N2 (fun vs M Q h=>?_)];have⟨n,z,a,f,x,y,F,m,rfl,ha,J,h6,n0,n1,hm,nd,q⟩:=h;erw[⟨rfl,?_⟩];show wSs _ _ _ [wc (.int n),wc (.str z),wc (.ref a),wc (.ref f),wc (.int m),we,we,we] M;have N:=(UB (t:=[("_law_term",Ai)]) (fMc OX nl0));delta N2;simp!;erw[OY F Fer.mv (λv=>.str v.name) (λv=>decide (v.taker=z)) ?_ ?_ N λO S=>?_]
 .simp![J]
  erw[⟨rfl,by lia,J⟩]
 .intro v d P s;simp only[sCm,Xy,YD,Z0,Z1,YC,Yj]
  simp![Fer.mv]
  try simp
 have s1:=SameM.new S (.lst ((F.filter λv=>decide (v.taker=z)).map λv=>MV.str v.name));have d1:updM M O (.lst ((F.filter λv=>decide (v.taker=z)).map λv=>MV.str v.name)) O=wc (.lst ((F.filter λv=>decide (v.taker=z)).map λv=>MV.str v.name)):=Xa;generalize updM M O _=M1 at*;have R:=s1 _ _ J;delta N0;simp!;erw[OY F Fer.mv (λv=>.str v.name) (λv=>decide (v.giver=z)) ?_ ?_ N λW X=>?_]
 .simp![R]
  erw[⟨rfl,by lia,R⟩]
 .intro v d P s;simp only[sCm,Xy,YD,Z0,Z1,YC,Yj]
  simp![Fer.mv]
  try simp
 have s2:=SameM.new X (.lst ((F.filter λv=>decide (v.giver=z)).map λv=>MV.str v.name));have d2:updM M1 W (.lst ((F.filter λv=>decide (v.giver=z)).map λv=>MV.str v.name)) W=wc (.lst ((F.filter λv=>decide (v.giver=z)).map λv=>MV.str v.name)):=Xa;generalize updM M1 W _=M2 at*;have H:=s2 _ _ d1;have G:=s1.trans s2;have c:=G _ _ ha;delta MZ;simp!;have w:∀l,SameM M2 l->wSs ([("_law_term",Ai)]:List (Str×SpM)) Ew {nx:=fun x P=>Q MV.non P,rt:=Q} [wc (.int n),wc (.str z),wc (.ref a),wc (.ref f),wc (.int m),wc (.ref O),wc (.ref W),wc (.int (n/128))] l:=by
  intro l Y;have r:=Y _ _ c;have st:=G.trans Y;delta Ew;simp!;erw[XU (λ_=>?_) (λ_=>?_)]
  .delta MU;simp!;erw[ex4 (n/128) a x y ⟨rfl,r,by lia,by lia,λU g j Z=>?_⟩]
   simp!;have L:(0:Int)<(m:Int)+1:=by lia
   erw[⟨L,q (.jump U (n/8%(m+1))) g (st.trans j) ⟨Z,Zu _ (by lia),by have:=ZE (n/8) L;lia⟩ trivial⟩]
  .delta MS;obtain⟨u,A,I⟩:∃u,u∈ [x,y]/\atI [MV.str x,.str y] (n/8%2)=wc (.str u):=by
    rcases(show n/8%2=0\/n/8%2=1 by lia)with e|e<;>rw[e]
    .erw[⟨x,by simp,at0⟩]
    .erw[⟨y,by simp,at1⟩]
   simp![r,I]
   erw[ex4 (n/128) a x y ⟨rfl,r,by lia,by lia,λU g j Z=>?_⟩]
   try walk_at "s"
   erw[q (.put u U) g (st.trans j) ⟨A,Z⟩ trivial]
 have B:∀l,SameM M2 l->wSs ([("_law_term",Ai)]:List (Str×SpM)) Ey {nx:=fun x P=>Q MV.non P,rt:=Q} [wc (.int n),wc (.str z),wc (.ref a),wc (.ref f),wc (.int m),wc (.ref O),wc (.ref W),wc (.int (n/128))] l:=by
  intro l Y;delta Ey;simp!;erw[XU (λ_=>?_) (λ_=>w l Y)];intro p L;have j:=Y.trans (SameM.new L (.lst []));have o:updM l p (.lst []) p=wc (.lst []):=Xa;generalize updM l p _=g at*;have C:=j _ _ d2;have t:=j _ _ c;erw[DY C o ?_];by_cases hn:(F.filter λv=>decide (v.giver=z))=[]
  .rw[hn];erw[w g j]
  .have b:((F.filter λv=>decide (v.giver=z)).map λv=>MV.str v.name).isEmpty=wg:=by
    cases e:F.filter λv=>decide (v.giver=z)with
    |nil=>erw[absurd e hn]
    |cons _ _=>rfl
   rw[b,if_pos rfl];delta MW;have⟨v,d,hb,D⟩:=P0 (i:=n/8) hn;have hl:0<(F.filter λv=>decide (v.giver=z)).length:=AC.mpr hn
   simp![C,X7,D]
   erw[⟨by lia,?_⟩]
   try simp![D]
   erw[ex4 (n/128) a x y ⟨rfl,t,by lia,by lia,λU M5 s5 Z=>?_⟩]
   try walk_at "s"
   erw[q (.give v.name U) M5 ((G.trans j).trans s5) ⟨XR.mpr ⟨v,d,rfl⟩,Z⟩ (λu A e=>?_)];rw[OZ nd A d e];erw[of_decide_eq_true hb]
 delta MY;simp!;erw[XU (λ_=>?_) (λ_=>B M2 (SameM.refl _))];intro p L;have j:=SameM.new L (.lst []);have o:updM M2 p (.lst []) p=wc (.lst []):=Xa;generalize updM M2 p _=g at*;have C:=j _ _ H;have t:=j _ _ c;erw[DY C o ?_];by_cases hn:(F.filter λv=>decide (v.taker=z))=[]
 .rw[hn];erw[B g j]
 .have b:((F.filter λv=>decide (v.taker=z)).map λv=>MV.str v.name).isEmpty=wg:=by
   cases e:F.filter λv=>decide (v.taker=z)with
   |nil=>erw[absurd e hn]
   |cons _ _=>rfl
  rw[b,if_pos rfl];delta MX;have⟨v,d,hb,D⟩:=P0 (i:=n/8) hn;have hl:0<(F.filter λv=>decide (v.taker=z)).length:=AC.mpr hn;obtain⟨u,A,I⟩:∃u,u∈ [x,y]/\atI [MV.str x,.str y] (n/128%2)=wc (.str u):=by
   rcases(show n/128%2=0\/n/128%2=1 by lia)with e|e<;>rw[e]
   .erw[⟨x,by simp,at0⟩]
   .erw[⟨y,by simp,at1⟩]
  simp![C,X7,D,t,I]
  erw[⟨by lia,?_⟩]
  try simp![D,t,I]
  erw[q (.take v.name u) g (G.trans j) ⟨XR.mpr ⟨v,d,rfl⟩,A⟩ (λu' hu' e=>?_)];rw[OZ nd hu' d e];erw[of_decide_eq_true hb]
abbrev Cr:SpM:=λt M Q=>∃(n l u:Int) (k:Nat) (f:Addr) (F:List Fer),t=[.int n,.int k,.int l,.ref f,.int u]/\M f=wc (.lst (F.map Fer.mv))/\F.length<=6/\(F.map (·.name)).Nodup/\0<=n/\n<=10^60/\k<=4/\
 ∀(I:Isl)(a b:Addr)j,SameM M j->M a=we->M b=we->a≠b->j a=wc (.lst (I.prs.map prV))->j b=wc (.lst (I.stps.map Stp.mv))->I.name=Yp l k->(∀w,1<=w->IslOk w (F.map (·.name)) I)->(∀s∈I.stps,ZN F I.name s)->Q (.tup [.str I.name,.ref a,.ref b]) j
def _5O:MonW Cr:=by walk_at "m"
def _9a(T:Txt E):FO E 3 "_law_island" Cr:=by
 erw[T.bI.ok T.g _5O 5 ["number","k","naming","ferries","around","name","names","pairs","many","ending","steps","j"] (fC T (fc (OU T) (fc (_bm T) f0))) Nd (fun vs M Q h=>?_)];have⟨n,t,Z,k,f,F,rfl,hf,h6,nd,n0,n1,hk,q⟩:=h;erw[⟨rfl,?_⟩];show wSs _ _ _ [wc (.int n),wc (.int k),wc (.int t),wc (.ref f),wc (.int Z),we,we,we,we,we,we,we] M;delta Nd;simp!;erw[⟨t,k,rfl,by lia,by lia,?_⟩]
 obtain⟨z,hz⟩:∃z,Yp t k=z:=⟨_,rfl⟩;rw[hz]at q ⊢;delta Nc;simp!;erw[⟨t,9,rfl,by lia,by lia,?_⟩]
 erw[⟨t,10,rfl,by lia,by lia,?_⟩]
 simp!;intro R hpn;obtain⟨x,hx⟩:∃x,Yp t 9=x:=⟨_,rfl⟩;obtain⟨y,hy⟩:∃y,Yp t 10=y:=⟨_,rfl⟩;have gx:GoodN x:=hx▸Ff (by decide) (by decide)
 have gy:GoodN y:=hy▸Ff (by decide) (by decide)
 have xy:x≠y:=λe=>by
  have:=OW (n:=t) (k:=9) (j:=10) (by decide) (by decide) (by decide) (by decide) (by rw[hx,hy];erw[e])
  lia
 rw[hx,hy];have b:=SameM.new hpn (.lst [.str x,.str y]);have a1:updM M R (.lst [.str x,.str y]) R=wc (.lst [.str x,.str y]):=Xa;generalize updM M R _=M1 at*;delta Nb
 simp![a1]
 intro U C;have s2:=SameM.new C (.lst [.tup [.str x,.int (n%2)],.tup [.str y,.int (n/2%2)]]);have b2:updM M1 U (.lst [.tup [.str x,.int (n%2)],.tup [.str y,.int (n/2%2)]]) U=wc (.lst ([(x,n%2),(y,n/2%2)].map prV)):=Xa;generalize updM M1 U _=M2 at*;have a2:=s2 _ _ a1;have fpp:=b.free C;delta Na;simp!;obtain⟨m,hm,hm7⟩:∃m:Nat,n/4%7=(m:Int)/\m<7:=⟨(n/4%7).toNat,by lia,by lia⟩
 rw[hm];delta N9;simp!;obtain⟨g,hen,hen2⟩:∃g:Nat,(if n/28%4<Z then(1:Int)else 0)=(g:Int)/\g<=1:=by
  by_cases c:n/28%4<Z
  .erw[⟨1,by rw[if_pos c];rfl,by decide⟩]
  .erw[⟨0,by rw[if_neg c];rfl,by decide⟩]
 rw[hen];delta N8;simp!;delta N7;simp!;intro d L;have s3:=SameM.new L (.lst []);have c3:updM M2 d (.lst []) d=wc (.lst []):=Xa;have fps:=(b.trans s2).free L;have pps:=neM b2 L;have G:∀a o,M2 a=wc o->a≠d:=λa o h=>neM h L;generalize updM M2 d _=M3 at*;delta N6;simp!;obtain⟨J,hJ⟩:∃J:Nat->Sm->MH->Prop,∀j σ N,J j σ N↔∃(O:Int) (l:List Stp) (v:Option MV),σ=[wc (.int O),wc (.int k),wc (.int t),wc (.ref f),wc (.int Z),wc (.str z),wc (.ref R),wc (.ref U),wc (.int m),wc (.int g),wc (.ref d),v]/\0<=O/\l.length=j/\SameM M2 N/\N d=wc (.lst (l.map Stp.mv))/\(∀S∈l,ZM (F.map (·.name)) [x,y] (m+g) S/\ZN F z S):=⟨_,λ_ _ _=>Yl⟩;erw[⟨by lia,by lia,J,(hJ _ _ _).mpr (ex3 (n/112) [] _ ⟨rfl,by lia,rfl,s3,c3,λS r=>nomatch r⟩),λ_ _ _ _=>trivial,?_,?_⟩]
 .rintro j u σ N P h;have⟨O,l,v,rfl,p0,hl,A,I,r⟩:=(hJ _ _ _).mp h;have⟨hj,rfl⟩:=Ae P
  suffices key:∀D:EndM,D.nx=J (j+1)->wSs ([("_law_name",Wa),("_law_step",Cq)]:List (Str×SpM)) EA D [wc (.int O),wc (.int k),wc (.int t),wc (.ref f),wc (.int Z),wc (.str z),wc (.ref R),wc (.ref U),wc (.int m),wc (.int g),wc (.ref d),wc (.int (0+(j:Nat)))] N from key _ rfl
  intro D hD;delta EA
  simp![I]
  erw[⟨⟨_,rfl⟩,O%100000000,z,R,f,x,y,F,m+g,rfl,A _ _ a2,A _ _ (s2 _ _ (b _ _ hf)),h6,by lia,by lia,by lia,nd,λS B X hS1 hS2=>?_⟩]
  have c5:=X _ _ I
  simp![c5,X7]
  erw[⟨by lia,?_⟩]
  delta N5;simp!;rw[hD];erw[(hJ _ _ _).mpr (ex3 (O/100000000) (l++[S]) _ ⟨rfl,by lia,by simp[hl],λa o h=>by rw[X9 (G a o h)];erw[X _ _ (A _ _ h)],by rw[Xa,XX];rfl,λS' W=>?_⟩)]
  rcases Ya.mp W with Y|Y
  .erw[r _ Y]
  .rw[Y9.mp Y];erw[⟨hS1,hS2⟩]
 .rintro σ N h;have⟨O,l,v,rfl,p0,hl,A,I,r⟩:=(hJ _ _ _).mp h;have hl:l.length=m:=hl;have H:∀(B:MH)(l:List Stp)(v:Option MV),SameM M2 B->B d=wc (.lst (l.map Stp.mv))->l.length=m+g->(∀S∈l,ZM (F.map (·.name)) [x,y] (m+g) S/\ZN F z S)->wSs ([("_law_name",Wa),("_law_step",Cq)]:List (Str×SpM)) Ez {nx:=fun x N=>Q MV.non N,rt:=Q} [wc (.int O),wc (.int k),wc (.int t),wc (.ref f),wc (.int Z),wc (.str z),wc (.ref R),wc (.ref U),wc (.int m),wc (.int g),wc (.ref d),v] B:=by
   intro B l v X c5 hl5 i;delta Ez;simp!;erw[q ⟨z,[(x,n%2),(y,n/2%2)],l⟩ U d B ((b.trans s2).trans X) fpp fps pps (X _ _ b2) c5 rfl (λw hw=>?_) (λS r=>(i S r).2)];erw[⟨by simp,?_,?_,?_,?_,?_⟩]
   .show l.length<=12;lia
   .show [x,y].Nodup;simp[xy]
   .intro u P;have P:u∈ [x,y]:=P;simp only[Xh,XM,or_false]at P;rcases P with rfl|rfl
    .erw[gx]
    .erw[gy]
   .intro p hp;have:=NN hw;have hp:p∈ [(x,n%2),(y,n/2%2)]:=hp;simp only[Xh,XM,or_false]at hp;rcases hp with rfl|rfl
    .erw[⟨by show 0<=n%2;lia,by show n%2<_;lia⟩]
    .erw[⟨by show 0<=n/2%2;lia,by show n/2%2<_;lia⟩]
   .intro S r;show ZM _ [x,y] l.length S;rw[hl5];erw[(i S r).1]
  delta N4;simp!;erw[XU (λc=>?_) (λc=>?_)]
  .delta N3
   simp![I,X7]
   have e1:g=1:=by lia
   erw[⟨⟨_,rfl⟩,by lia,H _ (l++[.jump (.num 1) 0]) _ (λa o h=>by rw[X9 (G a o h)];erw[A _ _ h]) (by rw[Xa,XX];rfl) (by simp;lia) λS' W=>?_⟩]
   rcases Ya.mp W with Y|Y
   .erw[r _ Y]
   .rw[Y9.mp Y];erw[⟨⟨⟨by simp[Tm.depth],by simp[Tm.size],λu P=>by simp[Tm.reads]at P⟩,by lia,by lia⟩,trivial⟩]
  .erw[H N l _ A I (by lia) r]
structure IslsNew (M0 M:MH)(Is:List Isl)(ys:List MV):Prop where
 len:ys.length=Is.length
 at_:∀(i:Nat)(I:Isl)(y:MV),Is[i]?=wc I->ys[i]?=wc y->∃a b,y=.tup [.str I.name,.ref a,.ref b]/\M0 a=we/\M0 b=we/\M a=wc (.lst (I.prs.map prV))/\M b=wc (.lst (I.stps.map Stp.mv))
def IslsNew.inn{M0 M:MH}{Is:List Isl}{j:List MV}(h:IslsNew M0 M Is j):IslsIn M Is j:=⟨h.len,λi I y a b=>by
 have⟨c,d,e,_,_,l,t⟩:=h.at_ i I y a b;erw[⟨c,d,e,l,t⟩]⟩
def IslsNew.keep{M0 M M':MH}{Is:List Isl}{j:List MV}(h:IslsNew M0 M Is j)(s:∀a o,M a=wc o->M0 a=we->M' a=wc o):IslsNew M0 M' Is j:=⟨h.len,λi I y a b=>by
 have⟨c,d,e,l,t,u,w⟩:=h.at_ i I y a b;erw[⟨c,d,e,l,t,s _ _ u l,s _ _ w t⟩]⟩
set_option tactic.hygienic true in
def P1{l:Type}{v y:l}{j:List l}{i:Nat}(h:(j++[v])[i]?=wc y):j[i]?=wc y\/(i=j.length/\y=v):=by
 rw[List.getElem?_append]at h;split at h
 .erw[.inl h]
 .rename_i e
  obtain⟨d,hd⟩:∃d,i - j.length=d:=⟨_,rfl⟩;rw[hd]at h;cases d with
  |zero=>simp at h;erw[.inr ⟨by lia,h.symm⟩]
  |succ d=>simp at h
def IslsNew.add{u M:MH}{Is:List Isl}{w:List MV}(h:IslsNew u M Is w){I:Isl}{a b:Addr}(z:u a=we)(m:u b=we)(g:M a=wc (.lst (I.prs.map prV)))(d:M b=wc (.lst (I.stps.map Stp.mv))):IslsNew u M (Is++[I]) (w++[.tup [.str I.name,.ref a,.ref b]]):=by
 erw[⟨by simp[h.len],λi J y c f=>?_⟩]
 have l:=h.len;rcases P1 c with j|⟨r,rfl⟩<;>rcases P1 f with t|⟨p,rfl⟩
 .erw[h.at_ i J y j t]
 .have:=(XF.mp j).1;lia
 .have:=(XF.mp t).1;lia
 .erw[⟨a,b,rfl,z,m,g,d⟩]
def modN(a:Int){b:Nat}(h:0<b):∃g:Nat,a%(b:Int)=(g:Int)/\g<b:=
 have p:(0:Int)<b:=Int.natCast_pos.mpr h;have q:=Zu a (Int.ne_of_gt p)
 ⟨(a%(b:Int)).toNat,(UY q).symm,(Int.toNat_lt q).mpr (ZE a p)⟩
def Cs{n:Int}{a b:Nat}(j:a<=10)(l:b<=10)(h:Yp n (a:Int)=Yp n (b:Int)):a=b:=Int.ofNat.inj (OW (U3 _) (WB.mpr j) (U3 _) (WB.mpr l) h)
def P2{n:Int}{a:Nat}(j:a<=10):GoodN (Yp n (a:Int)):=Ff (U3 _) (WB.mpr j)
def two_of{b:Nat}(h:b<2):b=0\/b=1:=by lia
def _mY{g r j:Nat}(g1:g<j)(r1:r<j - 1)(l:j<=5):((g:Int)+1+(r:Int))%(j:Int)≠(g:Int):=λe=>by
 rcases(show j=2\/j=3\/j=4\/j=5 by lia)with rfl|rfl|rfl|rfl<;>lia
def fnm(nm:Int)(i:Nat):Str:=Yp nm (5+(i:Int))
def inm(nm:Int)(i:Nat):Str:=Yp nm (i:Int)
def P3{f:Nat->Str}{n:Nat}(h:∀a b,a<n->b<n->f a=f b->a=b):((Xr n).map f).Nodup:=by
 unfold List.Nodup;rw[List.pairwise_map];erw[List.Pairwise.imp_of_mem (λj l t e=>t (h _ _ (Zf.mp j) (Zf.mp l) e)) List.nodup_range]
abbrev Ct:SpM:=λw M Q=>∃(y:List Int) (z:Int),w=[.frl (y.map .int),.int z]/\
 ∀(W:Wld)(l t:Addr)(u:List MV)j,SameM M j->W.Good->1<=W.isl.length->M l=we->M t=we->l≠t->j l=wc (.lst u)->IslsIn j W.isl u->j t=wc (.lst (W.fer.map Fer.mv))->Q (.tup [.int W.w,.ref l,.ref t]) j
def P4:MonW Ct:=by walk_at "m"
def _99(T:Txt E):FO E 4 "_law_things" Ct:=by
 erw[T.bp.ok T.g P4 2 ["script","around","head","naming","width","many","ferries","k","number","giver","taker","ends","islands"] (fC T (fc (_8g T) (fc (_9a T) (fc (OU T) f0)))) Nr (fun vs M Q h=>?_)];have⟨N,ar,rfl,q⟩:=h;erw[⟨rfl,?_⟩];show wSs _ _ _ [wc (.frl (N.map .int)),wc (.int ar),we,we,we,we,we,we,we,we,we,we,we] M;delta Nr;simp!;erw[⟨N,0,rfl,?_⟩];simp!;delta Nq;simp!;erw[⟨N,1,rfl,?_⟩];simp!;obtain⟨hd,hhd,hd0⟩:∃hd:Int,N.getD 0 0%1000000000=hd/\0<=hd:=⟨_,rfl,by lia⟩
 obtain⟨t,hnm⟩:∃t:Int,N.getD 1 0%1000000000=t:=⟨_,rfl⟩;rw[hhd,hnm];delta Np;simp!;intro p0 hp0;obtain⟨w,hw,w1,w2⟩:∃w:Nat,atI [MV.int (1+hd/16%64),MV.int (1+hd/16%5)] (hd/1024%2)=wc (.int w)/\1<=w/\w<=64:=by
  obtain⟨x,ex,U⟩:∃x:Nat,hd/16%64=(x:Int)/\x<64:=modN _ (b:=64) (by decide)
  obtain⟨y,ey,hy⟩:∃x:Nat,hd/16%5=(x:Int)/\x<5:=modN _ (b:=5) (by decide)
  obtain⟨b,eb,hb⟩:∃x:Nat,hd/1024%2=(x:Int)/\x<2:=modN _ (b:=2) (by decide)
  rw[ex,ey,eb];rcases two_of hb with rfl|rfl
  .erw[⟨1+x,at0,UT ..,UV ..▸U⟩]
  .erw[⟨1+y,at1,UT ..,XA (UV ..▸hy:1+y<=5) (by decide)⟩]
 erw[⟨_,hw,?_⟩];have s0:=SameM.new hp0 (.lst [MV.int (1+hd/16%64),MV.int (1+hd/16%5)]);generalize updM M p0 _=M0 at*;obtain⟨l,hmy,my1,C⟩:∃l:Nat,1+hd%5=(l:Int)/\1<=l/\l<=5:=by
  obtain⟨x,ex,U⟩:∃x:Nat,hd%5=(x:Int)/\x<5:=modN _ (b:=5) (by decide)
  erw[⟨1+x,by rw[ex];rfl,UT ..,UV ..▸U⟩]
 delta No;simp!;rw[hmy];delta Nn;simp!;intro W hpf;have s1:=SameM.new hpf (.lst []);have f1:updM M0 W (.lst []) W=wc (.lst []):=Xa;have fpf:=s0.free hpf;have old:∀a o,M0 a=wc o->a≠W:=λa o h=>neM h hpf;generalize updM M0 W _=M1 at*;delta Nm;simp!;obtain⟨cn,hcn,cn6,cn1⟩:∃cn:Nat,(if hd/2048%7<6*(l:Int) - 6 then hd/2048%7 else 6*(l:Int) - 6)=(cn:Int)/\cn<=6/\(1<=cn->2<=l):=by
  obtain⟨x,ex,U⟩:∃x:Nat,hd/2048%7=(x:Int)/\x<7:=modN _ (b:=7) (by decide)
  rw[ex];by_cases c:(x:Int)<6*(l:Int) - 6
  .erw[⟨x,if_pos c,D6 U,by lia⟩]
  .erw[⟨6*l - 6,by rw[if_neg c];lia,by lia,by lia⟩]
 rw[hcn,Z2];obtain⟨J,Z⟩:∃J:Nat->Sm->MH->Prop,∀j G Y,J j G Y↔∃(f:List Fer) (v7 v8 v9 O P:Option MV),G=[wc (.frl (N.map .int)),wc (.int ar),wc (.int hd),wc (.int t),wc (.int w),wc (.int l),wc (.ref W),v7,v8,v9,O,P,we]/\f.map (·.name)=(Xr j).map (fnm t)/\SameM M0 Y/\Y W=wc (.lst (f.map Fer.mv))/\(∀F∈f,FerOk ((Xr l).map (inm t)) F):=⟨_,λ_ _ _=>Yl⟩;erw[⟨by lia,by lia,J,(Z _ _ _).mpr (ex6 [] _ _ _ _ _ ⟨rfl,rfl,s1,f1,λF hF=>nomatch hF⟩),λ_ _ _ _=>trivial,?_,?_⟩]
 .rintro j u G Y hu h;erw[ee6 ((Z _ _ _).mp h) λf v7 v8 v9 O P h=>?_];have⟨rfl,S,s2,f2,hF⟩:=h;have⟨hj,rfl⟩:=Ae hu;have my2:=cn1 (by lia)
  have hl:f.length=j:=by have:=congrArg Wp S;simpa using this
  rw[Wz]
  suffices key:∀D:EndM,D.nx=J (j+1)->wSs ([("_law_cell_at",Cn),("_law_island",Cr),("_law_name",Wa)]:List (Str×SpM)) EC D [wc (.frl (N.map .int)),wc (.int ar),wc (.int hd),wc (.int t),wc (.int w),wc (.int l),wc (.ref W),wc (.int j),v8,v9,O,P,we] Y from key _ rfl
  intro D hD;delta EC;obtain⟨c,hc⟩:∃c:Nat,2+(j:Int)%4=(c:Int):=⟨2+j%4,rfl⟩
  simp![hc]
  erw[⟨N,c,rfl,?_⟩];simp!;intro p1 hp1;obtain⟨dv,hdv,dv0⟩:∃dv:Int,atI [MV.int 1,MV.int 1000000] ((j:Int)/4)=wc (.int dv)/\(dv=1\/dv=1000000):=by
   have e:(j:Int)/4=((j/4:Nat):Int):=rfl;rw[e];rcases two_of (show j/4<2 by lia)with e|e<;>rw[e]
   .erw[⟨1,at0,.inl rfl⟩]
   .erw[⟨1000000,at1,.inr rfl⟩]
  erw[⟨_,hdv,?_⟩];have s3:=s2.trans (SameM.new hp1 (.lst [MV.int 1,MV.int 1000000]));have f3:=SameM.new hp1 (.lst [MV.int 1,MV.int 1000000]) _ _ f2;generalize updM Y p1 _=M3 at*;simp!;obtain⟨L,hnb,nb0⟩:∃L:Int,N.getD c 0%1000000000000000/dv=L/\0<=L:=by
   erw[⟨_,rfl,?_⟩];rcases dv0 with rfl|rfl<;>lia
  rw[hnb];erw[⟨by rcases dv0 with rfl|rfl<;>decide,?_⟩]
  delta Nl;simp!;have gp:(0:Int)<(l:Int):=Int.natCast_pos.mpr my1;erw[⟨gp,?_⟩];have⟨g,hg,hg2⟩:=modN L (b:=l) my1;rw[hg];delta Nk;simp!;have gp1:(0:Int)<(l:Int) - 1:=by lia
  erw[⟨gp1,gp,?_⟩];obtain⟨A,ht,ht2,ht3⟩:∃A:Nat,((g:Int)+1+L/5%((l:Int) - 1))%(l:Int)=(A:Int)/\A<l/\A≠g:=by
   obtain⟨r,hr,r1⟩:∃r:Nat,L/5%((l:Int) - 1)=(r:Int)/\r<l - 1:=by
    have:=modN (L/5) (b:=l - 1) (by lia)
    rwa [show((l - 1:Nat):Int)=(l:Int) - 1 by lia]at this
   rw[hr];have⟨A,h0,h1⟩:=modN ((g:Int)+1+(r:Int)) (b:=l) my1;erw[⟨A,h0,h1,λe=>_mY hg2 r1 C (by rw[h0,e])⟩]
  rw[ht];delta Nj;simp!;have g5:g<=10:=XA (UU hg2) (XA C (by decide))
  have t5:A<=10:=XA (UU ht2) (XA C (by decide))
  have j5:5+j<=10:=by lia
  have d:∀{x:Nat},x<=10->(0:Int)<=(x:Int)/\(x:Int)<=50:=λh=>⟨U3 _,WB.mpr (XA h (by decide))⟩
  erw[⟨t,g,rfl,(d g5).1,(d g5).2,?_⟩];erw[⟨t,A,rfl,(d t5).1,(d t5).2,?_⟩]
  try walk_at "s"
  delta Ni
  simp![f3]
  erw[⟨⟨_,rfl⟩,t,5+(j:Int),rfl,(d j5).1,(d j5).2,?_⟩];obtain⟨kk,hkk,kk3⟩:∃kk:Nat,L/20%4=(kk:Int)/\kk<=3:=let⟨k,e,h⟩:=modN (L/20) (b:=4) (by decide);⟨k,e,D6 h⟩
  obtain⟨st,hst,st1,st3⟩:∃st:Nat,1+L/80%3=(st:Int)/\1<=st/\st<=3:=by
   obtain⟨x,ex,U⟩:∃x:Nat,L/80%3=(x:Int)/\x<3:=modN _ (b:=3) (by decide)
   erw[⟨1+x,by rw[ex];rfl,UT ..,UV ..▸U⟩]
  simp![f3,hkk,hst,X7]
  rw[hD];erw[⟨by lia,(Z _ _ _).mpr (ex6 (f++[⟨fnm t j,inm t g,inm t A,kk,st⟩]) _ _ _ _ _ ⟨rfl,?_,λa o h=>by rw[X9 (old a o h)];erw[s3 _ _ h],by rw[Xa,XX];rfl,λF hF'=>?_⟩)⟩]
  .rw[XX,S,AI,XX];rfl
  .rcases Ya.mp hF' with h'|h'
   .erw[hF _ h']
   .rw[Y9.mp h'];erw[⟨XR.mpr ⟨g,Zf.mpr hg2,rfl⟩,XR.mpr ⟨A,Zf.mpr ht2,rfl⟩,λe=>?_,kk3,st1,st3⟩];erw[ht3 (Cs t5 g5 e.symm)]
 .rintro G M2 h;erw[ee6 ((Z _ _ _).mp h) λf v7 v8 v9 O P h=>?_];have⟨rfl,S,s2,f2,hF⟩:=h;have S:f.map (·.name)=(Xr cn).map (fnm t):=S;have hl:f.length=cn:=by have:=congrArg Wp S;simpa using this
  have ndF:(f.map (·.name)).Nodup:=by
   rw[S];erw[P3 λa b ha hb e=>?_];erw[Nat.add_left_cancel (Cs (n:=t) (a:=5+a) (b:=5+b) (by lia) (by lia) e)]
  clear Z h;delta Nh;simp!;intro R X;have s3:=SameM.new X (.lst []);have i3:updM M2 R (.lst []) R=wc (.lst []):=Xa;have fpi:=(s0.trans s2).free X;have ipf:=(neM f2 X).symm;have old2:∀a o,M2 a=wc o->a≠R:=λa o h=>neM h X;have only:∀a o,updM M2 R (.lst []) a=wc o->a≠R->M2 a=wc o:=λa o h n=>by rw[X9 n]at h;erw[h]
  generalize updM M2 R _=M3 at*;delta Ng;simp!;obtain⟨J,Z⟩:∃J:Nat->Sm->MH->Prop,∀j G Y,J j G Y↔∃(p:List Isl) (ys:List MV) (v7:Option MV),G=[wc (.frl (N.map .int)),wc (.int ar),wc (.int hd),wc (.int t),wc (.int w),wc (.int l),wc (.ref W),v7,v8,v9,O,P,wc (.ref R)]/\p.map (·.name)=(Xr j).map (inm t)/\SameM M2 Y/\Y R=wc (.lst ys)/\IslsNew M3 Y p ys/\(∀I∈p,IslOk w (f.map (·.name)) I/\∀s∈I.stps,ZN f I.name s):=⟨_,λ_ _ _=>Yl⟩;erw[⟨by lia,by lia,J,(Z _ _ _).mpr (ex3 [] [] _ ⟨rfl,rfl,s3,i3,⟨rfl,λi I y hI=>by simp at hI⟩,λI hI=>nomatch hI⟩),λ_ _ _ _=>trivial,?_,?_⟩]
  .rintro j u G M4 hu h;erw[ee3 ((Z _ _ _).mp h) λp ys v7 h=>?_];have⟨rfl,m,s4,i4,hI,hO⟩:=h;have⟨hj,rfl⟩:=Ae hu;have hlI:p.length=j:=by have:=congrArg Wp m;simpa using this
   have hly:=hI.len;rw[Wz]
   suffices key:∀D:EndM,D.nx=J (j+1)->wSs ([("_law_cell_at",Cn),("_law_island",Cr),("_law_name",Wa)]:List (Str×SpM)) EB D [wc (.frl (N.map .int)),wc (.int ar),wc (.int hd),wc (.int t),wc (.int w),wc (.int l),wc (.ref W),wc (.int j),v8,v9,O,P,wc (.ref R)] M4 from key _ rfl
   intro D hD;delta EB;obtain⟨c,hc⟩:∃c:Nat,6+(j:Int)=(c:Int):=⟨6+j,rfl⟩
   simp![i4,hc]
   erw[⟨⟨_,rfl⟩,N,c,rfl,?_⟩];simp!;erw[ex6 (N.getD c 0%1000000000000000000000000000000000000000000000000000000000000) t ar j W f ⟨rfl,s4 _ _ f2,by lia,ndF,by lia,by lia,by lia,λI a b M5 s5 na L nab ha hb hn hok hen=>?_⟩]
   have i5:=s5 _ _ i4
   simp![i5]
   have bk:∀x,M4 x=we->M3 x=we:=λx U=>by
    cases e:M3 x with
    |none=>rfl
    |some v=>
     by_cases hx2:x=R
     .subst hx2;rw[i4]at U;cases U
     .rw[s4 _ _ (only _ _ e hx2)]at U;cases U
   rw[hD];erw[⟨by lia,(Z _ _ _).mpr (ex3 (p++[I]) (ys++[.tup [.str I.name,.ref a,.ref b]]) _ ⟨rfl,?_,λa o h=>by rw[X9 (old2 a o h)];erw[s5 _ _ (s4 _ _ h)],Xa,?_,?_⟩)⟩]
   .rw[XX,m,AI,XX];show _++[I.name]=_;rw[hn];rfl
   .have h3:∀x o,M5 x=wc o->M3 x=we->updM M5 R (.lst (ys++[.tup [.str I.name,.ref a,.ref b]])) x=wc o:=λx o h n=>by
     rw[X9 (λe=>by subst e;rw[i3]at n;cases n)];erw[h]
    have hI5:=hI.keep (M':=updM M5 R (.lst (ys++[.tup [.str I.name,.ref a,.ref b]]))) λx o h n=>h3 x o (s5 _ _ h) n;erw[hI5.add (bk _ na) (bk _ L) (h3 _ _ ha (bk _ na)) (h3 _ _ hb (bk _ L))]
   .intro I' hI';rcases Ya.mp hI' with h'|h'
    .erw[hO _ h']
    .rw[Y9.mp h'];erw[⟨hok w w1,hen⟩]
  .rintro G M4 h;erw[ee3 ((Z _ _ _).mp h) λp ys v7 h=>?_];have⟨rfl,m,s4,i4,hI,hO⟩:=h;have m:p.map (·.name)=(Xr l).map (inm t):=m;have hlI:p.length=l:=by have:=congrArg Wp m;simpa using this
   have H:∀{x},x<l->x<=10:=λh=>XA (UU h) (XA C (by decide))
   delta Nf;simp!;erw[q ⟨w,p,f⟩ R W ys M4 ((s0.trans s2).trans s4) ?_ (by show 1<=p.length;lia) fpi fpf ipf i4 hI.inn (s4 _ _ f2)]
   erw[⟨w1,w2,by show p.length<=5;lia,by show f.length<=6;lia,?_,?_,?_,λI B=>(hO I B).1,?_,λI B=>(hO I B).2⟩]
   .intro z hz;have hz:z∈f.map (·.name):=hz;rw[S]at hz;have⟨i,B,rfl⟩:=XR.mp hz;have:=Zf.mp B;erw[P2 (a:=5+i) (by lia)]
   .intro z hz;have hz:z∈p.map (·.name):=hz;rw[m]at hz;have⟨i,B,rfl⟩:=XR.mp hz;have:=Zf.mp B;erw[P2 (H this)]
   .show(f.map (·.name)++p.map (·.name)).Nodup;rw[YO];erw[⟨ndF,?_,?_⟩]
    .rw[m];erw[P3 λa b ha hb e=>?_];erw[Cs (n:=t) (H ha) (H hb) e]
    .rw[S,m];intro a ha b hb e;have⟨i,B,rfl⟩:=XR.mp ha;have⟨j,hj,rfl⟩:=XR.mp hb;have B:=Zf.mp B;have hj:=Zf.mp hj;have:=Cs (n:=t) (a:=5+i) (b:=j) (by lia) (H hj) e
     lia
   .intro F hF';show FerOk (p.map (·.name)) F;rw[m];erw[hF F hF']
def zipK:List Str->List MV->List (Key×MV)
 |k::ks,v::vs=>(Xo k,v)::zipK ks vs
 |_,_=>[]
theorem Cu:∀{j:List Str} {l:List MV},l.length=j.length->(zipK j l).length=j.length
 |[],[],_=>rfl
 |[],_::_,h=>by cases h
 |_::_,[],h=>by cases h
 |k::j,v::l,h=>by
  show(zipK j l).length+1=_;rw[Cu (by simpa using h)];rfl
theorem P5:∀{j:List Str} {l:List MV},l.length=j.length->(zipK j l).map (·.1)=j.map Xo
 |[],[],_=>rfl
 |[],_::_,h=>by cases h
 |_::_,[],h=>by cases h
 |k::j,v::l,h=>by
  show Xo k::(zipK j l).map (·.1)=_;rw[P5 (by simpa using h)];rfl
theorem UG:∀{j:List Str} {l:List MV} {i:Nat} {k:Str} {v:MV},j.Nodup->j[i]?=wc k->l[i]?=wc v->valM (zipK j l) (Xo k)=wc v
 |[],_,_,_,_,_,h,_=>by simp at h
 |_::_,[],_,_,_,_,_,h=>by simp at h
 |a::j,b::l,0,k,v,_,h1,h2=>by
  simp at h1 h2;subst h1 h2;simp[zipK,valM]
 |a::j,b::l,i+1,k,v,nd,h1,h2=>by
  rw[Yi]at nd;simp at h1 h2;have:a≠k:=λe=>nd.1 (e▸Xv h1);simp only[zipK,valM];rw[if_neg (λe=>this (V1 e))];erw[UG nd.2 h1 h2]
theorem Aj:∀{j:List Str} {l:List MV} {i:Nat} {k:Str} {v:MV},l.length=j.length->j.Nodup->j[i]?=wc k->putM (zipK j l) (Xo k) v=zipK j (l.set i v)
 |[],_,_,_,_,_,_,h=>by simp at h
 |_::_,[],_,_,_,h,_,_=>by cases h
 |a::j,b::l,0,k,v,_,_,h1=>by
  simp at h1;subst h1;simp[zipK,putM]
 |a::j,b::l,i+1,k,v,hl,nd,h1=>by
  rw[Yi]at nd;simp at h1;have:a≠k:=λe=>nd.1 (e▸Xv h1);simp only[zipK,putM,List.set_cons_succ];rw[if_neg (λe=>this (V1 e)),Aj (by simpa using hl) nd.2 h1]
def P6{l:Type} [DecidableEq l] {j:List (l×MV)}{k:l}{v:MV}:(∀p∈j,p.1≠k)->putM j k v=j++[(k,v)]:=by
 induction j with
 |nil=>intro _;rfl
 |cons p r t=>
  intro h;unfold putM;rw[if_neg (h p (XZ ..)),t λq u=>h q (XD _ u)];rfl
def _f5{j:List (Key×MV)}(l:(j.map (·.1)).Nodup):Ua j=j:=by
 have t:∀(j c:List (Key×MV)),((c++j).map (·.1)).Nodup->j.foldl (λc z=>putM c z.1 z.2) c=c++j:=by
  intro j
  induction j with
  |nil=>intro c _;simp
  |cons p r u=>
   intro c l;rw[Vp,P6,u]
   .simp
   .simpa using l
   .intro q w e;rw[XX,YO]at l;erw[l.2.2 _ (XR.mpr ⟨q,w,rfl⟩) _ (XR.mpr ⟨p,XZ ..,rfl⟩) e]
 have:=t j [] (by simpa using l)
 rw[Yj]at this;erw[this]
def P7{j:List Str}{l:List MV}(t:l.length=j.length)(u:j.Nodup):Ua (zipK j l)=zipK j l:=by
 erw[_f5 ?_];rw[P5 t];unfold List.Nodup;rw[List.pairwise_map];erw[List.Pairwise.imp (λh e=>h (V1 e)) u]
def WdOk(w:Nat)(I:Isl)(j:List (Key×MV)):Prop:=∃l:List Int,l.length=I.vars.length/\j=zipK I.vars (l.map MV.int)/\∀v∈l,0<=v/\v<2^w
def rhoK(j:List (Key×MV))(x:Str):Int:=match valM j (Xo x)with
 |wc (.int i)=>i
 |_=>0
def WdOk.at{k:Nat}{I:Isl}{j:List (Key×MV)}(h:WdOk k I j)(u:I.vars.Nodup){x:Str}(w:x∈I.vars):valM j (Xo x)=wc (.int (rhoK j x))/\0<=rhoK j x/\rhoK j x<2^k:=by
 have⟨l,g,rfl,y⟩:=h;have⟨i,z,rfl⟩:=YB w;have t:i<l.length:=by lia
 have e:valM (zipK I.vars (l.map MV.int)) (Xo I.vars[i])=wc (.int l[i]):=UG (i:=i) u (Xb z) (by rw[Xl,Xb t];rfl)
 have m:rhoK (zipK I.vars (l.map MV.int)) I.vars[i]=l[i]:=by unfold rhoK;rw[e]
 rw[m];erw[⟨e,y _ (XW t)⟩]
def WdOk.reads{k:Nat}{I:Isl}{j:List (Key×MV)}(h:WdOk k I j)(l:I.vars.Nodup):readsOk I.vars j (rhoK j) k:=λ_ t=>h.at l t
def WdOk.len{k:Nat}{I:Isl}{j:List (Key×MV)}(h:WdOk k I j):j.length=I.vars.length:=by
 have⟨t,l,rfl,u⟩:=h;erw[Cu (by rw[X7];erw[l])]
def WdOk.put{k:Nat}{I:Isl}{j:List (Key×MV)}(h:WdOk k I j)(w:I.vars.Nodup){x:Str}(y:x∈I.vars){v:Int}(z:0<=v/\v<2^k):WdOk k I (putM j (Xo x) (.int v)):=by
 have⟨m,t,rfl,g⟩:=h;have⟨i,d,rfl⟩:=YB y;erw[⟨m.set i v,by rw[Uo];erw[t],?_,λu l=>?_⟩]
 .rw[Aj (i:=i) (by rw[X7];erw[t]) w (Xb d),Wo]
 .rcases CF l with l|rfl
  .erw[g u l]
  .erw[z]
structure Boat where
 b:Addr
 p:Addr
 g:Addr
 u:Addr
 gl:Addr
 tl:Addr
 A:Ab
noncomputable def Boat.ads(x:Boat):List Addr:=[x.b,x.p,x.g,x.u,x.gl,x.tl]
structure BoatAt (M:MH)(f:Fer)(w:Nat)(m:Int)(x:Boat):Prop where
 fy:FyAt M x.b x.p x.g x.u x.A
 gv:M x.gl=wc (.lst (x.A.ws.map natM))
 tk:M x.tl=wc (.lst ((x.A.ws.take x.A.tn).map natM))
 n1:x.gl≠x.tl/\x.gl≠x.p/\x.tl≠x.p
 k:x.A.k=f.k
 gm:x.A.gm<m
 tm:x.A.tm<m
 wd:∀z∈x.A.ws,z<2^w
def BoatAt.at_{M:MH}{f:Fer}{w:Nat}{m:Int}{x:Boat}(h:BoatAt M f w m x):∀a∈x.ads,∃o,M a=wc o/\(∀j,o≠.dic j)/\∀fs,o≠.ins "Run" fs:=by
 have u:¬(("Ferry":Str)="Run"):=by rw[_j];decide
 have l:¬(("Side":Str)="Run"):=by rw[_j];decide
 have⟨g,y,_⟩:=h.fy.pls;intro a t;simp only[Boat.ads,Xh,XM,or_false]at t;rcases t with rfl|rfl|rfl|rfl|rfl|rfl
 .erw[⟨_,h.fy.fe,(λ_ z=>by cases z),(λfs z=>u (by injection z))⟩]
 .erw[⟨_,y,(λ_ z=>by cases z),(λfs z=>by cases z)⟩]
 .erw[⟨_,h.fy.gi,(λ_ z=>by cases z),(λfs z=>l (by injection z))⟩]
 .erw[⟨_,h.fy.ta,(λ_ z=>by cases z),(λfs z=>l (by injection z))⟩]
 .erw[⟨_,h.gv,(λ_ z=>by cases z),(λfs z=>by cases z)⟩]
 .erw[⟨_,h.tk,(λ_ z=>by cases z),(λfs z=>by cases z)⟩]
theorem BoatAt.dic{M:MH}{f:Fer}{w:Nat}{m:Int}{x:Boat}(h:BoatAt M f w m x){a:Addr}{j:List (Key×MV)}(l:M a=wc (.dic j)):a∉x.ads:=λz=>by
 have⟨o,e,n,_⟩:=h.at_ a z;rw[l]at e;cases e;erw[n _ rfl]
def BoatAt.run{M:MH}{f:Fer}{w:Nat}{m:Int}{x:Boat}(h:BoatAt M f w m x){a:Addr}{fs:List (Str×MV)}(j:M a=wc (.ins "Run" fs)):a∉x.ads:=fun z=>by
 have⟨o,e,_,n⟩:=h.at_ a z;rw[j]at e;cases e;erw[n _ rfl]
def BoatAt.fr{M j:MH}{f:Fer}{w:Nat}{m u:Int}{x:Boat}(h:BoatAt M f w m x)(l:m<=u)(s:∀a∈x.ads,∀o,M a=wc o->j a=wc o):BoatAt j f w u x:=by
 have s:∀a,a∈ [x.b,x.p,x.g,x.u,x.gl,x.tl]->∀o,M a=wc o->j a=wc o:=s;have⟨y,z,t⟩:=h.fy.pls;erw[⟨⟨h.fy.ok,s _ (by simp) _ h.fy.fe,⟨y,s _ (by simp) _ z,t⟩,s _ (by simp) _ h.fy.gi,s _ (by simp) _ h.fy.ta,h.fy.ne⟩,s _ (by simp) _ h.gv,s _ (by simp) _ h.tk,h.n1,h.k,Vz h.gm l,Vz h.tm l,h.wd⟩]
structure RunS where
 m:Int
 nums:List Nat
 ws:List Addr
 dn:List Nat
 bs:List Boat
 pn:Addr
 pw:Addr
 ps:Addr
 pb:Addr
 pg:Addr
 pt:Addr
noncomputable def runO(W:Wld)(R:RunS):MO:=.ins "Run" [("world",W.mv),("moment",.int R.m),("next_numbers",.ref R.pn),("words_now",.ref R.pw),("steps_so_far",.ref R.ps),("boats",.ref R.pb),("given_so_far",.ref R.pg),("taken_so_far",.ref R.pt)]
structure RunAt (M:MH)(W:Wld)(r:Addr)(R:RunS)(mm:Nat->Int):Prop where
 ob:M r=wc (runO W R)
 hn:M R.pn=wc (.dic (zipK W.ins (R.nums.map natM)))
 hw:M R.pw=wc (.dic (zipK W.ins (R.ws.map MV.ref)))
 hs:M R.ps=wc (.dic (zipK W.ins (R.dn.map natM)))
 hb:M R.pb=wc (.dic (zipK W.fns (R.bs.map λx=>MV.ref x.b)))
 hg:M R.pg=wc (.dic (zipK W.fns (R.bs.map λx=>MV.ref x.gl)))
 ht:M R.pt=wc (.dic (zipK W.fns (R.bs.map λx=>MV.ref x.tl)))
 nl:R.nums.length=W.isl.length
 wl:R.ws.length=W.isl.length
 sl:R.dn.length=W.isl.length
 bl:R.bs.length=W.fer.length
 nb:∀(i:Nat)I n,W.isl[i]?=wc I->R.nums[i]?=wc n->n<=I.stps.length
 wa:∀(i:Nat)I a,W.isl[i]?=wc I->R.ws[i]?=wc a->∃kvs,M a=wc (.dic kvs)/\WdOk W.w I kvs
 ba:∀(j:Nat)f x,W.fer[j]?=wc f->R.bs[j]?=wc x->BoatAt M f W.w (mm j) x
 sep:∀(i j:Nat)x y,i≠j->R.bs[i]?=wc x->R.bs[j]?=wc y->∀a∈x.ads,a∉y.ads
 nd:(R.pn::R.pw::R.ps::R.pb::R.pg::R.pt::R.ws).Nodup
def RunS.own(R:RunS)(r:Addr):List Addr:=r::R.pn::R.pw::R.ps::R.bs.flatMap Boat.ads
structure Kept (M M':MH)(r:Addr)(R R':RunS):Prop where
 fr:FrM M M' (R.own r)
 nw:∀a∈R'.own r,a∈R.own r\/M a=we
def Kept.trans{M M1 M2:MH}{r:Addr}{R l R2:RunS}(h:Kept M M1 r R l)(g:Kept M1 M2 r l R2):Kept M M2 r R R2:=by
 erw[⟨λa o j t=>g.fr a o (h.fr a o j t) λz=>?_,λa j=>?_⟩]
 .rcases h.nw a z with z|z
  .erw[t z]
  .rw[j]at z;cases z
 .rcases g.nw a j with z|z
  .erw[h.nw a z]
  .by_cases c:a∈R.own r
   .erw[.inl c]
   .cases e:M a with
    |none=>erw[.inr rfl]
    |some o=>rw[h.fr a o e c]at z;cases z
def Kept.new{M M':MH}{r:Addr}{R:RunS}(s:SameM M M'):Kept M M' r R R:=⟨λa o h _=>s a o h,λ_ h=>.inl h⟩
def RunAt.keep{M M':MH}{W:Wld}{r:Addr}{R:RunS}{l:Nat->Int}(h:RunAt M W r R l)(s:SameM M M'):RunAt M' W r R l:=
 ⟨s _ _ h.ob,s _ _ h.hn,s _ _ h.hw,s _ _ h.hs,s _ _ h.hb,s _ _ h.hg,s _ _ h.ht,h.nl,h.wl,h.sl,h.bl,h.nb,λi I a t u=>by have⟨k,e,o⟩:=h.wa i I a t u;erw[⟨k,s _ _ e,o⟩],λj f x w y=>(h.ba j f x w y).fr (ZF _) λa _ o e=>s a o e,h.sep,h.nd⟩
def Wb{u:Type}{t:List u}{i j:Nat}{v x:u}(h:(t.set j v)[i]?=wc x):(i=j/\x=v)\/(i≠j/\t[i]?=wc x):=by
 rw[Zd]at h;by_cases e:j=i
 .subst e;rw[if_pos rfl]at h;by_cases l:j<t.length
  .rw[if_pos l]at h;erw[.inl ⟨rfl,(Y6 h).symm⟩]
  .rw[if_neg l]at h;cases h
 .rw[if_neg e]at h;erw[.inr ⟨λz=>e z.symm,h⟩]
set_option tactic.hygienic true in
def Fg{t w:Type}{f:t->w}{u:List t}{j:Nat}{x y:t}(z:u[j]?=wc x)(e:f y=f x):(u.set j y).map f=u.map f:=by
 rw[Wo,e];apply AE;intro i;rw[Zd];split
 .rename_i h;subst h;split
  .rw[Xl,z];rfl
  .rename_i l;rw[Zb (by lia)]
 .rfl
def RunAt.boat{M u:MH}{W:Wld}{r:Addr}{R:RunS}{Z m:Nat->Int}(h:RunAt M W r R Z){j:Nat}{f:Fer}{x y:Boat}(A:W.fer[j]?=wc f)(w:R.bs[j]?=wc x)(fr:FrM M u x.ads)(F:BoatAt u f W.w (m j) y)(G:y.b=x.b)(J:y.gl=x.gl)(Q:y.tl=x.tl)(ad:∀a∈y.ads,a∈x.ads\/M a=we)(S:∀i,i≠j->Z i<=m i):
  RunAt u W r {R with bs:=R.bs.set j y} m/\Kept M u r R {R with bs:=R.bs.set j y}:=by
 have B:=h.ba j f x A w;have dic:∀a p,M a=wc (.dic p)->u a=wc (.dic p):=λa p e=>fr a _ e (B.dic e);have X:(R.bs.set j y).map (λx=>MV.ref x.b)=R.bs.map λx=>MV.ref x.b:=Fg w (by rw[G])
 have H:(R.bs.set j y).map (λx=>MV.ref x.gl)=R.bs.map λx=>MV.ref x.gl:=Fg w (by rw[J])
 have v:(R.bs.set j y).map (λx=>MV.ref x.tl)=R.bs.map λx=>MV.ref x.tl:=Fg w (by rw[Q])
 have off:∀(i:Nat)z,i≠j->R.bs[i]?=wc z->∀a∈z.ads,a∉y.ads:=λi z L t a l P=>by
  rcases ad a P with c|c
  .erw[h.sep i j z x L t w a l c]
  .have T:i<W.fer.length:=by rw[<-h.bl];erw[(XF.mp t).1]
   have⟨o,e,_⟩:=(h.ba i _ z (Xb T) t).at_ a l;rw[e]at c;cases c
 erw[⟨⟨fr _ _ h.ob (B.run h.ob),dic _ _ h.hn,dic _ _ h.hw,dic _ _ h.hs,?_,?_,?_,h.nl,h.wl,h.sl,by show(R.bs.set j y).length=_;rw[Uo];erw[h.bl],h.nb,λi I a n l=>by have⟨k,e,o⟩:=h.wa i I a n l;erw[⟨k,dic _ _ e,o⟩],λi g z U t=>?_,λi C z D L t Y=>?_,h.nd⟩,⟨λa o l b=>fr a o l λc=>b ?_,λa l=>?_⟩⟩]
 .show u R.pb=wc (.dic (zipK W.fns ((R.bs.set j y).map λx=>MV.ref x.b)));rw[X];erw[dic _ _ h.hb]
 .show u R.pg=wc (.dic (zipK W.fns ((R.bs.set j y).map λx=>MV.ref x.gl)));rw[H];erw[dic _ _ h.hg]
 .show u R.pt=wc (.dic (zipK W.fns ((R.bs.set j y).map λx=>MV.ref x.tl)));rw[v];erw[dic _ _ h.ht]
 .rcases Wb t with⟨rfl,rfl⟩|⟨L,t⟩
  .rw[A]at U;cases U;erw[F]
  .erw[(h.ba i g z U t).fr (S i L) λa l o e=>fr a o e λc=>h.sep i j z x L t w a l c]
 .rcases Wb t with⟨e1,N⟩|⟨n1,N⟩<;>rcases Wb Y with⟨e2,O⟩|⟨n2,O⟩
  .erw[absurd (e1.trans e2.symm) L]
  .subst N;erw[λa l hb=>off C D n2 O a hb l]
  .subst O;erw[off i z n1 N]
  .erw[h.sep i C z D L N O]
 .erw[XD _ (XD _ (XD _ (XD _ (Um.mpr ⟨x,Xv w,c⟩))))]
 .simp only[RunS.own,Xh,Um]at l ⊢;rcases l with c|c|c|c|⟨z,t,c⟩
  .erw[.inl (.inl c)]
  .erw[.inl (.inr (.inl c))]
  .erw[.inl (.inr (.inr (.inl c)))]
  .erw[.inl (.inr (.inr (.inr (.inl c))))]
  .have⟨i,T,rfl⟩:=YB t;rcases Wb (Xb T)with⟨_,e⟩|⟨_,e⟩
   .rw[e]at c;erw[(ad a c).imp (λd=>.inr (.inr (.inr (.inr ⟨x,Xv w,d⟩)))) id]
   .erw[.inl (.inr (.inr (.inr (.inr ⟨_,Xv e,c⟩))))]
noncomputable def askO(o:Option Stp)(j:Str->Int)(w:Nat):MV:=match o with
 |we=>.non
 |wc (.take f _)=>.tup [.str "take",.str f]
 |wc (.give f T)=>.tup [.str "give",.str f,.int (T.val j w)]
 |wc _=>.tup [.str "own"]
def _n3(j:List Stp)(l:Str->Int)(w i:Nat):dueM j l w i=askO j[i]? l w:=rfl
noncomputable def Zk(o:Option Stp):MV:=match o with
 |we=>.tup [.str "done"]
 |wc (.take f _)=>.tup [.str "wait",.str f]
 |wc (.give f _)=>.tup [.str "wait",.str f]
 |wc _=>.tup [.str "own"]
noncomputable def XI(o:Option Stp)(z:Str):Bool:=match o with
 |wc (.take f _)=>decide (f=z)
 |wc (.give f _)=>decide (f=z)
 |_=>wg
abbrev Vc:SpM:=λj M Q=>∃(o:Option Stp) (l:Str->Int) (w:Nat),j=[askO o l w]/\Q (Zk o) M
def _6p:MonW Vc:=by walk_at "m"
def _an(T:Txt E):FO E 1 "what_alone" Vc:=by
 erw[T.aU.ok T.g _6p 1 ["asked"] (fC T f0) LL (fun l M Q h=>?_)];have⟨o,j,k,rfl,q⟩:=h;erw[⟨rfl,?_⟩];show wSs _ _ _ [wc (askO o j k)] M;delta LL;rcases o with _|s
 .simp only[askO];simp!;delta LK;simp!;erw[q]
 .cases s<;>simp only[askO]<;>simp!<;>rw[LJ]<;>simp!<;>first|(rw[LI];simp!;erw[q])|(rw[LH];simp!;erw[q])
abbrev Ak:SpM:=λj M Q=>∃(o:Option Stp) (l:Str->Int) (w:Nat) (z:Str),j=[askO o l w,.str z]/\Q (.bl (XI o z)) M
def _6s:MonW Ak:=by walk_at "m"
def _ap(T:Txt E):FO E 1 "is_wish_of" Ak:=by
 erw[T.aC.ok T.g _6s 2 ["asked","ferry_name"] (fC T f0) LM (fun l M Q h=>?_)];have⟨o,j,k,z,rfl,q⟩:=h;erw[⟨rfl,?_⟩];show wSs _ _ _ [wc (askO o j k),wc (.str z)] M;delta LM;rcases o with _|s
 .simp only[askO];simp!;erw[q]
 .cases s<;>simp only[askO]<;>simp!<;>erw[q]
def Wld.Good.in_nd{W:Wld}(G:W.Good):W.ins.Nodup:=(YO.mp G.nd).2.1
def Wld.Good.fn_nd{W:Wld}(G:W.Good):W.fns.Nodup:=(YO.mp G.nd).1
def _Q{W:Wld}{i:Nat}{I:Isl}(h:W.isl[i]?=wc I):W.ins[i]?=wc I.name:=by unfold Wld.ins;rw[Xl,h];rfl
def Wc{W:Wld}{i:Nat}{f:Fer}(h:W.fer[i]?=wc f):W.fns[i]?=wc f.name:=by unfold Wld.fns;rw[Xl,h];rfl
def Vd{W:Wld}:W.ins.length=W.isl.length:=by unfold Wld.ins;rw[X7]
def Cv{W:Wld}:W.fns.length=W.fer.length:=by unfold Wld.fns;rw[X7]
def P8{fs j:List Str}{n:Nat}{s:Stp}(h:ZM fs j n s):s.ok j n:=by
 cases s with
 |take f x=>erw[h.2]
 |give f T=>erw[h.2]
 |put x T=>erw[h]
 |jump T i=>erw[h]
section
variable{M:MH}{W:Wld}{r:Addr}{R:RunS}{mm:Nat->Int}
def RunAt.gvl(h:RunAt M W r R mm)(G:W.Good){j:Nat}{f:Fer}{x:Boat}(l:W.fer[j]?=wc f)(t:R.bs[j]?=wc x):valM (zipK W.fns (R.bs.map λx=>MV.ref x.gl)) (Xo f.name)=wc (.ref x.gl):=UG G.fn_nd (Wc l) (by rw[Xl,t];rfl)
def RunAt.tkl(h:RunAt M W r R mm)(G:W.Good){j:Nat}{f:Fer}{x:Boat}(l:W.fer[j]?=wc f)(t:R.bs[j]?=wc x):valM (zipK W.fns (R.bs.map λx=>MV.ref x.tl)) (Xo f.name)=wc (.ref x.tl):=UG G.fn_nd (Wc l) (by rw[Xl,t];rfl)
def RunAt.btl(h:RunAt M W r R mm)(G:W.Good){j:Nat}{f:Fer}{x:Boat}(l:W.fer[j]?=wc f)(t:R.bs[j]?=wc x):valM (zipK W.fns (R.bs.map λx=>MV.ref x.b)) (Xo f.name)=wc (.ref x.b):=UG G.fn_nd (Wc l) (by rw[Xl,t];rfl)
def RunAt.nml(h:RunAt M W r R mm)(G:W.Good){i n:Nat}{I:Isl}(j:W.isl[i]?=wc I)(l:R.nums[i]?=wc n):valM (zipK W.ins (R.nums.map natM)) (Xo I.name)=wc (.int n):=UG G.in_nd (_Q j) (by rw[Xl,l];rfl)
def RunAt.wdl(h:RunAt M W r R mm)(G:W.Good){i:Nat}{a:Addr}{I:Isl}(j:W.isl[i]?=wc I)(l:R.ws[i]?=wc a):valM (zipK W.ins (R.ws.map MV.ref)) (Xo I.name)=wc (.ref a):=UG G.in_nd (_Q j) (by rw[Xl,l];rfl)
def RunAt.dnl(h:RunAt M W r R mm)(G:W.Good){i n:Nat}{I:Isl}(j:W.isl[i]?=wc I)(l:R.dn[i]?=wc n):valM (zipK W.ins (R.dn.map natM)) (Xo I.name)=wc (.int n):=UG G.in_nd (_Q j) (by rw[Xl,l];rfl)
set_option tactic.hygienic true in
def RunAt.went(h:RunAt M W r R mm){y:MH}{i n d:Nat}{I:Isl}{p:Addr}{g:List (Key×MV)}(D:W.isl[i]?=wc I)(c:n<=I.stps.length)(F:M p=we)(fr:∀a o,M a=wc o->a≠R.pn->a≠R.pw->a≠R.ps->y a=wc o)(hk:y p=wc (.dic g))(wk:WdOk W.w I g)
  (h1:y R.pn=wc (.dic (zipK W.ins ((R.nums.set i n).map natM))))(h2:y R.pw=wc (.dic (zipK W.ins ((R.ws.set i p).map MV.ref))))(h3:y R.ps=wc (.dic (zipK W.ins ((R.dn.set i d).map natM)))):
  RunAt y W r {R with nums:=R.nums.set i n,ws:=R.ws.set i p,dn:=R.dn.set i d} mm/\Kept M y r R {R with nums:=R.nums.set i n,ws:=R.ws.set i p,dn:=R.dn.set i d}:=by
 have G:=h.nd;simp only[Yi,Xh,not_or]at G;have⟨⟨a1,a2,Q,S,X,H⟩,⟨b2,v,b4,b5,b6⟩,⟨c3,c4,c5,c6⟩,⟨d4,d5,d6⟩,⟨e5,e6⟩,f6,T⟩:=G;have U:∀a u,M a=wc (.dic u)->a≠r:=λa u e z=>by subst z;rw[h.ob]at e;cases e
 have Y:∀(k:Nat)a,R.ws[k]?=wc a->a≠R.pn/\a≠R.pw/\a≠R.ps:=λk a t=>⟨λz=>H (z▸Xv t),λz=>b6 (z▸Xv t),λz=>c6 (z▸Xv t)⟩;have Z:∀a o,M a=wc o->a≠p:=λa o e=>neM e F;erw[⟨⟨fr _ _ h.ob (U _ _ h.hn).symm (U _ _ h.hw).symm (U _ _ h.hs).symm,h1,h2,h3,fr _ _ h.hb (XT Q) (XT v) (XT c3),fr _ _ h.hg (XT S) (XT b4) (XT c4),fr _ _ h.ht (XT X) (XT b5) (XT c5),by show(R.nums.set i n).length=_;rw[Uo];erw[h.nl],by show(R.ws.set i p).length=_;rw[Uo];erw[h.wl],by show(R.dn.set i d).length=_;rw[Uo];erw[h.sl],h.bl,λk J m L A=>?_,λk J a L t=>?_,λj f x hf B=>?_,h.sep,?_⟩,⟨λa o t c=>fr a o t ?_ ?_ ?_,λa t=>.inl t⟩⟩]
 .rcases Wb A with⟨rfl,rfl⟩|⟨_,A⟩
  .rw[D]at L;cases L;erw[c]
  .erw[h.nb k J m L A]
 .rcases Wb t with⟨rfl,rfl⟩|⟨_,t⟩
  .rw[D]at L;cases L;erw[⟨g,hk,wk⟩]
  .have⟨u,e,o⟩:=h.wa k J a L t;have⟨n1,n2,n3⟩:=Y k a t;erw[⟨u,fr _ _ e n1 n2 n3,o⟩]
 .have B:R.bs[j]?=wc x:=B;have b:=h.ba j f x hf B;erw[b.fr (ZF _) λa t o e=>fr a o e (λz=>b.dic (z▸h.hn) t) (λz=>b.dic (z▸h.hw) t) (λz=>b.dic (z▸h.hs) t)]
 .have O:∀a u,M a=wc (.dic u)->a≠p:=λa u e=>Z a _ e;have ms:∀a,a∈R.ws.set i p->a∈R.ws\/a=p:=λa t=>CF t;have P:p∉R.ws:=λz=>by
   have⟨k,w,e⟩:=YB z;have hi:k<W.isl.length:=by rw[<-h.wl];erw[w]
   have⟨u,e2,_⟩:=h.wa k _ _ (Xb hi) (Xb w);rw[e,F]at e2;cases e2
  have C:(R.ws.set i p).Nodup:=by
   erw[List.pairwise_iff_getElem.mpr λk l w hl kl e=>?_];rw[Uo]at w hl;rw[CP,CP]at e;split at e<;>split at e
   .rename_i z1 z2;lia
   .erw[P (e▸XW hl)]
   .erw[P (e.symm▸XW w)]
   .have:=(AF T).mp e;lia
  have N:∀a u,M a=wc (.dic u)->a∉R.ws->a∉R.ws.set i p:=λa u e c z=>(ms a z).elim c (O a u e);show(R.pn::R.pw::R.ps::R.pb::R.pg::R.pt::R.ws.set i p).Nodup;simp only[Yi,Xh,not_or];erw[⟨⟨a1,a2,Q,S,X,N _ _ h.hn H⟩,⟨b2,v,b4,b5,N _ _ h.hw b6⟩,⟨c3,c4,c5,N _ _ h.hs c6⟩,⟨d4,d5,N _ _ h.hb d6⟩,⟨e5,N _ _ h.hg e6⟩,N _ _ h.ht f6,C⟩]
 .erw[λz=>c (by simp[RunS.own,z])]
 .erw[λz=>c (by simp[RunS.own,z])]
 .erw[λz=>c (by simp[RunS.own,z])]
end
def _hy{W:Wld}{I:Isl}{i:Nat}{s:Stp}(ok:IslOk W.w W.fns I)(t:I.stps[i]?=wc s)(u:Str->Int):∃n:Nat,UD s u W.w i=(n:Int)/\n<=I.stps.length:=by
 have w:=(XF.mp t).1;have st:=ok.st s (Xv t);have l:∃n:Nat,(i:Int)+1=(n:Int)/\n<=I.stps.length:=⟨i+1,by lia,w⟩
 cases s with
 |jump T j=>
  unfold UD;by_cases c:T.val u W.w≠0
  .simp only[if_pos c];erw[⟨j.toNat,by have:=st.2.1;lia,by have:=st.2.1;have:=st.2.2;lia⟩]
  .simp only[if_neg c];erw[l]
 |take _ _=>erw[l]
 |give _ _=>erw[l]
 |put _ _=>erw[l]
def _gu{W:Wld}{I:Isl}{s:Stp}{j:List (Key×MV)}{t:MV}(u:1<=W.w)(ok:IslOk W.w W.fns I)(w:s∈I.stps)(l:WdOk W.w I j)(hw:∀f x,s=.take f x->∃v:Int,t=.int v/\0<=v/\v<2^W.w):WdOk W.w I (W6 s j (rhoK j) W.w t):=by
 have st:=ok.st s w;cases s with
 |take f x=>
  have⟨v,rfl,z⟩:=hw f x rfl;erw[l.put ok.nd st.2 z]
 |put x T=>erw[l.put ok.nd st.1 (T.val_in u λy m=>(l.at ok.nd (st.2.2.2 y m)).2)]
 |give _ _=>erw[l]
 |jump _ _=>erw[l]
noncomputable def goR(R:RunS)(i n p d:Nat):RunS:={R with nums:=R.nums.set i n,ws:=R.ws.set i p,dn:=R.dn.set i (d+1)}
abbrev Uf:SpM:=λy M Q=>∃(r:Addr) (W:Wld) (R:RunS) (w:Nat->Int) (i n:Nat) (I:Isl) (s:Stp) (t:MV) (a:Addr) (j:List (Key×MV)),y=[.ref r,.str I.name,.tup (I.stps.map Stp.mv),t]/\W.Good/\RunAt M W r R w/\W.isl[i]?=wc I/\R.nums[i]?=wc n/\I.stps[n]?=wc s/\(∀f x,s=.take f x->∃v:Int,t=.int v/\0<=v/\v<2^W.w)/\R.ws[i]?=wc a/\M a=wc (.dic j)/\
 ∀u p d l,R.dn[i]?=wc d->UD s (rhoK j) W.w n=((u:Nat):Int)->M p=we->l p=wc (.dic (W6 s j (rhoK j) W.w t))->RunAt l W r (goR R i u p d) w->Kept M l r R (goR R i u p d)->Q .non l
def _7I:MonW Uf:=by walk_at "m"
def _bn(T:Txt E):FM E 52 "Run" "go_on" Uf:=by
 erw[T.bC.ok T.ac T.aa 4 ["self","name","steps","word","went"] (fC T (fc (_hp T) f0)) Ms (fun C M Q h=>?_)];have⟨r,W,R,mm,i,n,I,s,D,a,j,rfl,G,h,l,hn,F,hw,ha,hk,q⟩:=h;erw[⟨rfl,?_⟩];show wSs _ _ _ [wc (.ref r),wc (.str I.name),wc (.tup (I.stps.map Stp.mv)),wc D,we] M;have hi:i<W.isl.length:=(XF.mp l).1;have i5:=G.i5;have ok:=G.io I (Xv l);obtain⟨d,hd⟩:∃d,R.dn[i]?=wc d:=⟨_,Xb (by rw[h.sl];erw[hi])⟩
 have⟨J,g,S⟩:=h.wa i I a l ha;obtain rfl:j=J:=by rw[hk]at g;cases g;rfl
 have X:=h.ob;have t:=h.hn;have u:=h.hw;have y:=h.hs;have vn:=h.nml G l hn;have vw:=h.wdl G l ha;have vd:=h.dnl G l hd;have nd:=h.nd;simp only[Yi,Xh,not_or]at nd;have⟨⟨a1,a2,_⟩,⟨b2,_⟩,_⟩:=nd;have H:∀b kv,M b=wc (.dic kv)->r≠b:=λb kv e z=>by subst z;rw[X]at e;cases e
 have r1:=H _ _ t;have r2:=H _ _ u;have r3:=H _ _ y;have v:∀C:List MV,C.length=W.isl.length->(zipK W.ins C).length<16777216:=λC e=>by rw[Cu (by rw[Vd];erw[e]),Vd];lia
 delta Ms
 simp![X,runO,valM,Wld.mv,t,u,vn,vw]
 erw[ex10 _ a I.stps n W.w j (rhoK j) I.vars s D ⟨rfl,.inl rfl,F,P8 (ok.st s (Xv F)),G.w1,G.w2,hk,by rw[S.len];unfold Isl.vars;rw[X7];have:=ok.nv;lia,S.reads ok.nd,λp m=>?_⟩]
 have⟨w,c,x⟩:=_hy ok F (rhoK j);replace q:=λp d M' h=>q w p d M' h c;rw[c];have wk':=_gu (t:=D) G.w1 ok (Xv F) S hw;generalize W6 s j (rhoK j) W.w D=kvs' at*;have f:=SameM.new m (.dic kvs');have hk1:updM M p (.dic kvs') p=wc (.dic kvs'):=Xa;have pn:R.pn≠p:=neM t m;have pw:R.pw≠p:=neM u m;have ps:R.ps≠p:=neM y m;have L:=f _ _ X;have N:=f _ _ t;have O:=f _ _ u;have P:=f _ _ y;generalize updM M p _=M1 at*;delta Mr
 simp![L,runO,valM,N]
 erw[⟨v _ (by rw[X7];erw[h.nl]),?_⟩]
 rw[Aj (i:=i) (by rw[X7,Vd];erw[h.nl]) G.in_nd (_Q l)]
 have e1:(R.nums.map natM).set i (.int w)=(R.nums.set i w).map natM:=by rw[Wo]
 rw[e1];have U:updM M1 R.pn (.dic (zipK W.ins ((R.nums.set i w).map natM))) r=_:=(X9 r1).trans L;have Y:updM M1 R.pn (.dic (zipK W.ins ((R.nums.set i w).map natM))) R.pn=_:=Xa;have hw2:updM M1 R.pn (.dic (zipK W.ins ((R.nums.set i w).map natM))) R.pw=_:=(X9 (XT a1)).trans O;have hs2:updM M1 R.pn (.dic (zipK W.ins ((R.nums.set i w).map natM))) R.ps=_:=(X9 (XT a2)).trans P;have hk2:updM M1 R.pn (.dic (zipK W.ins ((R.nums.set i w).map natM))) p=_:=(X9 (XT pn)).trans hk1;have f2:∀b o,M1 b=wc o->b≠R.pn->updM M1 R.pn (.dic (zipK W.ins ((R.nums.set i w).map natM))) b=wc o:=λb o e z=>(X9 z).trans e;generalize updM M1 R.pn _=M2 at*;delta Mq
 simp![U,runO,valM,hw2]
 erw[⟨v _ (by rw[X7];erw[h.wl]),?_⟩]
 rw[Aj (i:=i) (by rw[X7,Vd];erw[h.wl]) G.in_nd (_Q l)]
 have e2:(R.ws.map MV.ref).set i (.ref p)=(R.ws.set i p).map MV.ref:=by rw[Wo]
 rw[e2];have ob3:updM M2 R.pw (.dic (zipK W.ins ((R.ws.set i p).map MV.ref))) r=_:=(X9 r2).trans U;have hn3:updM M2 R.pw (.dic (zipK W.ins ((R.ws.set i p).map MV.ref))) R.pn=_:=(X9 a1).trans Y;have hw3:updM M2 R.pw (.dic (zipK W.ins ((R.ws.set i p).map MV.ref))) R.pw=_:=Xa;have hs3:updM M2 R.pw (.dic (zipK W.ins ((R.ws.set i p).map MV.ref))) R.ps=_:=(X9 (XT b2)).trans hs2;have Z:updM M2 R.pw (.dic (zipK W.ins ((R.ws.set i p).map MV.ref))) p=_:=(X9 (XT pw)).trans hk2;have f3:∀b o,M2 b=wc o->b≠R.pw->updM M2 R.pw (.dic (zipK W.ins ((R.ws.set i p).map MV.ref))) b=wc o:=λb o e z=>(X9 z).trans e;generalize updM M2 R.pw _=M3 at*;delta Mp
 simp![ob3,runO,valM,hs3,vd]
 erw[⟨v _ (by rw[X7];erw[h.sl]),?_⟩]
 rw[Aj (i:=i) (by rw[X7,Vd];erw[h.sl]) G.in_nd (_Q l)]
 have e3:(R.dn.map natM).set i (.int ((d:Int)+1))=(R.dn.set i (d+1)).map natM:=by rw[Wo];rfl
 rw[e3];have⟨A,B⟩:=h.went (y:=updM M3 R.ps (.dic (zipK W.ins ((R.dn.set i (d+1)).map natM)))) l x m (λb o e z1 z2 z3=>(X9 z3).trans (f3 b o (f2 b o (f b o e) z1) z2)) ((X9 (XT ps)).trans Z) wk' ((X9 a2).trans hn3) ((X9 b2).trans hw3) Xa;erw[q p d _ hd m ((X9 (XT ps)).trans Z) A B]
def P9(w:Nat)(f:Fer)(o:Option Stp)(j:Str->Int)(v:MV):Prop:=v=.non\/(∃T,o=wc (.give f.name T)/\v=askO o j w)\/∃(x:Str) (n:Nat),o=wc (.take f.name x)/\n<2^w/\v=.tup [.str "take",.str f.name,.int n]
noncomputable def UH(w:Nat)(f:Fer)(o:Option Stp)(j:Str->Int):Option Nat:=match o with
 |wc (.give g T)=>if g=f.name then wc (T.val j w).toNat else we
 |_=>we
def Ve(w:Nat)(f:Fer)(z:Str)(m:Int)(c:Nat)(o:Option Stp)(j:Str->Int)(A:Ab):Ab:=if f.giver=z then A.giver m c (UH w f o j)else A.taker m c (XI o f.name)
def smpA(f:Fer)(z:Str)(c:Nat)(A:Ab):Nat:=if f.giver=z then Xf A.k (A.gSamp c)else Xf A.k (A.tSamp c)
def hitA(w:Nat)(f:Fer)(z:Str)(o:Option Stp)(j:Str->Int)(A:Ab):Bool:=if f.giver=z then A.gives (UH w f o j)else A.takes (XI o f.name)
def Yz(w:Nat)(f:Fer)(z:Str)(o:Option Stp)(j:Str->Int)(A:Ab):MV:=if hitA w f z o j A=wf then(if f.giver=z then askO o j w else .tup [.str "take",.str f.name,.int (A.ws.getD A.tn 0:Nat)])else .non
abbrev UI:SpM:=λw M Q=>∃(r:Addr) (W:Wld) (R:RunS) (t:Nat->Int) (j:Nat) (f:Fer) (z:Str) (c:Nat) (o:Option Stp) (l:Str->Int) (x:Boat),w=[.ref r,f.mv,.str z,.int c,askO o l W.w]/\W.Good/\RunAt M W r R t/\t j<=R.m/\W.fer[j]?=wc f/\(z=f.giver\/z=f.taker)/\(∀s,o=wc s->ZN W.fer z s)/\(∀g T,o=wc (.give g T)->0<=T.val l W.w/\T.val l W.w<2^W.w)/\(∀y∈R.bs,y.A.ws.length<=1000)/\R.bs[j]?=wc x/\
 ∀y u,RunAt u W r {R with bs:=R.bs.set j y} (λi=>if i=j then R.m+1 else t i)->Kept M u r R {R with bs:=R.bs.set j y}->y.A=Ve W.w f z R.m c o l x.A->P9 W.w f o l (Yz W.w f z o l x.A)->Q (.tup [Yz W.w f z o l x.A,.int (smpA f z c x.A:Nat)]) u
def _3F:MonW UI:=by walk_at "m"
def _js{w:Nat}{v:Int}(j:0<=v)(l:v<2^w):∃n:Nat,v=(n:Int)/\n<2^w:=by
 erw[⟨v.toNat,(UY j).symm,?_⟩];have e:((2:Int)^w)=((2^w:Nat):Int):=by rw[Wy];rfl
 lia
def _6m(T:Txt E):FM E 5 "Run" "ring_ferry" UI:=by
 erw[T.bq.ok T.ac T.aa 5 ["self","ferry","name","choice","asked","boat","wished","told"] (mC T [("is_wish_of",Ak),("Ferry_ring_giver",Va),("Ferry_ring_taker",W9)] [("Ferry_ring_giver",Va),("Ferry_ring_taker",W9)] [(1,"Ferry","ring_giver"),(2,"Ferry","ring_taker")] [] (fc (_ap T) f0) (fMc _3d (fMc _3c nl0)) (fMc ⟨_,_,rfl,fM (_5k T)⟩ (fMc ⟨_,_,rfl,fM (_5j T)⟩ nl0)) nl0) Mo (fun vs M Q h=>?_)];have⟨r,W,R,p,j,f,z,c,o,l,x,rfl,G,h,U,P,hz,hE,hT,hL,Y,q⟩:=h;erw[⟨rfl,?_⟩];show wSs _ _ _ [wc (.ref r),wc f.mv,wc (.str z),wc (.int c),wc (askO o l W.w),we,we,we] M;have hj:j<W.fer.length:=(XF.mp P).1;have fm:f∈W.fer:=Xv P;have fok:=G.fo f fm;have b:=h.ba j f x P Y;have xl:=hL x (Xv Y);have ob:=h.ob;have hb:=h.hb;have hg:=h.hg;have ht:=h.ht;have vb:=h.btl G P Y;have vg:=h.gvl G P Y;have vt:=h.tkl G P Y;have fe:=b.fy.fe;have Z:∀i,i≠j->p i<=(λi=>if i=j then R.m+1 else p i) i:=λi ne=>by simp[ne]
 have m1:(λi=>if i=j then R.m+1 else p i) j=R.m+1:=by simp
 have cr:∀t,FrM M t [x.b,x.g,x.u]->∀a kv,M a=wc (.dic kv)->t a=wc (.dic kv):=λt fr a kv e=>fr a _ e λc=>b.dic e (by
  simp only[Boat.ads,Xh,XM,or_false]at c ⊢;rcases c with c|c|c<;>simp[c])
 have cu:∀t,FrM M t [x.b,x.g,x.u]->t r=wc (runO W R):=λt fr=>fr _ _ ob λc=>b.run ob (by
  simp only[Boat.ads,Xh,XM,or_false]at c ⊢;rcases c with c|c|c<;>simp[c])
 have glo:x.gl∉ [x.b,x.g,x.u]:=OS b.fy b.gv;have tlo:x.tl∉ [x.b,x.g,x.u]:=OS b.fy b.tk;have B:∀t,FrM M t [x.b,x.g,x.u]->FrM M t x.ads:=λt fr a o e L=>fr a o e λc=>L (by
  simp only[Boat.ads,Xh,XM,or_false]at c ⊢;rcases c with c|c|c<;>simp[c])
 delta Mo
 simp![ob,runO,valM,Fer.mv,hb,vb]
 delta Mn
 simp![Fer.mv]
 erw[ex4 o l W.w f.name ⟨rfl,?_⟩];delta Mm
 simp![Fer.mv]
 erw[XU (λd=>?_) (λd=>?_)]
 . -- the giver's end
  have F:XI o f.name=wf->∃T,o=wc (.give f.name T):=λe=>by
   rcases o with _|s
   .cases e
   .cases s with
    |take g y=>
     obtain rfl:g=f.name:=of_decide_eq_true e;erw[absurd (d.trans ((hE _ rfl) f fm rfl).symm) fok.ne]
    |give g T=>
     obtain rfl:g=f.name:=of_decide_eq_true e;erw[⟨T,rfl⟩]
    |put _ _=>cases e
    |jump _ _=>cases e
  have go:∀(xo:Option Nat)(v:MV),v=wM xo->UH W.w f o l=xo->(xo=we\/∃T n,o=wc (.give f.name T)/\askO o l W.w=.tup [.str "give",.str f.name,.int ((n:Nat):Int)]/\xo=wc n/\n<2^W.w)->
    Va [.ref x.b,.int R.m,.int c,v] M (fun v1 M1=>wSs ([("is_wish_of",Ak),("Ferry_ring_giver",Va),("Ferry_ring_taker",W9)]:List (Str×SpM)) Ev {nx:=fun σ M=>wSs ([("is_wish_of",Ak),("Ferry_ring_giver",Va),("Ferry_ring_taker",W9)]:List (Str×SpM)) Eu {nx:=fun _ t=>Q .non t,rt:=Q} σ M,rt:=Q} [wc (.ref r),wc f.mv,wc (.str z),wc (.int c),wc (askO o l W.w),wc (.ref x.b),wc (.bl (XI o f.name)),wc v1] M1):=by
   intro xo v hv eN hxo;subst hv;have eR:x.A.giver R.m c xo=Ve W.w f z R.m c o l x.A:=by rw[Ve,if_pos d,eN]
   have eS:smpA f z c x.A=Xf x.A.k (x.A.gSamp c):=if_pos d;have eH:hitA W.w f z o l x.A=x.A.gives xo:=by rw[hitA,if_pos d,eN]
   erw[ex8 x.b x.p x.g x.u x.A R.m c xo ⟨rfl,b.fy,Vz b.gm U,Vz b.tm U,λI M1 J fr fy=>?_⟩];have w:=fr _ _ b.gv glo;have m:=fr _ _ b.tk tlo;have n1:x.gl≠I:=neM b.gv J;have n2:x.tl≠I:=neM b.tk J;have ads:∀(A:Ab),∀a∈(⟨x.b,I,x.g,x.u,x.gl,x.tl,A⟩:Boat).ads,a∈x.ads\/M a=we:=λA a ha=>by
    simp only[Boat.ads,Xh,XM,or_false]at ha ⊢;rcases ha with e|e|e|e|e|e
    .erw[.inl (.inl e)]
    .erw[.inr (e▸J)]
    .erw[.inl (.inr (.inr (.inl e)))]
    .erw[.inl (.inr (.inr (.inr (.inl e))))]
    .erw[.inl (.inr (.inr (.inr (.inr (.inl e)))))]
    .erw[.inl (.inr (.inr (.inr (.inr (.inr e)))))]
   delta Ev;simp!;by_cases gvs:x.A.gives xo=wf
   .have N:(x.A.giver R.m c xo).ws=x.A.ws++[xo.getD 0]:=if_pos gvs;rcases hxo with e|⟨T,n,C,ea,rfl,L⟩
    .subst e;cases gvs
    rw[gvs];have g1:=cr _ fr _ _ hg;have r1:=cu _ fr;simp!;delta Mi
    simp![Fer.mv,r1,runO,valM,g1,vg,w,ea]
    erw[⟨⟨_,rfl⟩,by rw[X7];lia,?_⟩]
    have eM:x.A.ws.map natM++[MV.int (n:Int)]=(x.A.giver R.m c (wc n)).ws.map natM:=by rw[N,XX];rfl
    rw[eM];have S:=fy.put w n1 ((x.A.giver R.m c (wc n)).ws.map natM);have X:updM M1 x.gl (.lst ((x.A.giver R.m c (wc n)).ws.map natM)) x.gl=_:=Xa;have H:updM M1 x.gl (.lst ((x.A.giver R.m c (wc n)).ws.map natM)) x.tl=_:=(X9 (XT b.n1.1)).trans m;have fr2:FrM M (updM M1 x.gl (.lst ((x.A.giver R.m c (wc n)).ws.map natM))) x.ads:=λa o e L=>(X9 (λz=>L (by simp[Boat.ads,z]))).trans (B _ fr a o e L)
    generalize updM M1 x.gl _=M2 at*;delta Mh;simp!;have tn:(x.A.giver R.m c (wc n)).tn<=x.A.ws.length:=by
     have:=b.fy.ok.lg1;have:=(b.fy.ok.tb _ (_P (by rw[b.fy.ok.tl];erw[b.fy.ok.gl.1]))).2
     have:=(b.fy.ok.tb _ (_P (by rw[b.fy.ok.tl];erw[b.fy.ok.gl.1]))).1
     have:=b.fy.ok.lt1;show x.A.tn<=_;lia
    have hy:BoatAt M2 f W.w (R.m+1) ⟨x.b,I,x.g,x.u,x.gl,x.tl,x.A.giver R.m c (wc n)⟩:=⟨S,X,by
      show M2 x.tl=wc (.lst (((x.A.giver R.m c (wc n)).ws.take (x.A.giver R.m c (wc n)).tn).map natM));rw[H,N,Fi tn];rfl,⟨b.n1.1,n1,n2⟩,b.k,by show R.m<R.m+1;lia,by show x.A.tm<R.m+1;have:=b.tm;lia,λu D=>by
      have D:u∈(x.A.giver R.m c (wc n)).ws:=D;rw[N]at D;rcases Ya.mp D with D|D
      .erw[b.wd u D]
      .obtain rfl:u=n:=by simpa using D
       erw[L]⟩
    have⟨A1,A2⟩:=h.boat (y:=⟨x.b,I,x.g,x.u,x.gl,x.tl,x.A.giver R.m c (wc n)⟩) (m:=λi=>if i=j then R.m+1 else p i) P Y fr2 (by show BoatAt _ _ _ (if j=j then R.m+1 else p j) _;rw[if_pos rfl];erw[hy]) rfl rfl rfl (ads _) Z
    rw[<-ea];have O:Yz W.w f z o l x.A=askO o l W.w:=by rw[Yz,eH,if_pos gvs,if_pos d]
    have:=q _ M2 A1 A2 eR (O▸.inr (.inl ⟨T,C,rfl⟩));rw[O,eS]at this;erw[this]
   .have N:(x.A.giver R.m c xo).ws=x.A.ws:=if_neg gvs;rw[Bool.not_eq_true]at gvs;rw[gvs];simp!;delta Mj;simp!;have hy:BoatAt M1 f W.w (R.m+1) ⟨x.b,I,x.g,x.u,x.gl,x.tl,x.A.giver R.m c xo⟩:=⟨fy,by
      show M1 x.gl=wc (.lst ((x.A.giver R.m c xo).ws.map natM));rw[N];erw[w],by
      show M1 x.tl=wc (.lst (((x.A.giver R.m c xo).ws.take (x.A.giver R.m c xo).tn).map natM));rw[N];erw[m],⟨b.n1.1,n1,n2⟩,b.k,by show R.m<R.m+1;lia,by show x.A.tm<R.m+1;have:=b.tm;lia,by
      show∀u∈(x.A.giver R.m c xo).ws,u<2^W.w;rw[N];erw[b.wd]⟩
    have⟨A1,A2⟩:=h.boat (y:=⟨x.b,I,x.g,x.u,x.gl,x.tl,x.A.giver R.m c xo⟩) (m:=λi=>if i=j then R.m+1 else p i) P Y (B _ fr) (by show BoatAt _ _ _ (if j=j then R.m+1 else p j) _;rw[if_pos rfl];erw[hy]) rfl rfl rfl (ads _) Z
    have O:Yz W.w f z o l x.A=.non:=by rw[Yz,eH,gvs];rfl
    have:=q _ M1 A1 A2 eR (O▸.inl rfl);rw[O,eS]at this;erw[this]
  delta Ml
  simp![fe,XY,valM,ob,runO]
  by_cases hw:XI o f.name=wf
  .have⟨T,C⟩:=F hw;have⟨v0,v1⟩:=hT _ T C;have⟨n,en,L⟩:=_js v0 v1;have ea:askO o l W.w=.tup [.str "give",.str f.name,.int (n:Int)]:=by rw[C];show MV.tup [.str "give",.str f.name,.int (T.val l W.w)]=_;rw[en]
   have:=go (wc n) _ rfl (by subst C;show(if f.name=f.name then wc (T.val l W.w).toNat else we)=wc n;rw[if_pos rfl,en];rfl) (.inr ⟨T,n,C,ea,rfl,L⟩)
   rw[if_pos hw]
   simp![ea]
   rw[<-ea];erw[this]
  .have gn:UH W.w f o l=we:=by
    rcases o with _|s
    .rfl
    .cases s with
     |give g T=>erw[if_neg λe=>hw (decide_eq_true e)]
     |take _ _=>rfl
     |put _ _=>rfl
     |jump _ _=>rfl
   have:=go we _ rfl gn (.inl rfl);rw[if_neg hw]
   try walk_at "s"
   erw[this]
 . -- the taker's end
  have zt:f.taker=z:=(hz.resolve_left λe=>d e.symm).symm;have F:XI o f.name=wf->∃y,o=wc (.take f.name y):=λe=>by
   rcases o with _|s
   .cases e
   .cases s with
    |take g y=>
     obtain rfl:g=f.name:=of_decide_eq_true e;erw[⟨y,rfl⟩]
    |give g T=>
     obtain rfl:g=f.name:=of_decide_eq_true e;erw[absurd ((hE _ rfl) f fm rfl) d]
    |put _ _=>cases e
    |jump _ _=>cases e
  delta Eu
  simp![fe,XY,valM,ob,runO]
  erw[ex8 x.b x.p x.g x.u x.A R.m c (XI o f.name) ⟨rfl,b.fy,Vz b.gm U,Vz b.tm U,λM1 fr fy=>?_⟩];have w:=fr _ _ b.gv glo;have m:=fr _ _ b.tk tlo;have ads:∀(A:Ab),∀a∈(⟨x.b,x.p,x.g,x.u,x.gl,x.tl,A⟩:Boat).ads,a∈x.ads\/M a=we:=λA a ha=>.inl ha;have eR:x.A.taker R.m c (XI o f.name)=Ve W.w f z R.m c o l x.A:=by rw[Ve,if_neg d]
  have eS:smpA f z c x.A=Xf x.A.k (x.A.tSamp c):=if_neg d;have eH:hitA W.w f z o l x.A=x.A.takes (XI o f.name):=if_neg d;delta Mg;simp!;by_cases tks:x.A.takes (XI o f.name)=wf
  .have eT:takM x.A (XI o f.name)=.int (x.A.ws.getD x.A.tn 0:Nat):=if_pos tks;have N:(x.A.taker R.m c (XI o f.name)).tn=x.A.tn+1:=if_pos tks;have hw:XI o f.name=wf:=((Xs _ _).mp tks).1;have hlt:x.A.tn<x.A.ws.length:=by
    have m2:=_P (j:=x.A.tx) (by rw[b.fy.ok.tl];erw[b.fy.ok.gl.1])
    have t1:=b.fy.ok.tb _ m2;have t2:=b.fy.ok.lt1;have t3:XH x.A.tx≠x.A.tn:=of_decide_eq_true ((Xs _ _).mp tks).2;lia
   have⟨y,C⟩:=F hw;have gd:x.A.ws.getD x.A.tn 0=x.A.ws[x.A.tn]:=by rw[YK,Xb hlt];rfl
   rw[eT];have t1:=cr _ fr _ _ ht;have r1:=cu _ fr;simp!;delta Me
   simp![Fer.mv,r1,runO,valM,t1,vt,m]
   erw[⟨⟨_,rfl⟩,by rw[X7,Ys];lia,?_⟩]
   have eM:(x.A.ws.take x.A.tn).map natM++[MV.int ((x.A.ws.getD x.A.tn 0:Nat):Int)]=(x.A.ws.take (x.A.tn+1)).map natM:=by
    rw[ZX,Xb hlt,XX,gd];rfl
   rw[eM];have S:=fy.put m b.n1.2.2 ((x.A.ws.take (x.A.tn+1)).map natM);have H:updM M1 x.tl (.lst ((x.A.ws.take (x.A.tn+1)).map natM)) x.tl=_:=Xa;have X:updM M1 x.tl (.lst ((x.A.ws.take (x.A.tn+1)).map natM)) x.gl=_:=(X9 b.n1.1).trans w;have fr2:FrM M (updM M1 x.tl (.lst ((x.A.ws.take (x.A.tn+1)).map natM))) x.ads:=λa o e L=>(X9 (λz=>L (by simp[Boat.ads,z]))).trans (B _ fr a o e L)
   generalize updM M1 x.tl _=M2 at*;delta Md
   simp![Fer.mv]
   have hy:BoatAt M2 f W.w (R.m+1) ⟨x.b,x.p,x.g,x.u,x.gl,x.tl,x.A.taker R.m c (XI o f.name)⟩:=⟨S,X,by
     show M2 x.tl=wc (.lst ((x.A.ws.take (x.A.taker R.m c (XI o f.name)).tn).map natM));rw[N];erw[H],b.n1,b.k,by show x.A.gm<R.m+1;have:=b.gm;lia,by show R.m<R.m+1;lia,b.wd⟩
   have⟨A1,A2⟩:=h.boat (y:=⟨x.b,x.p,x.g,x.u,x.gl,x.tl,x.A.taker R.m c (XI o f.name)⟩) (m:=λi=>if i=j then R.m+1 else p i) P Y fr2 (by show BoatAt _ _ _ (if j=j then R.m+1 else p j) _;rw[if_pos rfl];erw[hy]) rfl rfl rfl (ads _) Z
   have O:Yz W.w f z o l x.A=.tup [.str "take",.str f.name,.int (x.A.ws.getD x.A.tn 0:Nat)]:=by rw[Yz,eH,if_pos tks,if_neg d]
   have:=q _ M2 A1 A2 eR (O▸.inr (.inr ⟨y,_,C,by rw[gd];erw[b.wd _ (XW hlt)],rfl⟩))
   rw[O,eS]at this;erw[this]
  .have eT:takM x.A (XI o f.name)=.non:=if_neg tks;have N:(x.A.taker R.m c (XI o f.name)).tn=x.A.tn:=if_neg tks;rw[eT];simp!;delta Mf;simp!;have hy:BoatAt M1 f W.w (R.m+1) ⟨x.b,x.p,x.g,x.u,x.gl,x.tl,x.A.taker R.m c (XI o f.name)⟩:=⟨fy,w,by
     show M1 x.tl=wc (.lst ((x.A.ws.take (x.A.taker R.m c (XI o f.name)).tn).map natM));rw[N];erw[m],b.n1,b.k,by show x.A.gm<R.m+1;have:=b.gm;lia,by show R.m<R.m+1;lia,b.wd⟩
   have⟨A1,A2⟩:=h.boat (y:=⟨x.b,x.p,x.g,x.u,x.gl,x.tl,x.A.taker R.m c (XI o f.name)⟩) (m:=λi=>if i=j then R.m+1 else p i) P Y (B _ fr) (by show BoatAt _ _ _ (if j=j then R.m+1 else p j) _;rw[if_pos rfl];erw[hy]) rfl rfl rfl (ads _) Z
   have O:Yz W.w f z o l x.A=.non:=by rw[Yz,eH,if_neg tks]
   have:=q _ M1 A1 A2 eR (O▸.inl rfl);rw[O,eS]at this;erw[this]
abbrev Pa:SpM:=λw M Q=>∃(l:List Str) (t:List MV) (z:Str) (i:Nat) (y:MV),w=[.tup t,.str z]/\(∀(j:Nat)u,t[j]?=wc u->∃x r,u=.tup (.str x::r)/\l[j]?=wc x)/\l.Nodup/\l[i]?=wc z/\t[i]?=wc y/\Q y M
def _6q:MonW Pa:=by walk_at "m"
def _ao(T:Txt E):FO E 1 "one_called" Pa:=by
 erw[T.ao.ok T.g _6q 2 ["row","name","one"] (fC T f0) LF (fun P M Q h=>?_)];have⟨R,g,z,k,y,rfl,N,O,f,L,q⟩:=h;erw[⟨rfl,?_⟩];show wSs _ _ _ [wc (.tup g),wc (.str z),we] M;delta LF;simp!;obtain⟨J,d⟩:∃J:Nat->Sm->MH->Prop,∀j t w,J j t w↔w=M/\j<=k/\∃v,t=[wc (.tup g),wc (.str z),v]:=⟨_,λ_ _ _=>Yl⟩;erw[⟨J,(d _ _ _).mpr ⟨rfl,YQ _,_,rfl⟩,λj t w h=>trivial,?_,?_⟩]
 .rintro j u t w m h;have⟨rfl,c,v,rfl⟩:=(d _ _ _).mp h;have m:g[j]?=wc u:=m;have⟨x,r,rfl,p⟩:=N j u m;delta C7;simp!;erw[XU (λe=>?_) (λe=>?_)]
  .subst e;have:=(List.getElem?_inj (XF.mp p).1 O).mp (p.trans f.symm);subst this;rw[L]at m;cases m;delta LD;simp!;erw[q]
  .erw[(d _ _ _).mpr ⟨rfl,?_,_,rfl⟩];rcases Nat.lt_or_eq_of_le c with l|l
   .erw[l]
   .subst l;rw[p]at f;erw[absurd (Y6 f) e]
 .rintro t w h;have⟨rfl,c,v,rfl⟩:=(d _ _ _).mp h;have:=(XF.mp L).1;have c:g.length<=k:=c;lia
abbrev Vf:SpM:=λj M Q=>∃(W:Wld) (i:Nat) (I:Isl),j=[W.mv,.str I.name]/\W.Good/\W.isl[i]?=wc I/\Q I.mv M
def _7F:MonW Vf:=by walk_at "m"
def _bj(T:Txt E):FO E 2 "island_of" Vf:=by
 erw[T.aw.ok T.g _7F 2 ["world","name"] (fC T (fc (_ao T) f0)) LG (fun y M Q h=>?_)];have⟨W,i,I,rfl,G,l,q⟩:=h;erw[⟨rfl,?_⟩];show wSs _ _ _ [wc W.mv,wc (.str I.name)] M;delta LG;rw[Wld.mv];simp!;erw[ex5 W.ins (W.isl.map Isl.mv) I.name i I.mv ⟨rfl,λj u t=>?_,G.in_nd,_Q l,by rw[Xl,l];rfl,q⟩]
 have⟨w,rfl⟩:=_7 t;erw[⟨_,_,rfl,_Q (Xb w)⟩]
def Cw(w:Nat)(o:Option Stp)(j:Str->Int)(v:MV):Prop:=v=Zk o\/(∃f T,o=wc (.give f T)/\v=askO o j w)\/∃(f x:Str) (n:Nat),o=wc (.take f x)/\n<2^w/\v=.tup [.str "take",.str f,.int n]
def RunAt.tick{M:MH}{W:Wld}{r:Addr}{R:RunS}{w t:Nat->Int}(h:RunAt M W r R w)(g:∀i,i<W.fer.length->w i<=t i)(m:Int):RunAt (updM M r (runO W {R with m:=m})) W r {R with m:=m} t/\Kept M (updM M r (runO W {R with m:=m})) r R {R with m:=m}:=by
 have c:∀a l,M a=wc (.dic l)->a≠r:=λa l e z=>by subst z;rw[h.ob]at e;cases e
 have d:∀a l,M a=wc (.dic l)->updM M r (runO W {R with m:=m}) a=wc (.dic l):=λa l e=>(X9 (c a l e)).trans e;erw[⟨⟨Xa,d _ _ h.hn,d _ _ h.hw,d _ _ h.hs,d _ _ h.hb,d _ _ h.hg,d _ _ h.ht,h.nl,h.wl,h.sl,h.bl,h.nb,λi I a p u=>by have⟨k,e,o⟩:=h.wa i I a p u;erw[⟨k,d _ _ e,o⟩],λj f x y L=>?_,h.sep,h.nd⟩,⟨λa o e N=>(X9 λz=>N (by simp[RunS.own,z])).trans e,λa u=>.inl u⟩⟩]
 have b:=h.ba j f x y L;erw[b.fr (g j (XF.mp y).1) λa u o e=>(X9 λz=>b.run h.ob (by rw[<-z];erw[u])).trans e]
def RunAt.le{M:MH}{W:Wld}{r:Addr}{R:RunS}{l mm':Nat->Int}(h:RunAt M W r R l)(t:∀i,l i<=mm' i):RunAt M W r R mm':={h with ba:=λj f x u w=>(h.ba j f x u w).fr (t j) λ_ _ _ e=>e}
def RunAt.off{M:MH}{W:Wld}{r:Addr}{R:RunS}{w:Nat->Int}(h:RunAt M W r R w){p:Addr}{g:List MV}(c:M p=wc (.lst g))(y:p∉R.own r)(o:MO):RunAt (updM M p o) W r R w:=by
 have d:∀a l,M a=wc (.dic l)->updM M p o a=wc (.dic l):=λa l e=>(X9 λz=>by subst z;rw[c]at e;cases e).trans e
 erw[⟨(X9 λz=>y (by rw[<-z];erw[XZ ..])).trans h.ob,d _ _ h.hn,d _ _ h.hw,d _ _ h.hs,d _ _ h.hb,d _ _ h.hg,d _ _ h.ht,h.nl,h.wl,h.sl,h.bl,h.nb,λi I a L t=>by have⟨k,e,u⟩:=h.wa i I a L t;erw[⟨k,d _ _ e,u⟩],λj f x N m=>(h.ba j f x N m).fr (ZF _) λa t u e=>(X9 λz=>y ?_).trans e,h.sep,h.nd⟩]
 rw[<-z];erw[XD _ (XD _ (XD _ (XD _ (Um.mpr ⟨x,Xv m,t⟩))))]
def RunAt.ws_off{M:MH}{W:Wld}{r:Addr}{R:RunS}{y:Nat->Int}(h:RunAt M W r R y){i:Nat}{I:Isl}{a:Addr}(m:W.isl[i]?=wc I)(u:R.ws[i]?=wc a):a∉R.own r:=λz=>by
 have⟨d,e,_⟩:=h.wa i I a m u;have l:=h.nd;have t:=Xv u;simp only[Yi,Xh,not_or]at l;simp only[RunS.own,Xh,Um]at z;rcases z with rfl|rfl|rfl|rfl|⟨x,g,z⟩
 .rw[h.ob]at e;cases e
 .erw[l.1.2.2.2.2.2 t]
 .erw[l.2.1.2.2.2.2 t]
 .erw[l.2.2.1.2.2.2 t]
 .have⟨j,w,rfl⟩:=YB g;erw[(h.ba j _ _ (Xb (by rw[<-h.bl];erw[w])) (Xb w)).dic e z]
noncomputable def atB(W:Wld)(z:Str)(k:Nat):Bool:=match W.fer[k]? with
 |wc f=>decide (z=f.giver\/z=f.taker)
 |we=>wg
def smpM(W:Wld)(bs:List Boat)(z:Str)(c k:Nat):MV:=match W.fer[k]?,bs[k]? with
 |wc f,wc a=>.tup [.str f.name,.int (smpA f z (c/2^(8*k)) a.A:Nat)]
 |_,_=>.non
def ixs(W:Wld)(z:Str)(j:Nat):List Nat:=(Xr j).filter (atB W z)
def Pb{W:Wld}{z:Str}{j:Nat}{f:Fer}(l:W.fer[j]?=wc f):atB W z j=decide (z=f.giver\/z=f.taker):=by unfold atB;rw[l]
def _j3{W:Wld}{bs:List Boat}{z:Str}{c j:Nat}{f:Fer}{a:Boat}(l:W.fer[j]?=wc f)(t:bs[j]?=wc a):smpM W bs z c j=.tup [.str f.name,.int (smpA f z (c/2^(8*j)) a.A:Nat)]:=by unfold smpM;rw[l,t]
def _k7{W:Wld}{z:Str}{j:Nat}{f:Fer}(l:W.fer[j]?=wc f)(c:z=f.giver\/z=f.taker):ixs W z (j+1)=ixs W z j++[j]:=by
 unfold ixs;rw[AI,AD,Vn,Pb l,decide_eq_true c];rfl
def _mD{W:Wld}{z:Str}{j:Nat}{f:Fer}(l:W.fer[j]?=wc f)(c:¬(z=f.giver\/z=f.taker)):ixs W z (j+1)=ixs W z j:=by
 unfold ixs;rw[AI,AD,Vn,Pb l,decide_eq_false c];simp
def _k8{W:Wld}{z:Str}{j:Nat}:(ixs W z j).length<=j:=XA (CJ ..) (by rw[ZW];erw[Xc _])
def newA(w:Nat)(z:Str)(m:Int)(c:Nat)(o:Option Stp)(j:Str->Int)(k:Nat)(f:Fer)(A:Ab):Ab:=if z=f.giver\/z=f.taker then Ve w f z m (c/2^(8*k)) o j A else A
def _hr{w:Nat}{z:Str}{m:Int}{c:Nat}{o:Option Stp}{j:Str->Int}{k:Nat}{f:Fer}{A:Ab}:(newA w z m c o j k f A).ws.length<=A.ws.length+1:=by
 unfold newA;split
 .unfold Ve;split
  .show(if A.gives _=wf then A.ws++[_]else A.ws).length<=_;split
   .rw[Yf];erw[Xc _]
   .erw[Ur _]
  .erw[Ur _]
 .erw[Ur _]
def Hit(W:Wld)(bs:List Boat)(z:Str)(o:Option Stp)(j:Str->Int)(k:Nat)(f:Fer)(a:Boat):Prop:=W.fer[k]?=wc f/\bs[k]?=wc a/\(z=f.giver\/z=f.taker)/\hitA W.w f z o j a.A=wf
def WhatTo(W:Wld)(bs:List Boat)(z:Str)(o:Option Stp)(l:Str->Int)(j:Nat)(v:MV):Prop:=(v=Zk o/\∀k f a,k<j->¬Hit W bs z o l k f a)\/∃k f a,k<j/\Hit W bs z o l k f a/\v=Yz W.w f z o l a.A
def WhatTo.stay{W:Wld}{bs:List Boat}{z:Str}{o:Option Stp}{t:Str->Int}{j:Nat}{v:MV}(h:WhatTo W bs z o t j v)(n:∀f a,¬Hit W bs z o t j f a):WhatTo W bs z o t (j+1) v:=by
 rcases h with⟨e,h⟩|⟨k,f,a,l,h,e⟩
 .erw[.inl ⟨e,λk f a l=>?_⟩];rcases D5.mp l with l|rfl
  .erw[h k f a l]
  .erw[n f a]
 .erw[.inr ⟨k,f,a,US l,h,e⟩]
def BsTo(W:Wld)(bs l:List Boat)(z:Str)(m:Int)(c:Nat)(o:Option Stp)(u:Str->Int)(j:Nat):Prop:=∀k f a,k<j->W.fer[k]?=wc f->bs[k]?=wc a->∃t,l[k]?=wc t/\t.A=newA W.w z m c o u k f a.A
def BsTo.len{W:Wld}{bs l:List Boat}{z:Str}{m:Int}{c:Nat}{o:Option Stp}{f:Str->Int}{j:Nat}(h:BsTo W bs l z m c o f j)(u:l.length=W.fer.length)(r:bs.length=W.fer.length)(p:∀k,j<=k->l[k]?=bs[k]?){n:Nat} (w:∀y∈bs,y.A.ws.length<=n):∀y∈l,y.A.ws.length<=n+1:=λy L=>by
 have⟨k,t,rfl⟩:=YB L;by_cases e:k<j
 .have g:k<bs.length:=by rw[r,<-u];erw[t]
  have⟨P,d,N⟩:=h k _ _ e (Xb (by rw[<-u];erw[t])) (Xb g)
  rw[Xb t]at d;cases d;rw[N];erw[XA _hr (AY (w _ (XW g)))]
 .have O:=(p k (AX e)).symm.trans (Xb t);erw[Nat.le_succ_of_le (w _ (Xv O))]
def GoTo(W:Wld)(M y:MH)(r:Addr)(R t:RunS)(bs:List Boat)(i n:Nat)(j:List (Key×MV))(o:Option Stp)(v:MV):Prop:=
 (t={R with bs:=bs,m:=R.m+1}/\v=Zk o/\∀s,o=wc s->∃z,XI o z=wf)\/
 ∃s l w p d,o=wc s/\t=goR {R with bs:=bs,m:=R.m+1} i w p d/\R.dn[i]?=wc d/\UD s (rhoK j) W.w n=((w:Nat):Int)/\y p=wc (.dic (W6 s j (rhoK j) W.w l))/\(∀u,M p=wc u->p∈R.own r)/\
  ((∀z,XI o z=wg)/\v=Zk o/\l=.non\/(∃f T,s=.give f T/\v=askO o (rhoK j) W.w/\l=.non)\/∃f x m,s=.take f x/\v=.tup [.str "take",.str f,.int m]/\l=.int m)
abbrev Al:SpM:=λu M Q=>∃(r:Addr) (W:Wld) (R:RunS) (i:Nat) (I:Isl) (c n:Nat) (o:Option Stp) (a:Addr) (j:List (Key×MV)),u=[.ref r,.str I.name,.int c]/\W.Good/\RunAt M W r R (λ_=>R.m)/\W.isl[i]?=wc I/\(∀y∈R.bs,y.A.ws.length<=900)/\R.nums[i]?=wc n/\I.stps[n]?=o/\R.ws[i]?=wc a/\M a=wc (.dic j)/\
 ∀bs l t v p,RunAt t W r l (λ_=>l.m)->Kept M t r R l->M p=we->p∉l.own r->t p=wc (.lst ((ixs W I.name W.fer.length).map (smpM W R.bs I.name c)))->BsTo W R.bs bs I.name R.m c o (rhoK j) W.fer.length->WhatTo W R.bs I.name o (rhoK j) W.fer.length v->GoTo W M t r R l bs i n j o v->Q (.tup [.str I.name,.int n,v,.ref p]) t
def Pc:MonW Al:=by walk_at "m"
def _gR{w:Nat}{f:Fer}{z:Str}{o:Option Stp}{j:Str->Int}{A:Ab}(h:P9 w f o j (Yz w f z o j A))(l:hitA w f z o j A=wf):∃u,Yz w f z o j A=.tup u/\Cw w o j (.tup u):=by
 rcases h with e|⟨T,t,e⟩|⟨y,m,t,g,e⟩
 .rw[Yz,if_pos l]at e;by_cases c:f.giver=z
  .rw[if_pos c]at e;cases o with
   |none=>rw[hitA,if_pos c]at l;cases l
   |some s=>cases s<;>cases e
  .rw[if_neg c]at e;cases e
 .rw[e,t];erw[⟨_,rfl,.inr (.inl ⟨_,T,rfl,rfl⟩)⟩]
 .rw[e];erw[⟨_,rfl,.inr (.inr ⟨_,y,m,t,g,rfl⟩)⟩]
def _dG{w:Nat}{o:Option Stp}{l:Str->Int}{v:MV}(h:Cw w o l v):(∃(z:Str) (j:List MV),v=.tup (.str z::j)/\(z="done"\/z="wait")/\v=Zk o/\∀s,o=wc s->∃y,XI o y=wf)\/(∃(z:Str) (j:List MV) (s:Stp),v=.tup (.str z::j)/\¬(z="done"\/z="wait")/\¬z="take"/\o=wc s/\(((∀y,XI o y=wg)/\v=Zk o/\MV.non=.non)\/∃f T,s=.give f T/\v=askO o l w)/\∀f x,s≠.take f x)\/∃(f x:Str) (n:Nat),o=wc (.take f x)/\n<2^w/\v=.tup [.str "take",.str f,.int n]:=by
 have t:¬((("own":Str)="done")\/(("own":Str)="wait")):=by rw[_j,_j];decide
 have u:¬(("own":Str)="take"):=by rw[_j];decide
 have m:¬((("give":Str)="done")\/(("give":Str)="wait")):=by rw[_j,_j];decide
 have g:¬(("give":Str)="take"):=by rw[_j];decide
 rcases h with rfl|⟨f,T,rfl,rfl⟩|h
 .rcases o with _|s
  .erw[.inl ⟨_,_,rfl,.inl rfl,rfl,λs e=>nomatch e⟩]
  .cases s with
   |take f x=>erw[.inl ⟨_,_,rfl,.inr rfl,rfl,λs e=>⟨f,decide_eq_true rfl⟩⟩]
   |give f x=>erw[.inl ⟨_,_,rfl,.inr rfl,rfl,λs e=>⟨f,decide_eq_true rfl⟩⟩]
   |put x T=>erw[.inr (.inl ⟨_,_,_,rfl,t,u,rfl,.inl ⟨λ_=>rfl,rfl,rfl⟩,λf x e=>nomatch e⟩)]
   |jump T x=>erw[.inr (.inl ⟨_,_,_,rfl,t,u,rfl,.inl ⟨λ_=>rfl,rfl,rfl⟩,λf x e=>nomatch e⟩)]
 .erw[.inr (.inl ⟨_,_,_,rfl,m,g,rfl,.inr ⟨_,_,rfl,rfl⟩,λf x e=>nomatch e⟩)]
 .erw[.inr (.inr h)]
def Cy{z a b:Str}:inV (toV (.str z)) ([MV.str a,.str b].map toV)=decide (z=a\/z=b):=by
 have:=Cf (z:=z) (j:=[a,b])
 simpa using this
def _cm(T:Txt E):FM E 53 "Run" "ring" Al:=by
 erw[T.aB.ok T.ac T.aa 3 ["self","name","choice","steps","number","asked","what","samples","j","ferry","told"] (mC T [("island_of",Vf),("two_to",UC),("what_alone",Vc),("wish",V8),("Run_go_on",Uf),("Run_ring_ferry",UI)] [("Run_go_on",Uf),("Run_ring_ferry",UI)] [(4,"Run","go_on"),(5,"Run","ring_ferry")] [] (fc (_bj T) (fc (Cb T) (fc (_an T) (fc (_jL T) f0)))) (fMc _7I (fMc _3F nl0)) (fMc ⟨_,_,rfl,fM (_bn T)⟩ (fMc ⟨_,_,rfl,fM (_6m T)⟩ nl0)) nl0) Mc (fun vs M Q h=>?_)];erw[ee10 h λr W R i I c n o a w h=>?_];have⟨rfl,G,h,hI,hL,hn,ho,B,L,q⟩:=h;erw[⟨rfl,?_⟩];show wSs _ _ _ [wc (.ref r),wc (.str I.name),wc (.int c),we,we,we,we,we,we,we,we] M;have hi:i<W.isl.length:=(XF.mp hI).1;have im:I∈W.isl:=Xv hI;have ok:=G.io I im;have f6:=G.f6;have⟨kv0,hk0,wk⟩:=h.wa i I a hI B;obtain rfl:w=kv0:=by rw[L]at hk0;cases hk0;rfl
 have ob:=h.ob;have hpn:=h.hn;have hpw:=h.hw;have vn:=h.nml G hI hn;have vw:=h.wdl G hI B;delta Mc
 simp![ob,runO,valM]
 erw[ex3 W i I ⟨rfl,G,hI,?_⟩]
 simp![Isl.mv]
 delta Mb
 simp![ob,runO,valM,hpn,vn]
 delta Ma
 simp![ob,runO,valM,Wld.mv,hpw,vw]
 erw[ex8 _ a I.stps n W.w w (rhoK w) I.vars ⟨rfl,.inl rfl,λs hs=>P8 (ok.st s hs),h.nb i I n hI hn,G.w1,G.w2,L,wk.reads ok.nd,?_⟩];rw[_n3];rw[ho];have hE:∀s,o=wc s->ZN W.fer I.name s:=λs e=>G.en I im s (Xv (ho.trans e));have hT:∀g T,o=wc (.give g T)->0<=T.val (rhoK w) W.w/\T.val (rhoK w) W.w<2^W.w:=λg T e=>T.val_in G.w1 λy hy=>(wk.at ok.nd ((ok.st _ (Xv (ho.trans e))).2.2.2 y hy)).2;obtain⟨t,hρ⟩:∃t,rhoK w=t:=⟨_,rfl⟩;rw[hρ]at hT q ⊢;delta LZ;simp!;erw[ex3 o t W.w ⟨rfl,?_⟩];delta LY;simp!;intro p hp;have s1:=SameM.new hp (.lst []);have hp1:updM M p (.lst []) p=wc (.lst []):=Xa;have h1:=h.keep s1;have k1:Kept M (updM M p (.lst [])) r R R:=Kept.new s1;have own_some:∀b∈R.own r,∃u,M b=wc u:=λb hb=>by
  simp only[RunS.own,Xh,Um]at hb;rcases hb with rfl|rfl|rfl|rfl|⟨x,hx,hb⟩
  .erw[⟨_,ob⟩]
  .erw[⟨_,hpn⟩]
  .erw[⟨_,hpw⟩]
  .erw[⟨_,h.hs⟩]
  .have⟨j,hj,rfl⟩:=YB hx;have⟨u,e,_⟩:=(h.ba j _ _ (Xb (by rw[<-h.bl];erw[hj])) (Xb hj)).at_ b hb
   erw[⟨u,e⟩]
 have pno:p∉R.own r:=λz=>by
  have⟨u,e⟩:=own_some p z;rw[hp]at e;cases e
 generalize updM M p _=M1 at*;have ob1:=h1.ob;delta LX
 simp![ob1,runO,valM,Wld.mv,X7]
 obtain⟨J,hJ⟩:∃J:Nat->Sm->MH->Prop,∀j σ M',J j σ M'↔∃(bs:List Boat) (v:MV) (U N l:Option MV),RunAt M' W r {R with bs:=bs} (λk=>if k<j then R.m+1 else R.m)/\Kept M M' r R {R with bs:=bs}/\Cw W.w o t v/\WhatTo W R.bs I.name o t j v/\M' p=wc (.lst ((ixs W I.name j).map (smpM W R.bs I.name c)))/\p∉RunS.own {R with bs:=bs} r/\(∀k,j<=k->bs[k]?=R.bs[k]?)/\BsTo W R.bs bs I.name R.m c o t j/\
  σ=[wc (.ref r),wc (.str I.name),wc (.int c),wc (.tup (I.stps.map Stp.mv)),wc (.int n),wc (askO o t W.w),wc v,wc (.ref p),U,N,l]:=⟨_,λ_ _ _=>Yl⟩
 erw[⟨by lia,by lia,J,(hJ _ _ _).mpr (ex5 R.bs _ _ _ _ ⟨by simpa using h1,k1,.inl rfl,.inl ⟨rfl,λk f a L=>absurd L (AZ _)⟩,hp1,pno,λ_ _=>rfl,λk f a L=>absurd L (AZ _),rfl⟩),λj σ M' h=>trivial,?_,?_⟩]
 .rintro j y σ M2 hy hj;erw[ee5 ((hJ _ _ _).mp hj) λbs v U N l h=>?_];have⟨hR,hK,hv,hw,O,Y,Z,P,rfl⟩:=h;have⟨C,rfl⟩:=Ae hy;have C:j<W.fer.length:=by simpa using C
  have ej:((0:Int)+(j:Nat))=(j:Nat):=by lia
  have H:W.fer[j]?=wc W.fer[j]:=Xb C;generalize W.fer[j]=f at*;have bl1:bs.length=W.fer.length:=hR.bl;obtain⟨x,hx⟩:∃x,bs[j]?=wc x:=⟨_,Xb (by rw[bl1];erw[C])⟩
  have hx0:R.bs[j]?=wc x:=(Z j (Xc _)).symm.trans hx;have xl:=_k8 (W:=W) (z:=I.name) (j:=j);have ob2:=hR.ob;have af:atI (W.fer.map Fer.mv) (j:Int)=wc f.mv:=Y4 (by rw[Xl,H];rfl)
  rw[ej]
  suffices key:∀D:EndM,D.nx=J (j+1)->wSs ([("island_of",Vf),("two_to",UC),("what_alone",Vc),("wish",V8),("Run_go_on",Uf),("Run_ring_ferry",UI)]:List (Str×SpM)) Et D [wc (.ref r),wc (.str I.name),wc (.int c),wc (.tup (I.stps.map Stp.mv)),wc (.int n),wc (askO o t W.w),wc v,wc (.ref p),wc (.int j),N,l] M2 from key _ rfl
  intro D hD;delta Et
  simp![ob2,runO,valM,Wld.mv,af]
  delta LW
  simp![Fer.mv]
  erw[⟨rfl,rfl,?_⟩];rw[Cy];simp!;erw[XU (λcz=>?_) (λcz=>?_)]
  .delta LV
   simp![ob2,runO,valM]
   have e8:(8:Int)*(j:Int)=((8*j:Nat):Int):=by lia
   rw[e8];erw[⟨8*j,rfl,by lia,?_⟩]
   simp!;have hc2:(c:Int)/2^(8*j)=((c/2^(8*j):Nat):Int):=by rw[Da,Wy];rfl
   rw[hc2];erw[⟨⟨Af _,Int.lt_of_le_of_lt (NO (by lia)) (by decide)⟩,?_⟩]
   erw[ex11 r W ({R with bs:=bs}) _ j f I.name _ o t x ⟨rfl,G,hR,by simp,H,cz,hE,hT,λy hy=>XA (P.len bl1 h.bl Z hL y hy) (by decide),hx,λy M3 a3 a4 eA a5=>?_⟩]
   have a3:RunAt M3 W r {R with bs:=bs.set j y} (λi=>if i=j then R.m+1 else if i<j then R.m+1 else R.m):=a3;have a4:Kept M2 M3 r {R with bs:=bs} {R with bs:=bs.set j y}:=a4;have hp3:=a4.fr _ _ O Y;have pno2:p∉RunS.own {R with bs:=bs.set j y} r:=λz=>by
    rcases a4.nw p z with y|y
    .erw[Y y]
    .rw[O]at y;cases y
   have a3':RunAt M3 W r {R with bs:=bs.set j y} (λk=>if k<j+1 then R.m+1 else R.m):=a3.le λk=>by
    by_cases e1:k=j
    .subst e1;rw[if_pos rfl,if_pos (Wu _)];erw[ZF _]
    .rw[if_neg e1];by_cases X:k<j
     .rw[if_pos X,if_pos (by lia)];erw[ZF _]
     .rw[if_neg X,if_neg (by lia)];erw[ZF _]
   have k3:=hK.trans a4;delta LU
   simp![Fer.mv,hp3]
   erw[⟨⟨_,rfl⟩,by rw[X7];lia,?_⟩]
   have es:(ixs W I.name j).map (smpM W R.bs I.name c)++[.tup [.str f.name,.int (smpA f I.name (c/2^(8*j)) x.A:Nat)]]=(ixs W I.name (j+1)).map (smpM W R.bs I.name c):=by rw[_k7 H cz,XX,<-_j3 H hx0];rfl
   rw[es];have r4:=a3'.off hp3 pno2 (.lst ((ixs W I.name (j+1)).map (smpM W R.bs I.name c)));have p4:updM M3 p (.lst ((ixs W I.name (j+1)).map (smpM W R.bs I.name c))) p=wc (.lst ((ixs W I.name (j+1)).map (smpM W R.bs I.name c))):=Xa;have k4:Kept M (updM M3 p (.lst ((ixs W I.name (j+1)).map (smpM W R.bs I.name c)))) r R {R with bs:=bs.set j y}:=⟨λb u e hb=>(X9 (neM e hp)).trans (k3.fr b u e hb),k3.nw⟩;generalize updM M3 p _=A at*;have bs4:∀k,j+1<=k->(bs.set j y)[k]?=R.bs[k]?:=λk L=>(Uk (by lia)).trans (Z k (by lia))
   have to4:BsTo W R.bs (bs.set j y) I.name R.m c o t (j+1):=λk g a L F B=>by
    rcases D5.mp L with L|rfl
    .have⟨a',h1,h2⟩:=P k g a L F B;erw[⟨a',(Uk (by lia)).trans h1,h2⟩]
    .rw[H]at F;cases F;rw[hx0]at B;cases B;erw[⟨y,by rw[CG (by rw[bl1];erw[C])],by rw[eA,newA,if_pos cz]⟩]
   have fin:∀v3 w8 w9 w10,Cw W.w o t v3->WhatTo W R.bs I.name o t (j+1) v3->J (j+1) [wc (.ref r),wc (.str I.name),wc (.int c),wc (.tup (I.stps.map Stp.mv)),wc (.int n),wc (askO o t W.w),wc v3,wc (.ref p),w8,w9,w10] A:=λv3 w8 w9 w10 hv3 hw3=>(hJ _ _ _).mpr (ex5 _ v3 w8 w9 w10 ⟨r4,k4,hv3,hw3,p4,pno2,bs4,to4,rfl⟩);delta LS;by_cases hh:hitA W.w f I.name o t x.A=wf
   .have wt:WhatTo W R.bs I.name o t (j+1) (Yz W.w f I.name o t x.A):=.inr ⟨j,f,x,Wu _,⟨H,hx0,cz,hh⟩,rfl⟩;have⟨us,et,wi⟩:=_gR a5 hh;rw[et]at wt ⊢;simp!;delta LR;simp!;rw[hD];erw[fin _ _ _ _ wi wt]
   .have et:Yz W.w f I.name o t x.A=.non:=if_neg hh;rw[et];simp!;rw[hD];erw[fin _ _ _ _ hv (hw.stay λg a F=>hh (by
     have⟨z1,z2,_,z4⟩:=F;rw[H]at z1;cases z1;rw[hx0]at z2;cases z2;erw[z4]))]
  .rw[hD];erw[(hJ _ _ _).mpr (ex5 bs v _ _ _ ⟨hR.le λk=>?_,hK,hv,hw.stay λg a F=>cz (by
     have⟨z1,_,z3,_⟩:=F;rw[H]at z1;cases z1;erw[z3]),by rw[_mD H cz];erw[O],Y,λk L=>Z k (by lia),λk g a L F B=>?_,rfl⟩)]
   .show(if k<j then R.m+1 else R.m)<=(if k<j+1 then R.m+1 else R.m);by_cases X:k<j
    .rw[if_pos X,if_pos (by lia)];erw[ZF _]
    .rw[if_neg X];by_cases e3:k<j+1
     .rw[if_pos e3];lia
     .rw[if_neg e3];erw[ZF _]
   .rcases D5.mp L with L|rfl
    .erw[P k g a L F B]
    .rw[H]at F;cases F;erw[⟨a,(Z k (Xc _)).trans B,by rw[newA,if_neg cz]⟩]
 .rintro σ M2 hj;erw[ee5 ((hJ _ _ _).mp hj) λbs v U N l h=>?_];have⟨hR,hK,hv,hw,O,Y,Z,P,rfl⟩:=h;have hw:WhatTo W R.bs I.name o t W.fer.length v:=hw;have P:BsTo W R.bs bs I.name R.m c o t W.fer.length:=P;have O:M2 p=wc (.lst ((ixs W I.name W.fer.length).map (smpM W R.bs I.name c))):=O;have ob2:=hR.ob;have⟨t1,t2⟩:=hR.tick (t:=λ_=>R.m+1) (λk L=>by show(if _ then _ else _)<=_;split<;>lia) (R.m+1)
  have k2:=hK.trans t2;have pr:p≠r:=λz=>Y (by rw[z];erw[XZ ..])
  delta LQ
  simp![ob2,runO,valM,putM]
  have eo:updM M2 r (runO W {R with bs:=bs,m:=R.m+1})=updM M2 r (.ins "Run" [("world",W.mv),("moment",.int (R.m+1)),("next_numbers",.ref R.pn),("words_now",.ref R.pw),("steps_so_far",.ref R.ps),("boats",.ref R.pb),("given_so_far",.ref R.pg),("taken_so_far",.ref R.pt)]):=rfl;have px:updM M2 r (runO W {R with bs:=bs,m:=R.m+1}) p=_:=(X9 pr).trans O;rw[eo]at t1 k2 px;have S:p∉RunS.own {R with bs:=bs,m:=R.m+1} r:=Y;generalize updM M2 r _=M3 at*;have ret:∀(R3:RunS)(A:MH)(D:EndM),D.rt=Q->RunAt A W r R3 (fun _=>R3.m)->Kept M A r R R3->GoTo W M A r R R3 bs i n w o v->p∉R3.own r->A p=wc (.lst ((ixs W I.name W.fer.length).map (smpM W R.bs I.name c)))->∀U N l,wSs ([("island_of",Vf),("two_to",UC),("what_alone",Vc),("wish",V8),("Run_go_on",Uf),("Run_ring_ferry",UI)]:List (Str×SpM)) Ad D [wc (.ref r),wc (.str I.name),wc (.int c),wc (.tup (I.stps.map Stp.mv)),wc (.int n),wc (askO o t W.w),wc v,wc (.ref p),U,N,l] A:=by
   intro R3 A D hD a1 a2 a3 a5 a6 U N l;delta Ad;simp!;rw[hD];erw[q bs R3 A _ p a1 a2 hp a5 a6 P hw a3]
  have stay:v=Zk o->(∀s,o=wc s->∃z,XI o z=wf)->∀D:EndM,D.rt=Q->∀U N l,wSs ([("island_of",Vf),("two_to",UC),("what_alone",Vc),("wish",V8),("Run_go_on",Uf),("Run_ring_ferry",UI)]:List (Str×SpM)) Ad D [wc (.ref r),wc (.str I.name),wc (.int c),wc (.tup (I.stps.map Stp.mv)),wc (.int n),wc (askO o t W.w),wc v,wc (.ref p),U,N,l] M3:=fun e1 X D hD=>ret {R with bs:=bs,m:=R.m+1} M3 D hD t1 k2 (.inl ⟨rfl,e1,X⟩) S px;have ob3:=t1.ob;have hk3:=k2.fr _ _ L (h.ws_off hI B);have go:∀(s:Stp)(wd:MV),o=wc s->(∀f x,s=.take f x->∃v:Int,wd=.int v/\0<=v/\v<2^W.w)->((∀z,XI o z=wg)/\v=Zk o/\wd=.non\/(∃f T,s=.give f T/\v=askO o (rhoK w) W.w/\wd=.non)\/∃f x m,s=.take f x/\v=.tup [.str "take",.str f,.int m]/\wd=.int m)->∀U N l,Uf [.ref r,.str I.name,.tup (I.stps.map Stp.mv),wd] M3 (fun _ A=>wSs ([("island_of",Vf),("two_to",UC),("what_alone",Vc),("wish",V8),("Run_go_on",Uf),("Run_ring_ferry",UI)]:List (Str×SpM)) Ad {nx:=fun _ M'=>Q .non M',rt:=Q} [wc (.ref r),wc (.str I.name),wc (.int c),wc (.tup (I.stps.map Stp.mv)),wc (.int n),wc (askO o t W.w),wc v,wc (.ref p),U,N,l] A):=fun s wd es hw hd U N l=>
   ⟨r,W,{R with bs:=bs,m:=R.m+1},_,i,n,I,s,wd,a,w,rfl,G,t1,hI,hn,ho.trans es,hw,B,hk3,λn' p' d A e1 X e3 e4 a1 a2=>ret _ A _ rfl (a1.le λ_=>ZF _) (k2.trans a2) (.inr ⟨s,wd,n',p',d,es,rfl,e1,X,e4,(λu e=>Decidable.byContradiction λz=>by rw[k2.fr _ _ e z]at e3;cases e3),hd⟩) (λz=>(a2.nw p z).elim S λy=>by rw[px]at y;cases y) (a2.fr _ _ px S) U N l⟩
  delta LP;rcases _dG hv with⟨z,us,rfl,hz,hw1,hw2⟩|⟨z,us,s,rfl,hz,hz2,es,hs⟩|⟨f,y,m,es,hm,rfl⟩
  .simp!;erw[⟨rfl,rfl,?_⟩];rw[Cy,decide_eq_true hz]
   try walk_at "s"
   erw[stay hw1 hw2 _ rfl _ _ _]
  .have this:=go s .non es (λf x e=>absurd e (hs.2 f x)) (hs.1.imp_right fun⟨f,T,e1,X⟩=>.inl ⟨f,T,e1,by rw[hρ];erw[X],rfl⟩) U N l
   simp!;erw[⟨rfl,rfl,?_⟩];rw[Cy,decide_eq_false hz]
   try walk_at "s"
   delta Es
   simp![ob3,runO,valM,hz2]
   erw[this]
  .have this:=go _ (.int (m:Int)) es (λf x e=>⟨_,rfl,by lia,by
    have e:((2:Int)^W.w)=((2^W.w:Nat):Int):=by rw[Wy];rfl
    lia⟩) (.inr (.inr ⟨f,y,m,rfl,rfl,rfl⟩)) U N l
   simp!;erw[⟨rfl,rfl,?_⟩];rw[Cy];simp!;delta Es
   simp![ob3,runO,valM]
   erw[this]
noncomputable def RunS.all(R:RunS)(r:Addr):List Addr:=R.own r++R.pb::R.pg::R.pt::R.ws
def Pd{w:Nat}{I:Isl}(l:I.vars.Nodup)(t:∀p∈I.prs,0<=p.2/\p.2<2^w):Ua (I.prs.map λp=>((Xo p.1:Key),MV.int p.2))=zipK I.vars ((I.prs.map (·.2)).map MV.int)/\WdOk w I (zipK I.vars ((I.prs.map (·.2)).map MV.int)):=by
 have e:∀j:List (Str×Int),(j.map λp=>((Xo p.1:Key),MV.int p.2))=zipK (j.map (·.1)) ((j.map (·.2)).map MV.int):=λj=>by
  induction j with
  |nil=>rfl
  |cons p r u=>rw[Xy,u];rfl
 erw[⟨by rw[e];erw[P7 (by simp) l],I.prs.map (·.2),by unfold Isl.vars;simp,rfl,λv y=>?_⟩]
 have⟨p,z,rfl⟩:=XR.mp y;erw[t p z]
def _m0(j:List (Str×Int)):j.map prV=(j.map λp=>((Xo p.1:Key),MV.int p.2)).map prM:=by rw[Y5];rfl
theorem Pe:∀{j:List Str} {l:List MV} {k:Str} {v:MV},l.length=j.length->zipK (j++[k]) (l++[v])=zipK j l++[(Xo k,v)]
 |[],[],_,_,_=>rfl
 |[],_::_,_,_,h=>by cases h
 |_::_,[],_,_,h=>by cases h
 |k::j,v::l,_,_,h=>congrArg _ (Pe (by simpa using h))
structure Fd where
 own:Str
 F:Str
 n:Int
 E:IE
 ks:List Str
 its:List MV
 val:List Addr->MV
 C:Nat->List Addr->MH->Prop
structure Fd.Ok (Φ:List (Str×SpM))(v:MV)(d:Fd):Prop where
 src:∀M (Q:QM),Q (.tup d.its) M->wIx v (.int d.n) M Q
 len:d.its.length<sizeLine
 kl:d.ks.length=d.its.length
 nd:d.ks.Nodup
 it:∀(j:Nat)x,d.its[j]?=wc x->∃k l,d.ks[j]?=wc k/\x=.tup (.str k::l)/\∀M,wE Φ d.E [wc x] M λy M2=>SameM M M2/\∃N,y=d.val N/\N.Nodup/\(∀a∈N,M a=we/\∃o,M2 a=wc o)/\d.C j N M2
 fr:∀(j:Nat)N M2 M3,(∀a∈N,M3 a=M2 a)->d.C j N M2->d.C j N M3
structure Got (d:Fd)(p:Addr)(Ns:List (List Addr))(M:MH):Prop where
 di:M p=wc (.dic (zipK d.ks (Ns.map d.val)))
 l:Ns.length=d.its.length
 c:∀(j:Nat)N,Ns[j]?=wc N->d.C j N M
noncomputable def fldS(d:Fd):IS:=.fset "Run" (.var 0) d.F (.bi .dictL (.comp [d.own] [] (.seq (.ix (.var 1) (.int d.n))) (.nm 0) .none (.tup (.cons (.ix (.var 0) (.int 0)) (.cons d.E .nil)))) .nil)
def fld{W:List (Str×SpM)}(Y:∀(j:Nat)f J,W[j]?=wc (f,J)->MonW J){r:Addr} {v:MV} {d:Fd} {fs:List (Str×MV)} {D:EndM} {M:MH} (ok:d.Ok W v)(Z:M r=wc (.ins "Run" fs))(A:fs.length<1000)
  (q:∀p t R,FrM M R [r]->R r=wc (.ins "Run" (putM fs d.F (.ref p)))->Got d p t R->(p::t.flatten).Nodup->(∀a∈p::t.flatten,M a=we/\∃o,R a=wc o)->D.nx [wc (.ref r),wc v] R):wS W (fldS d) D [wc (.ref r),wc v] M:=by
 unfold fldS;simp!;rw[BV];simp!;erw[ok.src _ _ ?_];simp!;erw[⟨ok.len,λD Q=>⟨λi T M2=>SameM M M2/\M2 D=wc (.lst T)/\∃t:List (List Addr),t.length=i/\i<=d.its.length/\T=(zipK (d.ks.take i) (t.map d.val)).map prM/\t.flatten.Nodup/\(∀a∈t.flatten,M a=we/\a≠D/\∃o,M2 a=wc o)/\∀(j:Nat)N,t[j]?=wc N->d.C j N M2,?_,?_,?_,?_⟩⟩]
 .erw[⟨SameM.new Q _,Xa,[],rfl,YQ _,rfl,AJ,λ_ h=>(XM h).elim,λ_ _ h=>by cases h⟩]
 .rintro i T M2 ⟨_,c,t,rfl,_,rfl,_⟩;erw[⟨c,by rw[X7,Cu (by rw[X7,Ys];have:=ok.kl;lia),Ys];lia,trivial⟩]
 .rintro i x T M2 S ⟨L,c,t,rfl,X,rfl,B,O,C⟩;have⟨k,l,hk,rfl,he⟩:=ok.it _ _ S;simp only[sCm,Xy,YD,YC,Yj];simp!;erw[X6 Y d.E (λy F h'=>?_) (he M2)];have⟨U,N,e,m1,G,m3⟩:=h';subst e;have I:∀a∈N,a≠D:=λa u=>(neM c (G a u).1).symm;have X:t.length<d.its.length:=(XF.mp S).1;have keep:∀y a,a≠D->updM F D y a=F a:=λ_ a z=>X9 z;have H:(t++[N]).flatten=t.flatten++N:=by simp
  erw[⟨U _ _ c,λa o z=>by rw[X9 (neM z Q)];erw[U _ _ (L _ _ z)],t++[N],by simp,X,?_,?_,?_,?_⟩]
  .rw[ZX,hk,XX];show _=(zipK (_++[k]) (_++[d.val N])).map prM;rw[Pe (by rw[X7,Ys];have:=ok.kl;lia),XX]
   rfl
  .rw[H,YO];erw[⟨B,m1,λa u b hb z=>?_⟩];have⟨_,_,o,ho⟩:=O _ u;rw[z,(G _ hb).1]at ho;cases ho
  .rw[H];intro a u;rcases Ya.mp u with u|u
   .have⟨g,w,o,z3⟩:=O _ u;erw[⟨g,w,o,(keep _ a w).trans (U _ _ z3)⟩]
   .have⟨g,o,w⟩:=G _ u;erw[⟨L.free g,I a u,o,(keep _ a (I a u)).trans w⟩]
  .intro j N' m;by_cases hj:j<t.length
   .rw[ZV hj]at m;erw[ok.fr _ _ M2 _ (λa u=>?_) (C j N' m)];have⟨_,g,o,w⟩:=O a (Vo.mpr ⟨N',Xv m,u⟩);rw[keep _ a g,w];erw[U _ _ w]
   .have A:=(XF.mp m).1;rw[Yf,CH]at A;obtain rfl:j=t.length:=by lia
    rw[ZU (Xc _),Nat.sub_self]at m;cases m;erw[ok.fr _ _ F _ (λa u=>keep _ a (I a u)) m3]
 .rintro T M2 ⟨L,c,t,m,_,rfl,B,O,C⟩;have m:t.length=d.its.length:=m;have et:d.ks.take (Src.tup d.its).len=d.ks:=UO (Uq ok.kl);rw[et]at c;erw[⟨_,c,λp P=>⟨fs,SameM.new P _ _ _ (L _ _ Z),A,?_⟩⟩];have pr:p≠r:=(neM (L _ _ Z) P).symm;rw[P7 (by rw[X7,m,ok.kl]) ok.nd]
  have di:updM (updM M2 p (.dic (zipK d.ks (t.map d.val)))) r (.ins "Run" (putM fs d.F (.ref p))) p=wc (.dic (zipK d.ks (t.map d.val))):=(X9 pr).trans Xa;have keep:∀a∈t.flatten,updM (updM M2 p (.dic (zipK d.ks (t.map d.val)))) r (.ins "Run" (putM fs d.F (.ref p))) a=M2 a:=fun a u=>by
   have⟨g,_,o,w⟩:=O a u;erw[(X9 (neM Z g).symm).trans (X9 (neM w P))]
  erw[q p t _ (λa o e n=>(X9 (by simpa using n)).trans (SameM.new P _ _ _ (L _ _ e))) Xa ⟨di,m,λj N h=>ok.fr _ _ M2 _ (λa u=>keep a (Vo.mpr ⟨N,Xv h,u⟩)) (C j N h)⟩ (Yi.mpr ⟨λz=>?_,B⟩) (Az.mpr ⟨⟨L.free P,_,di⟩,λa u=>?_⟩)]
  .have⟨_,_,o,z⟩:=O p z;rw[P]at z;cases z
  .have⟨g,_,o,w⟩:=O a u;erw[⟨g,o,(keep a u).trans w⟩]
def mkF:List Fd->ISs
 |[]=>.nil
 |d::ds=>.cons (fldS d) (mkF ds)
def Cz:List Fd->(List (Str×MV)->List Addr->(MH->Prop)->Prop)->Prop
 |[],k=>k [] [] λ_=>True
 |d::ds,k=>∀p j,Cz ds λfs A P=>k ((d.F,.ref p)::fs) (p::j.flatten++A) λM=>Got d p j M/\P M
theorem Pf:∀{j:List Fd} {k l:List (Str×MV)->List Addr->(MH->Prop)->Prop},(∀fs A P,k fs A P->l fs A P)->Cz j k->Cz j l
 |[],_,_,h,c=>h _ _ _ c
 |_::_,_,_,h,c=>λp t=>Pf (λ_ _ _ z=>h _ _ _ z) (c p t)
theorem flds{L:List (Str×SpM)}(y:∀(j:Nat)f R,L[j]?=wc (f,R)->MonW R){r:Addr} {v:MV} {D:EndM}:∀(t:List Fd){fs:List (Str×MV)} {M:MH},(∀d∈t,d.Ok L v)->M r=wc (.ins "Run" fs)->(fs.map (·.1)++t.map Fd.F).Nodup->fs.length+t.length<1000->
  Cz t (fun m A P=>∀u,FrM M u [r]->u r=wc (.ins "Run" (fs++m))->A.Nodup->(∀a∈A,M a=we)->P u->D.nx [wc (.ref r),wc v] u)->wSs L (mkF t) D [wc (.ref r),wc v] M
 |[],fs,M,_,hr,_,_,h=>h M (FrM.refl _ _) (by rw[Ze];erw[hr]) AJ (λ_ h=>(XM h).elim) trivial
 |d::t,fs,M,ok,hr,n2,T,h=>by
  rw[mkF,IV];have T:fs.length+(t.length+1)<1000:=T;erw[fld y (ok d (XZ ..)) hr (by lia) λp U M1 fr r1 w Z new=>?_]
  have B:putM fs d.F (.ref p)=fs++[(d.F,.ref p)]:=P6 λq C z=>(YO.mp n2).2.2 _ (XR.mpr ⟨q,C,rfl⟩) _ (XZ ..) z;rw[B]at r1;erw[flds y t (λd hd=>ok d (XD _ hd)) r1 (by simpa using n2) (by rw[Yf];show _+1+_<_;lia) (Pf (λm A P k u g F G O I=>?_) (h p U))]
  have st:∀a∈p::U.flatten,u a=M1 a:=λa l=>by
   have⟨W,o,c⟩:=new a l;rw[c];erw[g _ _ c (λz=>by rw[Y9.mp z,hr]at W;cases W)]
  erw[k u (fr.trans g) (by rw[F,UP];rfl) (YO.mpr ⟨Z,G,λa l b J z=>?_⟩) (λa l=>?_) ⟨⟨(st p (XZ ..)).trans w.di,w.l,λj N Y=>(ok d (XZ ..)).fr _ _ _ _ (λa l=>st a (XD _ (Vo.mpr ⟨N,Xv Y,l⟩))) (w.c j N Y)⟩,I⟩]
  .have⟨_,o,c⟩:=new a l;rw[z,O b J]at c;cases c
  .rcases Ya.mp l with l|l
   .erw[(new a l).1]
   .cases e:M a with
    |none=>rfl
    |some o=>
     have:=fr a o e (λz=>?_)
     .rw[O a l]at this;cases this
     .rw[Y9.mp z]at l;rw[O r l]at r1;cases r1
def abOf(W:Wld)(j:Nat):Ab:=match W.fer[j]? with
 |wc f=>ab0 f.k f.st
 |we=>ab0 0 1
noncomputable abbrev hd(N:List Addr):Addr:=N.getD 0 default
def Ug(W:Wld)(l t u:List (List Addr))(j:Nat):Boat:=⟨hd (l.getD j []),(l.getD j []).getD 1 default,(l.getD j []).getD 2 default,(l.getD j []).getD 3 default,hd (t.getD j []),hd (u.getD j []),abOf W j⟩
def Hc{α β:Type}{d:α}{f:α->β}{L:List α}{n:Nat}(h:L.length=n):(Xr n).map (λj=>f (L.getD j d))=L.map f:=by
 apply AE;intro i;rw[Xl,Xl];by_cases hi:i<n
 .rw[Wl hi,Xb (by rw[h];erw[hi]),Bg,Bg,YK,Xb (by rw[h];erw[hi])];rfl
 .rw[Zb (by rw[ZW];lia),Zb (by lia)];rfl
theorem Pg:∀{L:List (List Addr)},(∀(j:Nat)N,L[j]?=wc N->∃p,N=[p])->L.flatten=L.map hd
 |[],_=>rfl
 |N::L,h=>by
  have⟨p,rfl⟩:=h 0 N rfl;rw[Zo,Pg λj N z=>h (j+1) N (by simpa using z)];rfl
theorem CA:∀{L:List (List Addr)} {i j:Nat} {x y:List Addr},L.flatten.Nodup->L[i]?=wc x->L[j]?=wc y->i≠j->∀a∈x,a∉y
 |[],_,_,_,_,_,h,_,_=>by simp at h
 |l::L,0,0,_,_,_,_,_,ne=>absurd rfl ne
 |l::L,0,j+1,x,y,nd,h1,h2,_=>λa t u=>by
  rw[Zo,YO]at nd;obtain rfl:l=x:=by simpa using h1
  erw[nd.2.2 a t a (Vo.mpr ⟨y,Xv (by simpa using h2),u⟩) rfl]
 |l::L,i+1,0,x,y,nd,h1,h2,_=>λa t u=>by
  rw[Zo,YO]at nd;obtain rfl:l=y:=by simpa using h2
  erw[nd.2.2 a u a (Vo.mpr ⟨x,Xv (by simpa using h1),t⟩) rfl]
 |l::L,i+1,j+1,x,y,nd,h1,h2,ne=>by
  rw[Zo,YO]at nd;erw[CA nd.2.1 (by simpa using h1) (by simpa using h2) (λe=>ne (by rw[e]))]
def dNum(W:Wld)(F:Str):Fd:=⟨"island",F,1,.int 0,W.ins,W.isl.map Isl.mv,fun _=>.int 0,fun _ N _=>N=[]⟩
def dWds(W:Wld):Fd:=⟨"island","words_now",1,.bi .dict (.ix (.var 0) (.int 1)) .nil,W.ins,W.isl.map Isl.mv,fun N=>.ref (hd N),fun j N M=>∃p,N=[p]/\∀I,W.isl[j]?=wc I->M p=wc (.dic (zipK I.vars ((I.prs.map (·.2)).map MV.int)))⟩
def dBts(W:Wld):Fd:=⟨"ferry","boats",2,.make 0 "Ferry" (.ix (.var 0) (.int 3)) (.cons (.ix (.var 0) (.int 4)) .nil),W.fns,W.fer.map Fer.mv,fun N=>.ref (hd N),fun j N M=>∃b p g u,N=[b,p,g,u]/\∀f,W.fer[j]?=wc f->FyAt M b p g u (ab0 f.k f.st)⟩
def dLst(W:Wld)(F:Str):Fd:=⟨"ferry",F,2,.lst .nil,W.fns,W.fer.map Fer.mv,fun N=>.ref (hd N),fun _ N M=>∃p,N=[p]/\M p=wc (.lst [])⟩
abbrev Am:SpM:=fun t M Q=>∃(r:Addr) (W:Wld),t=[.ref r,W.mv]/\M r=wc (.ins "Run" [])/\W.Good/\∀R l,FrM M l [r]->RunAt l W r R (fun _=>R.m)->R.m=0->(∀(j:Nat)f y,W.fer[j]?=wc f->R.bs[j]?=wc y->y.A=ab0 f.k f.st)->(∀a∈R.all r,a=r\/M a=we)->R.nums=(W.isl.map fun _=>0)->R.dn=(W.isl.map fun _=>0)->(∀(i:Nat)I a,W.isl[i]?=wc I->R.ws[i]?=wc a->l a=wc (.dic (zipK I.vars ((I.prs.map (·.2)).map MV.int))))->Q .non l
def Ph:MonW Am:=by walk_at "m"
def _8h(T:Txt E):FI E 6 "Run" Am:=by
 erw[T.aO.oi T.ac T.aa T.g 2 ["self","world"] (mC T [("Ferry___init__",Ue)] [("Ferry___init__",Ue)] [] [(0,"Ferry")] f0 (fMc OR nl0) nl0 (fMc ⟨_,_,rfl,fI (_6n T)⟩ nl0)) LO (fun vs M Q h=>?_)];have⟨r,W,rfl,hr,G,q⟩:=h;erw[⟨rfl,?_⟩];show wSs _ _ _ [wc (.ref r),wc W.mv] M;have hΦ:=(UB (t:=[("Ferry___init__",Ue)]) (fMc OR nl0));have i5:=G.i5;have f6:=G.f6;have sI:∀M (Q:QM),Q (.tup (W.isl.map Isl.mv)) M->wIx W.mv (.int 1) M Q:=λM Q h=>by
  simp![Wld.mv]
  erw[h]
 have sF:∀M (Q:QM),Q (.tup (W.fer.map Fer.mv)) M->wIx W.mv (.int 2) M Q:=λM Q h=>by
  simp![Wld.mv]
  erw[h]
 have lI:(W.isl.map Isl.mv).length<sizeLine:=by rw[X7];unfold sizeLine;lia
 have lF:(W.fer.map Fer.mv).length<sizeLine:=by rw[X7];unfold sizeLine;lia
 have kI:W.ins.length=(W.isl.map Isl.mv).length:=by rw[Vd,X7]
 have kF:W.fns.length=(W.fer.map Fer.mv).length:=by rw[Cv,X7]
 have atI:∀{j:Nat} {x},(W.isl.map Isl.mv)[j]?=wc x->∃I,W.isl[j]?=wc I/\W.ins[j]?=wc I.name/\x=I.mv:=λl=>by
  rw[Xl]at l;have⟨I,U,rfl⟩:=UZ.mp l;erw[⟨I,U,_Q U,rfl⟩]
 have atF:∀{j:Nat} {x},(W.fer.map Fer.mv)[j]?=wc x->∃f,W.fer[j]?=wc f/\W.fns[j]?=wc f.name/\x=f.mv:=λl=>by
  rw[Xl]at l;have⟨f,Y,rfl⟩:=UZ.mp l;erw[⟨f,Y,Wc Y,rfl⟩]
 have oN:∀F,(dNum W F).Ok ([("Ferry___init__",Ue)]:List (Str×SpM)) W.mv:=fun F=>⟨sI,lI,kI,G.in_nd,fun j x l=>by
  have⟨I,U,Z,rfl⟩:=atI l;erw[⟨_,_,Z,rfl,λM=>⟨SameM.refl _,[],rfl,AJ,⟨λ_ h=>(XM h).elim,rfl⟩⟩⟩],λ_ _ _ _ _ h=>h⟩
 have oL:∀F,(dLst W F).Ok ([("Ferry___init__",Ue)]:List (Str×SpM)) W.mv:=fun F=>⟨sF,lF,kF,G.fn_nd,fun j x l=>by
  have⟨f,Y,Z,rfl⟩:=atF l;erw[⟨_,_,Z,rfl,λM=>?_⟩];unfold dLst;simp!;erw[λp v=>⟨SameM.new v _,[p],rfl,by simp,by simp[v,Xa],p,rfl,Xa⟩],λj N M2 M3 Z h'=>by have⟨p,e,h⟩:=h';erw[⟨p,e,(Z p (by simp[e])).trans h⟩]⟩
 have oW:(dWds W).Ok ([("Ferry___init__",Ue)]:List (Str×SpM)) W.mv:=⟨sI,lI,kI,G.in_nd,fun j x l=>by
  have⟨I,U,Z,rfl⟩:=atI l;erw[⟨_,_,Z,rfl,λM=>?_⟩];unfold dWds
  simp![Isl.mv]
  erw[⟨_,_m0 I.prs,λp v=>?_⟩];have ok:=G.io I (Xv U);rw[(Pd (w:=W.w) ok.nd ok.wd).1];erw[⟨SameM.new v _,[p],rfl,by simp,by simp[v,Xa],p,rfl,λJ hJ=>by rw[U]at hJ;cases hJ;erw[Xa]⟩],λj N M2 M3 Z h'=>by have⟨p,e,h⟩:=h';erw[⟨p,e,λI U=>(Z p (by simp[e])).trans (h I U)⟩]⟩
 have oB:(dBts W).Ok ([("Ferry___init__",Ue)]:List (Str×SpM)) W.mv:=⟨sF,lF,kF,G.fn_nd,fun j x l=>by
  have⟨f,Y,Z,rfl⟩:=atF l;erw[⟨_,_,Z,rfl,λM=>?_⟩];have fo:=G.fo f (Xv Y);unfold dBts
  simp![Fer.mv]
  intro b A;erw[ex3 b f.k f.st ⟨rfl,Xa,by have:=fo.k3;lia,fo.s1,fo.s3,λp g u M3 v S hu fr O=>?_⟩]
  have ne:∀z,updM M b (.ins "Ferry" []) z=we->z≠b/\M z=we:=fun z hz=>by
   have n:z≠b:=(neM Xa hz).symm;erw[⟨n,by rw[X9 n]at hz;erw[hz]⟩]
  have⟨pl,X,_⟩:=O.pls;have sm:SameM M M3:=λa o ea=>by
   have n:a≠b:=neM ea A;erw[fr a o ((X9 n).trans ea) (by simpa using n)]
  try walk_at "s"
  erw[⟨sm,[b,p,g,u],rfl,?_,?_,b,p,g,u,rfl,λf' hf'=>by rw[Y]at hf';cases hf';erw[O]⟩]
  .simp only[Yi,Xh,XM,or_false,not_or,not_false_eq_true,AJ,and_true];erw[⟨⟨(ne p v).1.symm,(ne g S).1.symm,(ne u hu).1.symm⟩,⟨YH X O.gi (by intro z;cases z),YH X O.ta (by intro z;cases z)⟩,O.ne⟩]
  .simp only[Az];erw[⟨⟨A,_,O.fe⟩,⟨(ne _ v).2,_,X⟩,⟨(ne _ S).2,_,O.gi⟩,⟨(ne _ hu).2,_,O.ta⟩,λ_ h=>by cases h⟩],λj N M2 M3 Z ⟨b,p,g,u,e,h⟩=>by
  subst e;erw[⟨b,p,g,u,rfl,λf Y=>?_⟩];have O:=h f Y;have⟨pl,v,X⟩:=O.pls;erw[⟨O.ok,(Z b (by simp)).trans O.fe,⟨pl,(Z p (by simp)).trans v,X⟩,(Z g (by simp)).trans O.gi,(Z u (by simp)).trans O.ta,O.ne⟩]⟩
 delta LO
 simp![hr,putM]
 delta LN
 simp![Xa,putM]
 show wSs _ (mkF [dNum W "next_numbers",dWds W,dNum W "steps_so_far",dBts W,dLst W "given_so_far",dLst W "taken_so_far"]) _ _ _;erw[flds hΦ _ ?_ Xa ?_ (show 8<1000 by decide) ?_]
 .simp only[Az];erw[⟨oN _,oW,oN _,oB,oL _,oL _,λ_ h=>by cases h⟩]
 .show(["world","moment","next_numbers","words_now","steps_so_far","boats","given_so_far","taken_so_far"]:List Str).Nodup;decide
 rintro pn nn pw nw ps ns pb B pg C pt D M' fr r' nd new ⟨g1,g2,g3,g4,g5,g6,_⟩;have e0:∀L:List (List Addr),L.length=(W.isl.map Isl.mv).length->L.map (λ_=>MV.int 0)=(W.isl.map λ_=>0).map natM:=λL h=>by
  rw[Y5];show _=W.isl.map (λ_=>MV.int 0);rw[List.map_const',List.map_const',h,X7]
 have P:∀{L:List (List Addr)} {j:Nat} {N} {a:Addr},L[j]?=wc N->a∈N->a∈L.flatten:=λh R=>Vo.mpr ⟨_,Xv h,R⟩;have bl:B.length=W.fer.length:=g4.l.trans (X7 ..);have gl:C.length=W.fer.length:=g5.l.trans (X7 ..);have tl:D.length=W.fer.length:=g6.l.trans (X7 ..);have wl:nw.length=W.isl.length:=g2.l.trans (X7 ..);have back:∀{a x y},updM (updM M r x) r y a=we->M a=we:=fun{a x y} h=>by
  by_cases z:a=r
  .rw[z,Xa]at h;cases h
  .rwa [X9 z,X9 z]at h
 replace new:=λa R=>back (new a R);have e2:nw.flatten=nw.map hd:=Pg λj N h=>by
  have⟨p,e,_⟩:=g2.c j N h;erw[⟨p,e⟩]
 have e1:∀{L:List (List Addr)},(∀(j:Nat)N,L[j]?=wc N->N=[])->L.flatten=[]:=λh=>List.flatten_eq_nil_iff.mpr λN t=>by
  have⟨j,hj⟩:=CK t;erw[h j N hj]
 rw[e2,e1 g1.c,e1 g3.c]at nd new;simp only[Yj,YC,Ze,Yi,Xh,Ya,not_or,YO]at nd new;have⟨q1,q2,wn,⟨q3,q4,bn,⟨q5,gn,⟨q6,tn⟩,gd⟩,bd⟩,wd⟩:=nd;have gD:∀{L:List (List Addr)} {j:Nat} {N},L[j]?=wc N->L.getD j []=N:=λh=>by rw[YK,h];rfl
 have at_:∀{j:Nat} {f},W.fer[j]?=wc f->∃b p g u x y,B[j]?=wc [b,p,g,u]/\C[j]?=wc [x]/\D[j]?=wc [y]/\FyAt M' b p g u (ab0 f.k f.st)/\M' x=wc (.lst [])/\M' y=wc (.lst [])/\Ug W B C D j=⟨b,p,g,u,x,y,ab0 f.k f.st⟩:=fun{j f} Y=>by
  have hj:=(XF.mp Y).1;have A:=Xb (show j<B.length by lia)
  have S:=Xb (show j<C.length by lia)
  have ht:=Xb (show j<D.length by lia)
  have⟨b,p,g,u,e,O⟩:=g4.c j _ A;have⟨x,e',l⟩:=g5.c j _ S;have⟨y,e'',hy⟩:=g6.c j _ ht;rw[e]at A;rw[e']at S;rw[e'']at ht;erw[ex6 b p g u x y ⟨A,S,ht,O f Y,l,hy,?_⟩];unfold Ug abOf;rw[gD A,gD S,gD ht,Y];rfl
 have bg:∀{a},a∈B.flatten->a∉C.flatten:=λh z=>bd _ h _ (.inr (.inl z)) rfl;have bt:∀{a},a∈B.flatten->a∉D.flatten:=λh z=>bd _ h _ (.inr (.inr (.inr z))) rfl;have gt:∀{a},a∈C.flatten->a∉D.flatten:=λh z=>gd _ h _ (.inr z) rfl;have bat:∀{j:Nat} {x},((Xr W.fer.length).map (Ug W B C D))[j]?=wc x->j<W.fer.length/\x=Ug W B C D j:=fun{j x} h=>by
  have hj:=(XF.mp h).1;rw[X7,ZW]at hj;rw[Xl,Wl hj]at h;erw[⟨hj,(Y6 h).symm⟩]
 have ads:∀{j:Nat} {x:Boat} {a},((Xr W.fer.length).map (Ug W B C D))[j]?=wc x->a∈x.ads->(∃N,B[j]?=wc N/\a∈N)\/(∃N,C[j]?=wc N/\a∈N)\/∃N,D[j]?=wc N/\a∈N:=fun{j x a} h R=>by
  have⟨hj,rfl⟩:=bat h;erw[ee6 (at_ (Xb hj)) λb p g u x y h=>?_];have⟨A,S,ht,_,_,_,e⟩:=h;rw[e]at R;simp only[Boat.ads,Xh,XM,or_false]at R;rcases R with c|c|c|c|c|c
  .erw[.inl ⟨_,A,by simp[c]⟩]
  .erw[.inl ⟨_,A,by simp[c]⟩]
  .erw[.inl ⟨_,A,by simp[c]⟩]
  .erw[.inl ⟨_,A,by simp[c]⟩]
  .erw[.inr (.inl ⟨_,S,by simp[c]⟩)]
  .erw[.inr (.inr ⟨_,ht,by simp[c]⟩)]
 have eb:∀{L:List (List Addr)},L.length=W.fer.length->(Xr W.fer.length).map (λj=>MV.ref (hd (L.getD j [])))=L.map λN=>MV.ref (hd N):=λh=>Hc (d:=[]) (f:=λN=>MV.ref (hd N)) h;have wat:∀(i:Nat)I a,W.isl[i]?=wc I->(nw.map hd)[i]?=wc a->M' a=wc (.dic (zipK I.vars ((I.prs.map (·.2)).map MV.int))):=λi I a U R=>by
  rw[Xl]at R;have⟨N,t,rfl⟩:=UZ.mp R;have⟨p,rfl,h⟩:=g2.c i N t;erw[h I U]
 erw[q ⟨0,W.isl.map λ_=>0,nw.map hd,W.isl.map λ_=>0,(Xr W.fer.length).map (Ug W B C D),pn,pw,ps,pb,pg,pt⟩ M' ((((FrM.refl M [r]).upd (Y9.mpr rfl) _).upd (Y9.mpr rfl) _).trans fr) ⟨r',?_,?_,?_,?_,?_,?_,by rw[X7],by rw[X7];erw[wl],by rw[X7],by rw[X7,ZW],λi I m U hm=>?_,λi I a U R=>⟨_,wat i I a U R,(Pd (G.io I (Xv U)).nd (G.io I (Xv U)).wd).2⟩,λj f x Y l=>?_,λi j x y ne l hy a R A=>?_,?_⟩ rfl (λj f y Y hy=>?_) (λa R=>?_) rfl rfl wat]
 .erw[e0 nn g1.l▸g1.di]
 .show M' pw=wc (.dic (zipK W.ins ((nw.map hd).map MV.ref)));rw[Y5];erw[g2.di]
 .erw[e0 ns g3.l▸g3.di]
 .show M' pb=wc (.dic (zipK W.fns (((Xr W.fer.length).map (Ug W B C D)).map (λx=>MV.ref x.b))));rw[Y5];erw[eb bl▸g4.di]
 .show M' pg=wc (.dic (zipK W.fns (((Xr W.fer.length).map (Ug W B C D)).map (λx=>MV.ref x.gl))));rw[Y5];erw[eb gl▸g5.di]
 .show M' pt=wc (.dic (zipK W.fns (((Xr W.fer.length).map (Ug W B C D)).map (λx=>MV.ref x.tl))));rw[Y5];erw[eb tl▸g6.di]
 .have hm:(W.isl.map λ_=>0)[i]?=wc m:=hm;rw[Xl,U]at hm;cases hm;erw[YQ _]
 .have⟨_,rfl⟩:=bat l;erw[ee6 (at_ Y) λb p g u x y h=>?_];have⟨A,S,ht,O,h1,h2,e⟩:=h;have pm:p∈B.flatten:=P A (by simp)
  have xm:x∈C.flatten:=P S (by simp)
  have ym:y∈D.flatten:=P ht (by simp)
  rw[e];erw[⟨O,h1,h2,⟨λz:x=y=>gt xm (z▸ym),λz:x=p=>bg pm (z▸xm),λz:y=p=>bt pm (z▸ym)⟩,rfl,(by decide:(-1:Int)<0),(by decide:(-1:Int)<0),λz hz=>by cases hz⟩]
 .rcases ads l R with⟨N,t,c⟩|⟨N,t,c⟩|⟨N,t,c⟩<;>rcases ads hy A with⟨K,H,d⟩|⟨K,H,d⟩|⟨K,H,d⟩
  .erw[CA bn t H ne a c d]
  .erw[bg (P t c) (P H d)]
  .erw[bt (P t c) (P H d)]
  .erw[bg (P H d) (P t c)]
  .erw[CA gn t H ne a c d]
  .erw[gt (P t c) (P H d)]
  .erw[bt (P H d) (P t c)]
  .erw[gt (P H d) (P t c)]
  .erw[CA tn t H ne a c d]
 .show(pn::pw::ps::pb::pg::pt::nw.map hd).Nodup;simp only[Yi,Xh,not_or];erw[⟨⟨q1.1,q1.2.2.1,q1.2.2.2.1,q1.2.2.2.2.2.1,q1.2.2.2.2.2.2.2.1,q1.2.1⟩,⟨q2.2.1,q2.2.2.1,q2.2.2.2.2.1,q2.2.2.2.2.2.2.1,q2.1⟩,⟨q3.1,q3.2.2.1,q3.2.2.2.2.1,λz=>wd _ z _ (.inl rfl) rfl⟩,⟨q4.2.1,q4.2.2.2.1,λz=>wd _ z _ (.inr (.inl rfl)) rfl⟩,⟨q5.2.1,λz=>wd _ z _ (.inr (.inr (.inr (.inl rfl)))) rfl⟩,λz=>wd _ z _ (.inr (.inr (.inr (.inr (.inr (.inl rfl)))))) rfl,wn⟩]
 .have⟨_,rfl⟩:=bat hy;erw[ee6 (at_ Y) λ_ _ _ _ _ _ h=>?_];have⟨_,_,_,_,_,_,e⟩:=h;rw[e]
 .simp only[RunS.all,RunS.own,Ya,Xh,Um]at R;erw[Decidable.or_iff_not_imp_left.mpr λar=>new a ?_];rcases R with(c|c|c|c|⟨x,l,c⟩)|c|c|c|c
  .erw[(ar c).elim]
  .erw[.inl c]
  .erw[.inr (.inl c)]
  .erw[.inr (.inr (.inr (.inl c)))]
  .have⟨j,hj⟩:=CK l;rcases ads hj c with⟨N,t,d⟩|⟨N,t,d⟩|⟨N,t,d⟩
   .erw[.inr (.inr (.inr (.inr (.inr (.inl (P t d))))))]
   .erw[.inr (.inr (.inr (.inr (.inr (.inr (.inr (.inl (P t d))))))))]
   .erw[.inr (.inr (.inr (.inr (.inr (.inr (.inr (.inr (.inr (P t d)))))))))]
  .erw[.inr (.inr (.inr (.inr (.inl c))))]
  .erw[.inr (.inr (.inr (.inr (.inr (.inr (.inl c))))))]
  .erw[.inr (.inr (.inr (.inr (.inr (.inr (.inr (.inr (.inl c))))))))]
  .erw[.inr (.inr (.inl c))]
def RunAt.own_some{M:MH}{W:Wld}{r:Addr}{R:RunS}{w:Nat->Int}(h:RunAt M W r R w):∀a∈R.own r,∃o,M a=wc o:=λb l=>by
 simp only[RunS.own,Xh,Um]at l;rcases l with rfl|rfl|rfl|rfl|⟨x,y,l⟩
 .erw[⟨_,h.ob⟩]
 .erw[⟨_,h.hn⟩]
 .erw[⟨_,h.hw⟩]
 .erw[⟨_,h.hs⟩]
 .have⟨j,t,rfl⟩:=YB y;have⟨u,e,_⟩:=(h.ba j _ _ (Xb (by rw[<-h.bl];erw[t])) (Xb t)).at_ b l
  erw[⟨u,e⟩]
noncomputable abbrev rgM(x:Str×Nat):MV:=.tup [.str x.1,.int x.2]
abbrev CB:SpM:=λm M Q=>∃(w y:Addr) (l:List Int) (z:List MV) (j:List Isl),m=[.ref w,.ref y]/\M w=wc (.lst (l.map MV.int))/\l.length<=80/\M y=wc (.lst z)/\IslsIn M j z/\1<=j.length/\j.length<=5/\
 ∀p (t:List (Str×Nat))u,SameM M u->M p=we->u p=wc (.lst (t.map rgM))->t.length=l.length->(∀x∈t,∃I∈j,x.1=I.name)->Q (.ref p) u
def Pi:MonW CB:=by walk_at "m"
def _aq(T:Txt E):FO E 1 "_law_rings" CB:=by
 erw[T.b0.ok T.g Pi 2 ["cells","islands","rings","cell"] (fC T f0) Nw (fun vs M Q h=>?_)];have⟨A,B,L,w,N,rfl,C,cl,S,D,i1,i5,q⟩:=h;erw[⟨rfl,?_⟩];show wSs _ _ _ [wc (.ref A),wc (.ref B),we,we] M;have yl:=D.1;delta Nw;simp!;intro p O;have F:=SameM.new O (.lst []);have P:updM M p (.lst []) p=wc (.lst []):=Xa;generalize updM M p _=M1 at*;have R:=F _ _ C;delta Nv
 simp![R]
 obtain⟨J,g⟩:∃J:Nat->Sm->MH->Prop,∀j d t,J j d t↔∃(u:List (Str×Nat)) (v:Option MV),SameM M t/\t p=wc (.lst (u.map rgM))/\u.length=j/\(∀x∈u,∃I∈N,x.1=I.name)/\d=[wc (.ref A),wc (.ref B),wc (.ref p),v]:=⟨_,λ_ _ _=>Yl⟩;erw[⟨J,(g _ _ _).mpr ⟨[],_,F,P,rfl,(λx h=>nomatch h),rfl⟩,λj d t h=>?_,?_,?_⟩]
 .have⟨_,_,s,_⟩:=(g _ _ _).mp h;erw[s _ _ C]
 .rintro j y d t X h;have⟨u,v,s,l,U,W,rfl⟩:=(g _ _ _).mp h;have⟨G,rfl⟩:=_7 (show(L.map MV.int)[j]?=wc y from X);generalize L[j]=x at*;have f:=s _ _ S;have Y:=D.keep s;delta Nu
  simp![l,f]
  have H:=Zu x (show(w.length:Int)≠0 by lia)
  have o:=ZE x (show(0:Int)<(w.length:Int) by lia)
  obtain⟨k,i⟩:∃k:Nat,x%(w.length:Int)=(k:Int):=⟨_,(UY H).symm⟩;rw[i]at o ⊢;have r:k<w.length:=by lia
  have e:k<N.length:=by lia
  have⟨a,b,n,_⟩:=Y.2 k _ _ (Xb e) (Xb r);erw[⟨⟨_,rfl⟩,by lia,_,Y4 (Xb r),?_⟩]
  rw[n]
  simp![f,l]
  have c0:=Zu (x/(w.length:Int)) (show(1000000000000000000000000000000:Int)≠0 by decide)
  obtain⟨c,Z⟩:∃c:Nat,x/(w.length:Int)%1000000000000000000000000000000=(c:Int):=⟨_,(UY c0).symm⟩;rw[Z];have G:j<L.length:=G;erw[⟨⟨by lia,by lia⟩,by rw[X7];lia,(g _ _ _).mpr ⟨u++[(N[k].name,c)],_,s.upd O _,by rw[Xa,XX];rfl,by rw[Yf,U];rfl,(λz m=>?_),rfl⟩⟩]
  rcases Ya.mp m with m|m
  .erw[W z m]
  .rw[Y9]at m;subst m;erw[⟨_,XW e,rfl⟩]
 .rintro d t h;have⟨u,v,s,l,U,W,rfl⟩:=(g _ _ _).mp h;delta Nt;simp!;erw[q p u t s O l (U.trans (X7 _)) W]
theorem Wd:∀{j:List Str} {l:List MV} {k:Str},k∉j->valM (zipK j l) (Xo k)=we
 |[],_,_,_=>rfl
 |_::_,[],_,_=>rfl
 |z::j,v::l,k,h=>by
  rw[Xh,not_or]at h;simp only[zipK,valM];rw[if_neg (λe=>h.1 (V1 e).symm)];erw[Wd h.2]
abbrev Za8:SpR:=λj _=>∃(W:Wld) (x:Str),j=[.tup (W.isl.map Isl.mv),.str x]/\x∉W.ins/\ShortT x
def _am(T:Txt E):RE E 1 "one_called" Za8:=by
 erw[T.ao.okR T.g 2 ["row","name","one"] (fC T f0) r0 T.xo (.pl (.for_ (.nm 2) (.seq (.var 0)) C7) (.rf 1)) (fun c M h=>?_)];have⟨W,x,rfl,y,m⟩:=h;erw[⟨rfl,?_⟩];show wR _ _ _ _ [wc (.tup (W.isl.map Isl.mv)),wc (.str x),we] M;rw[r_pl];simp!;obtain⟨J,w⟩:∃J:Nat->Sm->MH->Prop,∀j l t,J j l t↔t=M/\∃v,l=[wc (.tup (W.isl.map Isl.mv)),wc (.str x),v]:=⟨_,λ_ _ _=>Yl⟩;erw[⟨J,(w _ _ _).mpr ⟨rfl,_,rfl⟩,λj l t h=>trivial,?_,?_⟩]
 .rintro j u l t g h;have⟨rfl,v,rfl⟩:=(w _ _ _).mp h;have⟨d,rfl⟩:=_7 g;delta C7
  simp![Isl.mv]
  erw[XU (λe=>?_) (λe=>?_)]
  .erw[absurd (e▸Xv (_Q (Xb d))) y]
  .erw[(w _ _ _).mpr ⟨rfl,_,rfl⟩]
 .rintro l t h;have⟨rfl,v,rfl⟩:=(w _ _ _).mp h;erw[⟨x,rfl,m,λ_ _ z=>z⟩]
noncomputable abbrev Zb2:SpR:=λj _=>∃(W:Wld) (x:Str),j=[W.mv,.str x]/\x∉W.ins/\ShortT x
def _bh(T:Txt E):RE E 2 "island_of" Zb2:=by
 erw[T.aw.okR T.g 2 ["world","name"] (fC T f0) (r1 (_am T)) T.xo (.st .rt (.fn 0 (.ix (.var 0) (.int 1)) (.cons (.var 1) .nil))) (fun t M h=>?_)];have⟨W,x,rfl,j,l⟩:=h;erw[⟨rfl,?_⟩];show wR _ _ _ _ [wc W.mv,wc (.str x)] M;rw[r_fn,Wld.mv];simp!;erw[⟨_,_,⟨rfl,rfl⟩,⟨W,x,rfl,j,l⟩,λ_ _ z=>z⟩]
abbrev Z6g:SpR:=λl M=>∃(d:Addr) (x:Str) (j:List (Key×MV)),l=[.str x,.ref d]/\M d=wc (.dic j)/\valM j (Xo x)=we/\ShortT x
def _6k(T:Txt E):RE E 1 "refuse_unknown" Z6g:=by
 erw[T.ax.okR T.g 2 ["name","known"] (fC T f0) r0 T.xo (.ite (.cmp .NotIn (.var 0) (.var 1)) (.rf 0) .no) (fun u M h=>?_)];have⟨d,x,j,rfl,hd,l,t⟩:=h;erw[⟨rfl,?_⟩];show wR _ _ _ _ [wc (.str x),wc (.ref d)] M;rw[W3];simp!;erw[.inr ⟨j,_,hd,rfl,?_⟩];rw[l];erw[(if_pos rfl).mpr ⟨x,rfl,t,λ_ _ z=>z⟩]
abbrev Zb1:SpR:=λl M=>∃(d:Addr) (x:Str) (j:List (Key×MV)),l=[.ref d,.str x]/\M d=wc (.dic j)/\valM j (Xo x)=we/\ShortT x
def An(T:Txt E):RE E 2 "looked_up" Zb1:=by
 erw[T.aQ.okR T.g 2 ["named","name"] (fC T f0) (r1 (_6k T)) T.xo (.st .ex (.fn 0 (.var 1) (.cons (.var 0) .nil))) (fun u M h=>?_)];have⟨d,x,j,rfl,hd,l,t⟩:=h;erw[⟨rfl,?_⟩];show wR _ _ _ _ [wc (.ref d),wc (.str x)] M;rw[r_fn];simp!;erw[⟨_,_,⟨rfl,rfl⟩,⟨d,x,j,rfl,hd,l,t⟩,λ_ _ z=>z⟩]
def NoI(M:MH)(r:Addr)(x:Str):Prop:=∃W R j,RunAt M W r R j/\x∉W.ins/\ShortT x
def NoF(M:MH)(r:Addr)(x:Str):Prop:=∃W R j,RunAt M W r R j/\x∉W.fns/\ShortT x
theorem NoI.keep{M M':MH}{r:Addr}{x:Str}(h:NoI M r x)(s:SameM M M'):NoI M' r x:=let⟨W,R,mm,a,b⟩:=h;⟨W,R,mm,a.keep s,b⟩
theorem NoF.keep{M M':MH}{r:Addr}{x:Str}(h:NoF M r x)(s:SameM M M'):NoF M' r x:=let⟨W,R,mm,a,b⟩:=h;⟨W,R,mm,a.keep s,b⟩
noncomputable abbrev Pj:SpR:=λj M=>∃r x c,j=[.ref r,.str x,c]/\NoI M r x
noncomputable abbrev Vg:SpR:=λj M=>∃r x,j=[.ref r,.str x]/\NoI M r x
noncomputable abbrev Ao:SpR:=λj M=>∃r x,j=[.ref r,.str x]/\NoF M r x
def _jC(T:Txt E):RM E 3 "Run" "ring" Pj:=by
 erw[T.aB.okR T.ac T.aa 3 ["self","name","choice","steps"] (fC T f0) (r1 (_bh T)) T.xo (.st (.ix 3 (.int 2)) (.fn 0 (.fld "Run" (.var 0) "world") (.cons (.var 1) .nil))) (fun u M h=>?_)];have⟨r,x,c,rfl,W,R,w,h,j,l⟩:=h;erw[⟨rfl,?_⟩];show wR _ _ _ _ [wc (.ref r),wc (.str x),wc c,we] M;have t:=h.ob;rw[r_fn]
 simp![t,runO,valM]
 erw[⟨_,_,⟨rfl,rfl⟩,⟨W,x,rfl,j,l⟩,λ_ _ z=>z⟩]
def _fh(T:Txt E):RM E 3 "Run" "number" Vg:=by
 erw[T.aG.okR T.ac T.aa 2 ["self","name"] (fC T f0) (r1 (An T)) T.xo (.st .rt (.fn 0 (.fld "Run" (.var 0) "next_numbers") (.cons (.var 1) .nil))) (fun u M h=>?_)];have⟨r,x,rfl,W,R,w,h,j,l⟩:=h;erw[⟨rfl,?_⟩];show wR _ _ _ _ [wc (.ref r),wc (.str x)] M;have t:=h.ob;rw[r_fn]
 simp![t,runO,valM]
 erw[⟨_,_,⟨rfl,rfl⟩,⟨_,x,_,rfl,h.hn,Wd j,l⟩,λ_ _ z=>z⟩]
def _hh(T:Txt E):RM E 3 "Run" "words" Vg:=by
 erw[T.bJ.okR T.ac T.aa 2 ["self","name"] (fC T f0) (r1 (An T)) T.xo (.st (.rb .dict) (.fn 0 (.fld "Run" (.var 0) "words_now") (.cons (.var 1) .nil))) (fun u M h=>?_)];have⟨r,x,rfl,W,R,w,h,j,l⟩:=h;erw[⟨rfl,?_⟩];show wR _ _ _ _ [wc (.ref r),wc (.str x)] M;have t:=h.ob;rw[r_fn]
 simp![t,runO,valM]
 erw[⟨_,_,⟨rfl,rfl⟩,⟨_,x,_,rfl,h.hw,Wd j,l⟩,λ_ _ z=>z⟩]
def _al(T:Txt E):RM E 3 "Run" "steps_done" Vg:=by
 erw[T.bS.okR T.ac T.aa 2 ["self","name"] (fC T f0) (r1 (An T)) T.xo (.st .rt (.fn 0 (.fld "Run" (.var 0) "steps_so_far") (.cons (.var 1) .nil))) (fun u M h=>?_)];have⟨r,x,rfl,W,R,w,h,j,l⟩:=h;erw[⟨rfl,?_⟩];show wR _ _ _ _ [wc (.ref r),wc (.str x)] M;have t:=h.ob;rw[r_fn]
 simp![t,runO,valM]
 erw[⟨_,_,⟨rfl,rfl⟩,⟨_,x,_,rfl,h.hs,Wd j,l⟩,λ_ _ z=>z⟩]
def _hj(T:Txt E):RM E 3 "Run" "given" Ao:=by
 erw[T.aH.okR T.ac T.aa 2 ["self","name"] (fC T f0) (r1 (An T)) T.xo (.st (.rb .list) (.fn 0 (.fld "Run" (.var 0) "given_so_far") (.cons (.var 1) .nil))) (fun u M h=>?_)];have⟨r,x,rfl,W,R,w,h,j,l⟩:=h;erw[⟨rfl,?_⟩];show wR _ _ _ _ [wc (.ref r),wc (.str x)] M;have t:=h.ob;rw[r_fn]
 simp![t,runO,valM]
 erw[⟨_,_,⟨rfl,rfl⟩,⟨_,x,_,rfl,h.hg,Wd j,l⟩,λ_ _ z=>z⟩]
def _hi(T:Txt E):RM E 3 "Run" "taken" Ao:=by
 erw[T.bf.okR T.ac T.aa 2 ["self","name"] (fC T f0) (r1 (An T)) T.xo (.st (.rb .list) (.fn 0 (.fld "Run" (.var 0) "taken_so_far") (.cons (.var 1) .nil))) (fun u M h=>?_)];have⟨r,x,rfl,W,R,w,h,j,l⟩:=h;erw[⟨rfl,?_⟩];show wR _ _ _ _ [wc (.ref r),wc (.str x)] M;have t:=h.ob;rw[r_fn]
 simp![t,runO,valM]
 erw[⟨_,_,⟨rfl,rfl⟩,⟨_,x,_,rfl,h.ht,Wd j,l⟩,λ_ _ z=>z⟩]
abbrev Asks:List (Str×SpR):=[("",Pj),("",Vg),("",Vg),("",Vg),("",Ao),("",Ao)]
noncomputable abbrev askR(j:Nat)(m:Str)(e:IEs):IR:=.st .rt (.mt j "Run" m (.var 0) (.var 2) e)
noncomputable abbrev Zc5:SpR:=λj M=>∃(r:Addr) (k:Nat) (x:Str) (c:MV),j=[.ref r,.int k,.str x,c]/\k<6/\(k<4->NoI M r x)/\(4<=k->NoF M r x)
def _ck(T:Txt E):RE E 4 "_law_ask" Zc5:=by
 erw[T.aS.okR T.g 4 ["run","way","name","choice"] (fC T f0) (rm (xm:=[(0,"Run","ring"),(1,"Run","number"),(2,"Run","words"),(3,"Run","steps_done"),(4,"Run","given"),(5,"Run","taken")]) (Ψ:=Asks) (fMc ⟨_,_,rfl,rM (_jC T)⟩ (fMc ⟨_,_,rfl,rM (_fh T)⟩ (fMc ⟨_,_,rfl,rM (_hh T)⟩ (fMc ⟨_,_,rfl,rM (_al T)⟩ (fMc ⟨_,_,rfl,rM (_hj T)⟩ (fMc ⟨_,_,rfl,rM (_hi T)⟩ nl0))))))) T.xo
  (.ite (.cmp .Eq (.var 1) (.int 0)) (askR 0 "ring" (.cons (.var 3) .nil)) (.ite (.cmp .Eq (.var 1) (.int 1)) (askR 1 "number" .nil) (.ite (.cmp .Eq (.var 1) (.int 2)) (askR 2 "words" .nil) (.ite (.cmp .Eq (.var 1) (.int 3)) (askR 3 "steps_done" .nil) (.ite (.cmp .Eq (.var 1) (.int 4)) (askR 4 "given" .nil) (askR 5 "taken" .nil)))))) (fun m M h=>?_)]
 have⟨r,k,x,c,rfl,g,w,y⟩:=h;erw[⟨rfl,?_⟩];show wR _ _ _ _ [wc (.ref r),wc (.int k),wc (.str x),wc c] M;have u:(k<4->∃W R j,RunAt M W r R j/\Vg [.ref r,.str x] M)/\(4<=k->∃W R j,RunAt M W r R j/\Ao [.ref r,.str x] M):=⟨λz=>by have⟨W,R,j,a,b⟩:=w z;erw[⟨W,R,j,a,r,x,rfl,W,R,j,a,b⟩],λz=>by have⟨W,R,j,a,b⟩:=y z;erw[⟨W,R,j,a,r,x,rfl,W,R,j,a,b⟩]⟩
 rw[W3];simp!;erw[XU (λe=>?_) (λd=>?_)]
 .have⟨W,R,j,h,l⟩:=w (by lia)
  have t:=h.ob;rw[r_mt]
  simp![t,runO,valM]
  erw[⟨_,_,⟨rfl,rfl⟩,⟨r,x,c,rfl,W,R,j,h,l⟩,λ_ _ z=>z⟩]
 rw[W3];simp!;erw[XU (λe=>?_) (λf=>?_)]
 .have⟨W,R,j,h,l⟩:=u.1 (by lia)
  have t:=h.ob;rw[r_mt]
  simp![t,runO,valM]
  erw[⟨_,_,⟨rfl,rfl⟩,l,λ_ _ z=>z⟩]
 rw[W3];simp!;erw[XU (λe=>?_) (λp=>?_)]
 .have⟨W,R,j,h,l⟩:=u.1 (by lia)
  have t:=h.ob;rw[r_mt]
  simp![t,runO,valM]
  erw[⟨_,_,⟨rfl,rfl⟩,l,λ_ _ z=>z⟩]
 rw[W3];simp!;erw[XU (λe=>?_) (λL=>?_)]
 .have⟨W,R,j,h,l⟩:=u.1 (by lia)
  have t:=h.ob;rw[r_mt]
  simp![t,runO,valM]
  erw[⟨_,_,⟨rfl,rfl⟩,l,λ_ _ z=>z⟩]
 have⟨W,R,j,h,l⟩:=u.2 (by lia)
 have t:=h.ob;rw[W3];simp!;erw[XU (λe=>?_) (λN=>?_)]
 .rw[r_mt]
  simp![t,runO,valM]
  erw[⟨_,_,⟨rfl,rfl⟩,l,λ_ _ z=>z⟩]
 .rw[r_mt]
  simp![t,runO,valM]
  erw[⟨_,_,⟨rfl,rfl⟩,l,λ_ _ z=>z⟩]
abbrev CC:SpM:=λl M Q=>∃(r:Addr) (k:Nat) (x:Str) (c:MV),l=[.ref r,.int k,.str x,c]/\k<6/\(k<4->NoI M r x)/\(4<=k->NoF M r x)/\∀j,SameM M j->Q (.bl wf) j
def Pk:MonW CC:=by walk_at "m"
def _8f(T:Txt E):FO E 5 "_law_refused" CC:=by
 erw[T.bE.okT T.g Pk 4 ["run","way","name","choice","kind","e"] (fC T f0) (r1 (_ck T)) T.xo [.pl (.set 4 (.lst .nil)),.tr ⟨0,.var 0,.cons (.var 1) (.cons (.var 2) (.cons (.var 3) .nil)),5,4,["Unknown","ValueError","NoName","NoFerry"]⟩,.pl (.ret (.cmp .Eq (.var 4) (.lst (.cons (.bl wf) (.cons (.bl wf) (.cons (.bl wg) (.cons (.bl wg) .nil)))))))] (fun R M Q h=>?_)];have⟨r,k,x,c,rfl,d,f,e,q⟩:=h;erw[⟨rfl,?_⟩];show wTs _ _ _ _ _ [wc (.ref r),wc (.int k),wc (.str x),wc c,we,we] M;rw[t_pl];simp!;intro p L;have j:=SameM.new L (.lst []);generalize updM M p _=M1 at*;rw[t_tr];simp!;erw[⟨_,_,⟨rfl,rfl⟩,⟨r,k,x,c,rfl,d,λz=>(f z).keep j,λz=>(e z).keep j⟩,λy N l t=>?_⟩];have O:=(j.trans N).trans (SameM.new t (.lst ([("Unknown":Str),"ValueError","NoName","NoFerry"].map fun u=>.bl (xsub XO u))));have P:updM y l (.lst ([("Unknown":Str),"ValueError","NoName","NoFerry"].map fun u=>.bl (xsub XO u))) l=wc (.lst [.bl wf,.bl wf,.bl wg,.bl wg]):=by rw[Xa];kernel_rfl
 generalize updM y l _=M4 at*;rw[t_pl];simp!;intro U w;have m:=SameM.new w (.lst [.bl wf,.bl wf,.bl wg,.bl wg]);erw[IN rfl (Alike.lstFlat 0 (.inr ⟨_,rfl,m _ _ P⟩) (.inr ⟨_,rfl,Xa⟩) (λv g=>?_)) (by decide) (q _ (O.trans m))]
 simp only[Xh,XM,or_false]at g;rcases g with rfl|rfl|rfl|rfl<;>rfl
def RunS.in_own{R:RunS}{r a:Addr}(h:a∈R.own r):a∈R.all r:=AA _ h
def RunS.in_ws{R:RunS}{r a:Addr}(h:a∈R.ws):a∈R.all r:=YA _ (by simp[h])
def RunAt.move{M w:MH}{W:Wld}{r:Addr}{R:RunS}{y:Nat->Int}(h:RunAt M W r R y)(s:∀a∈R.all r,∀o,M a=wc o->w a=wc o):RunAt w W r R y:=
 have t:∀a,a∈R.own r\/a∈(R.pb::R.pg::R.pt::R.ws)->∀o,M a=wc o->w a=wc o:=λa e=>s a (Ya.mpr e)
 ⟨t _ (.inl (by simp[RunS.own])) _ h.ob,t _ (.inl (by simp[RunS.own])) _ h.hn,t _ (.inl (by simp[RunS.own])) _ h.hw,t _ (.inl (by simp[RunS.own])) _ h.hs,t _ (.inr (by simp)) _ h.hb,t _ (.inr (by simp)) _ h.hg,t _ (.inr (by simp)) _ h.ht,h.nl,h.wl,h.sl,h.bl,h.nb,λi I a m l=>by have⟨k,e,o⟩:=h.wa i I a m l;erw[⟨k,t _ (.inr (by simp[Xv l])) _ e,o⟩],λj f x g z=>(h.ba j f x g z).fr (ZF _) λa l u e=>t _ (.inl (XD _ (XD _ (XD _ (XD _ (Um.mpr ⟨x,Xv z,l⟩)))))) _ e,h.sep,h.nd⟩
def RunAt.all_some{M:MH}{W:Wld}{r:Addr}{R:RunS}{t:Nat->Int}(h:RunAt M W r R t):∀a∈R.all r,∃o,M a=wc o:=λa u=>by
 rcases Ya.mp u with z|z
 .erw[h.own_some a z]
 .simp only[Xh]at z;rcases z with rfl|rfl|rfl|z
  .erw[⟨_,h.hb⟩]
  .erw[⟨_,h.hg⟩]
  .erw[⟨_,h.ht⟩]
  .have⟨j,l,rfl⟩:=YB z;have⟨w,e,_⟩:=h.wa j _ _ (Xb (by rw[<-h.wl];erw[l])) (Xb l)
   erw[⟨_,e⟩]
theorem GoTo.all{W:Wld}{M M':MH}{r:Addr}{R j:RunS}{bs:List Boat}{i n:Nat}{l:List (Key×MV)}{o:Option Stp}{v:MV}(h:GoTo W M M' r R j bs i n l o v)(k:Kept M M' r R j):∀a∈j.all r,a∈R.all r\/M a=we:=λa t=>by
 rcases Ya.mp t with z|z
 .erw[(k.nw a z).imp_left RunS.in_own]
 .rcases h with⟨rfl,_⟩|⟨s,y,m,p,d,_,rfl,_,_,_,w,_⟩
  .erw[.inl (YA _ z)]
  .have z:a∈R.pb::R.pg::R.pt::R.ws.set i p:=z;simp only[Xh]at z;rcases z with z|z|z|z
   .erw[.inl (YA _ (by simp[z]))]
   .erw[.inl (YA _ (by simp[z]))]
   .erw[.inl (YA _ (by simp[z]))]
   .rcases CF z with z|rfl
    .erw[.inl (YA _ (by simp[z]))]
    .cases e:M a with
     |none=>erw[.inr rfl]
     |some u=>erw[.inl (RunS.in_own (w u e))]
noncomputable def tlen:MV->Nat
 |.tup xs=>xs.length
 |_=>0
def Pl{w:Nat}{f:Fer}{z:Str}{o:Option Stp}{j:Str->Int}{A:Ab}(h:hitA w f z o j A=wf)(c:f.giver=z):∃T,o=wc (.give f.name T)/\A.gives (UH w f o j)=wf/\UH w f o j=wc (T.val j w).toNat:=by
 rw[hitA,if_pos c]at h;have l:(UH w f o j).isSome=wf:=((Xs _ _).mp h).1;rcases o with _|s
 .cases l
 .cases s with
  |give g T=>
   by_cases e:g=f.name
   .subst e;erw[⟨T,rfl,h,if_pos rfl⟩]
   .rw[show UH w f (wc (.give g T)) j=we from if_neg e]at l;cases l
  |take _ _=>cases l
  |put _ _=>cases l
  |jump _ _=>cases l
def Pm{w:Nat}{f:Fer}{z:Str}{o:Option Stp}{j:Str->Int}{A:Ab}(h:hitA w f z o j A=wf):XI o f.name=wf:=by
 by_cases c:f.giver=z
 .have⟨T,rfl,_⟩:=Pl h c;erw[decide_eq_true rfl]
 .rw[hitA,if_neg c]at h;erw[((Xs _ _).mp h).1]
section
variable{w:Nat}{z:Str}{m:Int}{c:Nat}{o:Option Stp}{ρ:Str->Int}{k:Nat}{f:Fer}{A:Ab}
end
def _mX{W:Wld}(G:W.Good){i j:Nat}{f g:Fer}(l:W.fer[i]?=wc f)(t:W.fer[j]?=wc g)(e:f.name=g.name):i=j:=
 (List.getElem?_inj (by rw[Cv];erw[(XF.mp l).1]) G.fn_nd).mp ((Wc l).trans ((Wc t).trans (by rw[e])).symm)
theorem GoTo.bs{W:Wld}{M M':MH}{l:RunS}{r:Addr}{R:RunS}{bs:List Boat}{i n:Nat}{j:List (Key×MV)}{o:Option Stp}{v:MV}(h:GoTo W M M' r R l bs i n j o v):l.bs=bs:=by
 rcases h with⟨rfl,_⟩|⟨_,_,_,_,_,_,rfl,_⟩<;>rfl
theorem RunAt.isl{M:MH}{W:Wld}{r:Addr}{R:RunS}{w:Nat->Int}(h:RunAt M W r R w){i:Nat}{I:Isl}(t:W.isl[i]?=wc I):∃n a j d,R.nums[i]?=wc n/\R.ws[i]?=wc a/\M a=wc (.dic j)/\WdOk W.w I j/\R.dn[i]?=wc d:=by
 have l:=(XF.mp t).1;obtain⟨a,u⟩:∃a,R.ws[i]?=wc a:=⟨_,Xb (by rw[h.wl];erw[l])⟩
 have⟨j,e,o⟩:=h.wa i I _ t u;erw[ex4 _ _ j _ ⟨Xb (by rw[h.nl];erw[l]),u,e,o,Xb (by rw[h.sl];erw[l])⟩]
def RunAt.ab0_len{M:MH}{W:Wld}{r:Addr}{R:RunS}{t:Nat->Int}(h:RunAt M W r R t)(u:∀(j:Nat)f y,W.fer[j]?=wc f->R.bs[j]?=wc y->y.A=ab0 f.k f.st):∀y∈R.bs,y.A.ws.length<=0:=λy w=>by
 have⟨j,l,rfl⟩:=YB w;rw[u j _ _ (Xb (by rw[<-h.bl];erw[l])) (Xb l)]
 erw[Xc _]
def _dZ{j l:Type}{t:List j}{u:List l}{p:j×l}(h:p∈t.zip u):∃i:Nat,t[i]?=wc p.1/\u[i]?=wc p.2:=by
 have⟨i,w,rfl⟩:=YB h;rw[AH]at w;erw[⟨i,?_,?_⟩]<;>rw[List.getElem_zip,Xb]
structure Both (W:Wld)(M:MH)(r1 r2:Addr)(R1 R2:RunS):Prop where
 a1:RunAt M W r1 R1 (λ_=>R1.m)
 a2:RunAt M W r2 R2 (λ_=>R2.m)
 d1:∀a∈R1.all r1,a∉R2.own r2
 d2:∀a∈R2.all r2,a∉R1.own r1
structure Twin (M:MH)(R S:RunS):Prop where
 m:R.m=S.m
 n:R.nums=S.nums
 b:∀(k:Nat)x y,R.bs[k]?=wc x->S.bs[k]?=wc y->x.A=y.A
 w:∀(i:Nat)a b u,R.ws[i]?=wc a->S.ws[i]?=wc b->M a=wc u->M b=wc u
section
variable{W:Wld}{M M':MH}{r1 r2:Addr}{R1 R2 R':RunS}
def Both.symm(B:Both W M r1 r2 R1 R2):Both W M r2 r1 R2 R1:=⟨B.a2,B.a1,B.d2,B.d1⟩
theorem Both.keep(B:Both W M r1 r2 R1 R2)(s:SameM M M'):Both W M' r1 r2 R1 R2:=⟨B.a1.keep s,B.a2.keep s,B.d1,B.d2⟩
def Both.rung(B:Both W M r1 r2 R1 R2){bs:List Boat}{i n m:Nat}{z:Str}{w:List (Key×MV)}{o:Option Stp}{v:MV}(d:RunAt M' W r1 R' (λ_=>R'.m))(k:Kept M M' r1 R1 R')(to:BsTo W R1.bs bs z R1.m m o (rhoK w) W.fer.length)(g:GoTo W M M' r1 R1 R' bs i n w o v){l:Nat}(L:∀y∈R1.bs,y.A.ws.length<=l):Both W M' r1 r2 R' R2/\∀y∈R'.bs,y.A.ws.length<=l+1:=by
 have f:bs.length=W.fer.length:=by rw[<-g.bs];erw[d.bl]
 have un:∀b,M b=we->b∉R2.all r2:=λb e z=>by
  have⟨u,r⟩:=B.a2.all_some b z;rw[e]at r;cases r
 erw[⟨⟨d,B.a2.move λb t u e=>k.fr _ _ e (B.d2 b t),λb t z=>?_,λb t z=>?_⟩,?_⟩]
 .rcases g.all k b t with c|c
  .erw[B.d1 b c z]
  .erw[un b c (RunS.in_own z)]
 .rcases k.nw b z with c|c
  .erw[B.d2 b t c]
  .erw[un b c t]
 .rw[g.bs];erw[to.len f B.a1.bl (λj p=>by rw[Zb (by rw[f];erw[p]),Zb (by rw[B.a1.bl];erw[p])]) L]
def Both.free{p:Addr}(B:Both W M r1 r2 R1 R2)(h:M p=we):p∉R1.own r1/\p∉R2.own r2:=by
 erw[⟨λz=>?_,λz=>?_⟩]
 .have⟨o,e⟩:=B.a1.own_some p z;rw[e]at h;cases h
 .have⟨o,e⟩:=B.a2.own_some p z;rw[e]at h;cases h
end
def Twin.keep{W:Wld}{M M':MH}{r1 t:Addr}{R S:RunS}(T:Twin M R S)(B:Both W M r1 t R S)(s:SameM M M'):Twin M' R S:=⟨T.m,T.n,T.b,λi a b u j w e=>by
 have⟨x,l⟩:=B.a1.all_some a (RunS.in_ws (Xv j));rw[s _ _ l]at e;cases e;erw[s _ _ (T.w i a b _ j w l)]⟩
def Offs(M:MH)(r1 j:Addr)(l R2:RunS)(L:List (Addr×MO)):Prop:=∀x∈L,M x.1=wc x.2/\x.1∉l.own r1/\x.1∉R2.own j
def Offs.kept{M M':MH}{r1 j:Addr}{l R2 t:RunS}{L:List (Addr×MO)}(h:Offs M r1 j l R2 L)(k:Kept M M' r1 l t):Offs M' r1 j t R2 L:=λx u=>by have⟨a,b,c⟩:=h x u;erw[⟨k.fr _ _ a b,(λz=>(k.nw _ z).elim b λe=>by rw[a]at e;cases e),c⟩]
def Offs.symm{M:MH}{r1 j:Addr}{l R2:RunS}{L:List (Addr×MO)}(h:Offs M r1 j l R2 L):Offs M j r1 R2 l L:=λx t=>by have⟨a,b,c⟩:=h x t;erw[⟨a,c,b⟩]
def Offs.keep{M M':MH}{r1 j:Addr}{l R2:RunS}{L:List (Addr×MO)}(h:Offs M r1 j l R2 L)(s:SameM M M'):Offs M' r1 j l R2 L:=λx t=>by have⟨a,b⟩:=h x t;erw[⟨s _ _ a,b⟩]
section
variable{W:Wld}{bs cs:List Boat}{z:Str}{o:Option Stp}{ρ:Str->Int}{v u:MV}{k:Nat}{f:Fer}{a:Boat}
def _gJ{a b:Str}(h:XI o a=wf)(g:XI o b=wf):a=b:=by
 rcases o with _|s
 .cases h
 .cases s with
  |take f x=>erw[(of_decide_eq_true h).symm.trans (of_decide_eq_true g)]
  |give f x=>erw[(of_decide_eq_true h).symm.trans (of_decide_eq_true g)]
  |put _ _=>cases h
  |jump _ _=>cases h
def Hit.to(h:Hit W bs z o ρ k f a)(e:∀(k:Nat)x y,bs[k]?=wc x->cs[k]?=wc y->x.A=y.A)(l:cs.length=bs.length):∃b,Hit W cs z o ρ k f b/\a.A=b.A:=by
 have⟨m,j,g,d⟩:=h;have t:=Xb (show k<cs.length by rw[l];erw[(XF.mp j).1])
 have w:=e k _ _ j t;erw[⟨_,⟨m,t,g,by rw[<-w];erw[d]⟩,w⟩]
def _gK(G:W.Good)(e:∀(k:Nat)x y,bs[k]?=wc x->cs[k]?=wc y->x.A=y.A)(l:cs.length=bs.length)(h:WhatTo W bs z o ρ W.fer.length v)(g:WhatTo W cs z o ρ W.fer.length u):v=u:=by
 rcases h with⟨m,d⟩|⟨k,f,a,c,r,m⟩
 .rcases g with⟨w,_⟩|⟨k,f,a,c,r,w⟩
  .rw[m,w]
  .have⟨b,t,_⟩:=r.to (λk x y p q=>(e k y x q p).symm) l.symm;erw[absurd t (d _ _ _ c)]
 .have⟨b,t,L⟩:=r.to e l;rcases g with⟨_,d⟩|⟨T,U,Y,N,j,w⟩
  .erw[absurd t (d _ _ _ c)]
  .have O:=_mX G t.1 j.1 (_gJ (Pm t.2.2.2) (Pm j.2.2.2));subst O;have P:=t.1.symm.trans j.1;cases P;have R:=t.2.1.symm.trans j.2.1;cases R;rw[m,w,L]
def _er{j:Nat}(h:WhatTo W bs z o ρ j v):∃t,v=.tup t/\t.all Yn=wf:=by
 rcases h with⟨rfl,_⟩|⟨k,f,a,_,w,rfl⟩
 .unfold Zk;split<;>erw[⟨_,rfl,rfl⟩]
 .have l:=w.2.2.2;rw[Yz,if_pos l];by_cases c:f.giver=z
  .have⟨T,rfl,_⟩:=Pl l c;rw[if_pos c];erw[⟨_,rfl,rfl⟩]
  .rw[if_neg c];erw[⟨_,rfl,rfl⟩]
def _eP{M:MH}{c:Nat}:Alike M 1 (smpM W bs z c k) (smpM W bs z c k):=by
 unfold smpM;split
 .erw[Alike.tupFlat 0 rfl]
 .erw[Alike.flat 1 rfl]
def _j2(e:∀(k:Nat)x y,bs[k]?=wc x->cs[k]?=wc y->x.A=y.A)(l:cs.length=bs.length)(c:Nat):smpM W bs z c=smpM W cs z c:=by
 funext k
 unfold smpM;cases W.fer[k]? with
 |none=>rfl
 |some f=>
  by_cases hk:k<bs.length
  .have j:=Xb hk;have t:=Xb (show k<cs.length by rw[l];erw[hk])
   have w:=e k _ _ j t;rw[j,t];show MV.tup [_,.int (smpA f z _ bs[k].A:Nat)]=_;rw[w]
  .have j:bs[k]?=we:=Zb (AX hk);have t:cs[k]?=we:=Zb (by rw[l];erw[AX hk])
   rw[j,t]
end
section
variable{W:Wld}{M M1 N N1:MH}{r s:Addr}{R S R' S':RunS}{bs cs:List Boat}{i n:Nat}{kvs:List (Key×MV)}{o:Option Stp}{v:MV}
def Goes(w:Nat)(o:Option Stp)(l:Str->Int)(s:Stp)(v j:MV):Prop:=(∀z,XI o z=wg)/\v=Zk o/\j=.non\/(∃f T,s=.give f T/\v=askO o l w/\j=.non)\/∃f x m,s=.take f x/\v=.tup [.str "take",.str f,.int m]/\j=.int m
def Goes.no{w:Nat}{t:Str->Int}{s:Stp}{u:MV}(h:Goes w (wc s) t s v u)(j:v=Zk (wc s))(y:∃z,XI (wc s) z=wf):False:=by
 have⟨z,l⟩:=y;rcases h with⟨h,_⟩|⟨f,T,rfl,h,_⟩|⟨f,x,m,rfl,h,_⟩
 .rw[h z]at l;cases l
 .have:=congrArg tlen (h.symm.trans j);cases this
 .have:=congrArg tlen (h.symm.trans j);cases this
def Goes.uni{w:Nat}{l:Str->Int}{s:Stp}{t j:MV}(h:Goes w (wc s) l s v t)(g:Goes w (wc s) l s v j):t=j:=by
 rcases h with⟨h,_,rfl⟩|⟨f,T,rfl,h,rfl⟩|⟨f,x,m,rfl,h,rfl⟩
 .rcases g with⟨_,_,rfl⟩|⟨_,_,_,_,rfl⟩|⟨f,x,m,rfl,_⟩
  .rfl
  .rfl
  .have:=h f;rw[show XI (wc (Stp.take f x)) f=wf from decide_eq_true rfl]at this;cases this
 .rcases g with⟨_,_,rfl⟩|⟨_,_,_,_,rfl⟩|⟨f,x,m,e,_⟩
  .rfl
  .rfl
  .cases e
 .rcases g with⟨h,_⟩|⟨_,_,e,_⟩|⟨_,_,_,_,g,rfl⟩
  .have:=h f;rw[show XI (wc (Stp.take f x)) f=wf from decide_eq_true rfl]at this;cases this
  .cases e
  .have:=h.symm.trans g;injection this with this;injection this with _ this;injection this with _ this;injection this with this _
def _mR(h:GoTo W M M1 r R R' bs i n kvs o v)(g:GoTo W N N1 s S S' cs i n kvs o v):(R'={R with bs:=bs,m:=R.m+1}/\S'={S with bs:=cs,m:=S.m+1})\/∃j p q d e K,R'=goR {R with bs:=bs,m:=R.m+1} i j p d/\S'=goR {S with bs:=cs,m:=S.m+1} i j q e/\M1 p=wc (.dic K)/\N1 q=wc (.dic K):=by
 rcases h with⟨rfl,t,u⟩|⟨st,z,j,p,d,rfl,rfl,_,c,f,_,l⟩
 .rcases g with⟨rfl,_,_⟩|⟨st,z,j,p,d,rfl,_,_,_,_,_,l⟩
  .erw[.inl ⟨rfl,rfl⟩]
  .erw[(Goes.no l t (u _ rfl)).elim]
 .rcases g with⟨rfl,t,u⟩|⟨L,O,P,q,e,T,rfl,_,w,U,_,y⟩
  .erw[(Goes.no l t (u _ rfl)).elim]
  .cases T;obtain rfl:=Goes.uni l y;have Y:j=P:=by have:=c.symm.trans w;lia
   subst Y;erw[.inr ⟨_,_,_,_,_,_,rfl,rfl,f,U⟩]
end
def Twin.ring{W:Wld}(G:W.Good){M M1 M2:MH}{r s:Addr}{R S f Y:RunS}{bs Z:List Boat}{i n m:Nat}{z:Str}{g:List (Key×MV)}{o:Option Stp}{v:MV}(B:Both W M r s R S)(T:Twin M R S)(F:Both W M1 r s f S)(B2:Both W M2 r s f Y)(k:Kept M M1 r R f)(I:Kept M1 M2 s S Y)
  (to:BsTo W R.bs bs z R.m m o (rhoK g) W.fer.length)(J:GoTo W M M1 r R f bs i n g o v)(A:BsTo W S.bs Z z S.m m o (rhoK g) W.fer.length)(C:GoTo W M1 M2 s S Y Z i n g o v):Twin M2 f Y:=by
 have w:∀(j:Nat)x y,bs[j]?=wc x->Z[j]?=wc y->x.A=y.A:=λj x y N hy=>by
  have bl:bs.length=W.fer.length:=by rw[<-J.bs];erw[F.a1.bl]
  have O:j<W.fer.length:=by rw[<-bl];erw[(XF.mp N).1]
  have Q:=Xb O;have X:=Xb (show j<R.bs.length by rw[B.a1.bl];erw[O])
  have H:=Xb (show j<S.bs.length by rw[B.a2.bl];erw[O])
  have⟨x',h,e2⟩:=to j _ _ O Q X;have⟨y',e3,e4⟩:=A j _ _ O Q H;rw[N]at h;cases h;rw[hy]at e3;cases e3;rw[e2,e4,T.b j _ _ X H,T.m]
 have D:∀(j:Nat)a u,R.ws[j]?=wc a->M a=wc u->M1 a=wc u:=λj a u t e=>k.fr _ _ e (B.a1.ws_off (Xb (show j<W.isl.length by rw[<-B.a1.wl];erw[(XF.mp t).1])) t)
 have P:∀(j:Nat)a u,f.ws[j]?=wc a->M1 a=wc u->M2 a=wc u:=λj a u t e=>I.fr _ _ e (F.d1 a (RunS.in_ws (Xv t)));have st3:∀(j:Nat)a u,S.ws[j]?=wc a->M a=wc u->M2 a=wc u:=λj a u t e=>I.fr _ _ (k.fr _ _ e (B.d2 a (RunS.in_ws (Xv t)))) (B.a2.ws_off (Xb (show j<W.isl.length by rw[<-B.a2.wl];erw[(XF.mp t).1])) t)
 have L:∀(j:Nat)a,R.ws[j]?=wc a->∃u,M a=wc u:=λj a t=>B.a1.all_some a (RunS.in_ws (Xv t));have U:∀(j:Nat)a b u,R.ws[j]?=wc a->f.ws[j]?=wc a->S.ws[j]?=wc b->M2 a=wc u->M2 b=wc u:=λj a b u t c w e=>by
  have⟨x,N⟩:=L j a t;have:=P j a x c (D j a x t N);rw[this]at e;cases e;erw[st3 j b _ w (T.w j a b _ t w N)]
 rcases _mR J C with⟨rfl,rfl⟩|⟨n',p,q,d,e,K,rfl,rfl,hp,hq⟩
 .erw[⟨congrArg (·+1) T.m,T.n,w,λj a b u t w e=>U j a b u t t w e⟩]
 .erw[⟨congrArg (·+1) T.m,congrArg (λl=>List.set l i n') T.n,w,λj a b u t w e=>?_⟩];have t:(R.ws.set i p)[j]?=wc a:=t;have w:(S.ws.set i q)[j]?=wc b:=w;have c:=t;rw[Zd]at t w;by_cases ej:i=j
  .rw[if_pos ej]at t w;split at t
   .split at w
    .cases t;cases w;rw[P j p _ c hp]at e;cases e;erw[hq]
    .cases w
   .cases t
  .rw[if_neg ej]at t w;erw[U j a b u t c w e]
def GoodN.s{z:Str}(h:GoodN z):z.length<=8/\∀c∈z.cps.toList,c<16^8:=⟨h.2.1,λc j=>by have:=(h.2.2 c j).2;lia⟩
@[reducible]def sg (j:List Int)(W:Wld)(t u r w y:Addr)(l:List (Option MV)):Sm:=wc (.frl (j.map .int))::wc (.int W.w)::wc (.ref t)::wc (.ref u)::wc W.mv::wc (.ref r)::wc (.ref w)::wc (.ref y)::l
structure GoodS (n:Nat)(z:Str):Prop where
 l:z.length<=n
 c:∀c∈z.cps.toList,c<16^8
def Fh{z:Str}:(z++("q":Str)).length=z.length+1:=by
 rw[PySem.strLen_append];rfl
def GoodS.q{n:Nat}{z:Str}(h:GoodS n z):GoodS (n+1) (z++"q"):=by
 erw[⟨by rw[Fh];erw[AY h.l],λc j=>?_⟩]
 rw[Cp,Ya]at j;rcases j with j|j
 .erw[h.c c j]
 .rw[show("q":Str).cps.toList=[113] by decide+kernel,Y9]at j
  subst j;decide
def GoodS.cut{n:Nat}{z:Str}(h:GoodS n z)(lo j:Option Int):GoodS n (cutS z lo j):=⟨XA (Hz z lo j) h.l,λc l=>h.c c (by
 unfold cutS at l;erw[List.mem_of_mem_drop (List.mem_of_mem_take (by simpa using l))])⟩
def GoodS.le{n m:Nat}{z:Str}(h:GoodS n z)(e:n<=m):GoodS m z:=⟨XA h.l e,h.c⟩
theorem Pn{u:Type}{p q:u->Bool}:∀{l:List u},(∀a,q a=wf->p a=wf)->(∃a∈l,p a=wf/\q a=wg)->(l.filter q).length<(l.filter p).length
 |[],_,⟨_,h,_⟩=>by cases h
 |x::l,hq,h=>by
  have le:(l.filter q).length<=(l.filter p).length:=by
   clear h
   induction l with
   |nil=>erw[Xc _]
   |cons y l j=>
    rw[Vn,Vn];cases e:q y with
    |true=>rw[hq y e];erw[AY j]
    |false=>cases p y with
     |true=>erw[Nat.le_succ_of_le j]
     |false=>erw[j]
  rw[Vn,Vn];have⟨a,t,w,z⟩:=h;rcases Xh.mp t with rfl|t
  .rw[w,z];erw[Nat.lt_succ_of_le le]
  .have j:=Pn (l:=l) hq ⟨a,t,w,z⟩;cases e:q x with
   |true=>rw[hq x e];erw[Nat.succ_lt_succ j]
   |false=>cases p x with
    |true=>erw[US j]
    |false=>erw[j]
abbrev CD:SpM:=λy M Q=>∃(n:Nat) (t u:Addr) (j l:List Str),y=[.int n,.ref t,.ref u]/\M t=wc (.lst (j.map MV.str))/\M u=wc (.lst (l.map MV.str))/\j≠ []/\j.length<=7/\l.length<=7/\(∀z∈j,GoodS 8 z)/\(∀z∈l,GoodS 8 z)/\∀x w,SameM M w->x∉j->ShortT x->Q (.str x) w
def Po:MonW CD:=by walk_at "m"
def _8e(T:Txt E):FO E 1 "_law_strange" CD:=by
 erw[T.aJ.ok T.g Po 3 ["number","names","others","name"] (fC T f0) NB (fun vs M Q h=>?_)];have⟨n,L,N,t,u,rfl,O,X,H,v,y7,B,o,q⟩:=h;erw[⟨rfl,?_⟩];show wSs _ _ _ [wc (.int n),wc (.ref L),wc (.ref N),we] M;have P:0<t.length:=AC.mpr H;have rest:∀(x:Str)(w:MH),SameM M w->GoodS 9 x->wSs ([]:List (Str×SpM)) ED {nx:=λ_ w=>Q .non w,rt:=Q} [wc (.int n),wc (.ref L),wc (.ref N),wc (.str x)] w:=by
  intro x M1 g d;delta ED;simp!;obtain⟨J,R⟩:∃J:Nat->Sm->MH->Prop,∀m U w,J m U w↔∃x:Str,m=(t.filter λz=>decide (x.length<=z.length)).length/\GoodS (16 - m) x/\w=M1/\U=[wc (.int n),wc (.ref L),wc (.ref N),wc (.str x)]:=⟨_,λ_ _ _=>Yl⟩;have C:∀p:Str->Bool,(t.filter p).length<=7:=λp=>XA (CJ ..) v;erw[⟨J,⟨_,(R _ _ _).mpr ⟨x,rfl,⟨by have:=d.l;have:=C λz=>decide (x.length<=z.length);lia,d.c⟩,rfl,rfl⟩⟩,?_⟩]
  rintro m U w h;have⟨x,rfl,r,rfl,rfl⟩:=(R _ _ _).mp h;simp!;erw[.inl ⟨_,g _ _ O,rfl,EI t,?_⟩];rw[Cf];by_cases hm:x∈t
  .rw[decide_eq_true hm];simp!;delta Nz;simp!;have W:("q":Str).length=1:=by decide+kernel
   have:=r.l;have:=Pn (l:=t) (p:=fun z=>decide (x.length<=z.length)) (q:=fun z=>decide ((x++("q":Str)).length<=z.length)) (fun a h=>decide_eq_true (by have:=of_decide_eq_true h;rw[Fh]at this;lia)) ⟨x,hm,decide_eq_true (Xc _),decide_eq_false (by rw[Fh];lia)⟩
   erw[⟨by rw[W];lia,_,this,(R _ _ _).mpr ⟨_,rfl,r.q.le (by have:=C λz=>decide (x.length<=z.length);lia),rfl,rfl⟩⟩]
  .rw[decide_eq_false hm];simp!;delta Ny;simp!;erw[q x _ g hm ⟨XA r.l (by lia),r.c⟩]
 have i:((n:Int)/4%((t.map MV.str).length:Int))=((n/4%t.length:Nat):Int):=by rw[X7,Wx,Da];rfl
 have D:n/4%t.length<t.length:=U2 _ P;have b:atI (t.map MV.str) ((n/4%t.length:Nat):Int)=wc (.str t[n/4%t.length]):=Y4 (by rw[Xl,Xb D];rfl)
 have a2:atI (t.map MV.str) 0=wc (.str t[0]):=Y4 (j:=0) (by rw[Xl,Xb P];rfl)
 have F:=B _ (XW D);have G:=B _ (XW P);generalize t[n/4%t.length]=z1 at*;generalize t[0]=z2 at*;delta NB
 simp![O]
 rw[i];erw[⟨by rw[X7];lia,_,b,?_⟩]
 simp![O,a2]
 have W:("q":Str).length=1:=by decide+kernel
 erw[⟨by rw[W];have:=F.l;lia,by have:=G.l;lia,λp hp=>?_⟩]
 have g:=SameM.new hp (.lst [.str (z1++"q"),.str (cutS z2 we (wc (-1))),.str ""]);generalize updM M p _=M1 at*;obtain⟨x,ex,d⟩:∃x,atI [MV.str (z1++"q"),.str (cutS z2 we (wc (-1))),.str ""] ((n:Int)%4%3)=wc (.str x)/\GoodS 9 x:=by
  have Y:((n:Int)%4%3)=((n%4%3:Nat):Int):=by lia
  rw[Y];rcases(by lia:n%4%3=0\/n%4%3=1\/n%4%3=2)with e|e|e<;>rw[e]
  .erw[⟨_,Y4 rfl,F.q⟩]
  .erw[⟨_,Y4 rfl,(G.cut _ _).le (by decide)⟩]
  .erw[⟨_,Y4 rfl,by decide+kernel,fun c I=>by rw[show("":Str).cps.toList=[] by decide+kernel]at I;cases I⟩]
 erw[⟨_,ex,?_⟩];delta NA;simp!;erw[XU (λ_=>?_) λ_=>rest x M1 g d];intro e0 Z;have A:=SameM.new Z (.lst []);have f:=A _ _ (g _ _ X);erw[DY f Xa ?_];generalize updM M1 e0 _=M2 at*;cases u with
 |nil=>erw[rest x M2 (g.trans A) d]
 |cons y u=>
  show wSs _ EE _ _ _;have yl:0<(y::u).length:=Nat.succ_pos _;have S:n/4%(y::u).length<(y::u).length:=U2 _ yl;have Y:((n:Int)/4%(((y::u).map MV.str).length:Int))=((n/4%(y::u).length:Nat):Int):=by rw[X7,Wx,Da];rfl
  have a3:atI ((y::u).map MV.str) ((n/4%(y::u).length:Nat):Int)=wc (.str (y::u)[n/4%(y::u).length]):=Y4 (by rw[Xl,Xb S];rfl)
  have g3:=o _ (XW S);generalize(y::u)[n/4%(y::u).length]=z3 at*;generalize y::u=yy at*;delta EE
  simp![f]
  rw[Y];erw[⟨by rw[X7];lia,_,a3,?_⟩]
  erw[rest z3 M2 (g.trans A) (g3.le (by decide))]
def _mm(T:Txt E){f:Addr}{d:YV}(F:Fn1 E.K "law" J9 f d):FnOk E.P E.w E.K E.mg E.base CX0 60 f d ["script"] (liSp E.K IM):=by
 erw[F.F.okM (scB.fs (n:=1) (N:=["script","width","islands","ferries","world","one","other","ends","name","choice","way","lists"]) (by decide+kernel)) (mC T [("_law_refused",CC),("_law_rings",CB),("_law_strange",CD),("_law_things",Ct),("made",Ch),("Run___init__",Am),("Run_ring",Al)] [("Run___init__",Am),("Run_ring",Al)] [(6,"Run","ring")] [(5,"Run")] (fc (_8f T) (fc (_aq T) (fc (_8e T) (fc (_99 T) (fc (_jN T) f0))))) (fMc Ph (fMc Pc nl0)) (fMc ⟨_,_,rfl,fM (_cm T)⟩ nl0) (fMc ⟨_,_,rfl,fI (_8h T)⟩ nl0)) NM (by decide+kernel) (fun vs M Q h=>?_) (fun vs M Q h=>?_)]
 .have⟨X,rfl,_⟩:=h;rfl
 have⟨X,rfl,h63,q⟩:=h;have hΦ:=(UB (t:=[("_law_refused",CC),("_law_rings",CB),("_law_strange",CD),("_law_things",Ct),("made",Ch),("Run___init__",Am),("Run_ring",Al)]) (fMc Pk (fMc Pi (fMc Po (fMc P4 (fMc Ov (fMc Ph (fMc Pc nl0))))))));show wSs _ _ _ [wc (.frl (X.map .int)),we,we,we,we,we,we,we,we,we,we,we] M;delta NM;simp!;erw[⟨X,3,rfl,λW pi pf H M1 s1 G i1 f1 f2 f3 hpi C hpf=>?_⟩];have i5:=G.i5;have f6:=G.f6;simp!;delta NL
 simp![hpi]
 intro p1 hp1;have s2:=SameM.new hp1 (.lst H);have hp2:updM M1 p1 (.lst H) p1=wc (.lst H):=Xa;generalize updM M1 p1 _=M2 at*;have cD:=s2 _ _ hpf
 simp![cD]
 intro p2 hp3;have s3:=SameM.new hp3 (.lst (W.fer.map Fer.mv));have hp4:updM M2 p2 (.lst (W.fer.map Fer.mv)) p2=wc (.lst (W.fer.map Fer.mv)):=Xa;generalize updM M2 p2 _=M3 at*;erw[ex4 p1 p2 H W ⟨rfl,s3 _ _ hp2,C.keep (s2.trans s3),hp4,G,λM4 s4=>?_⟩];have P:=(s2.trans s3).trans s4;have hpi4:=P _ _ hpi;have cE:=P _ _ hpf;have hIs4:=C.keep P;have hys:∀(i:Nat)I y,W.isl[i]?=wc I->H[i]?=wc y->∃xs,y=.tup (.str I.name::xs):=λi I y a b=>by
  have⟨_,_,e,_⟩:=C.2 i I y a b;erw[⟨_,e⟩]
 have yl:H.length=W.isl.length:=C.1;clear cD hp4 hp2 hp1 hp3 s2 s3 s4 P s1 f1 f2 f3 C hpi hpf
 try walk_at "s"
 delta NK;simp!;intro r hr;have rr:updM M4 r (.ins "Run" []) r=wc (.ins "Run" []):=Xa;have s5:=SameM.new hr (.ins "Run" []);erw[⟨r,W,rfl,rr,G,λR M5 fr5 U hm5 hA5 ho5 hn5 hd5 hw5=>?_⟩];have s45:SameM M4 M5:=λa o e=>fr5 a o (s5 a o e) (by simpa using neM e hr)
 have no5:∀a o,M4 a=wc o->a∉R.own r:=λa o e z=>by
  rcases ho5 a (RunS.in_own z)with rfl|c
  .rw[hr]at e;cases e
  .rw[s5 _ _ e]at c;cases c
 clear fr5 rr s5
 try walk_at "s"
 delta NJ;simp!;intro D hr2;have rr:updM M5 D (.ins "Run" []) D=wc (.ins "Run" []):=Xa;have s6:=SameM.new hr2 (.ins "Run" []);erw[⟨D,W,rfl,rr,G,λR2 M6 fr6 hR6 hm6 hA6 ho6 hn6 hd6 hw6=>?_⟩];have s56:SameM M5 M6:=λa o e=>fr6 a o (s6 a o e) (by simpa using neM e hr2)
 have no6:∀a o,M5 a=wc o->a∉R2.all D:=λa o e z=>by
  rcases ho6 a z with rfl|c
  .rw[hr2]at e;cases e
  .rw[s6 _ _ e]at c;cases c
 have B6:Both W M6 r D R R2:=⟨U.keep s56,hR6,λa ha z=>by have⟨o,e⟩:=U.all_some a ha;erw[no6 a o e (RunS.in_own z)],λa ha z=>by have⟨o,e⟩:=U.own_some a z;erw[no6 a o e ha]⟩
 have T6:Twin M6 R R2:=by
  erw[⟨hm5.trans hm6.symm,hn5.trans hn6.symm,λk x y t l=>?_,λi a b u ha hb e=>?_⟩]
  .have hf:=Xb (show k<W.fer.length by rw[<-U.bl];erw[(XF.mp t).1])
   rw[hA5 k _ _ hf t,hA6 k _ _ hf l]
  .have hI:=Xb (show i<W.isl.length by rw[<-U.wl];erw[(XF.mp ha).1])
   rw[s56 _ _ (hw5 i _ _ hI ha)]at e;cases e;erw[hw6 i _ _ hI hb]
 have l1:=U.ab0_len hA5;have l2:=hR6.ab0_len hA6;have s46:=s45.trans s56;have O6:∀a o,M4 a=wc o->a∉R.own r/\a∉R2.own D:=λa o e=>⟨no5 a o e,λz=>no6 a o (s45 _ _ e) (RunS.in_own z)⟩;clear fr6 rr s6 ho6 hw6 hn6 hd6 hA6 hm6 ho5 hw5 hn5 hd5 hA5 hm5 no5 no6 U hR6 s45 s56
 try walk_at "s"
 delta NI;have Z:=s46 _ _ hpi4;have cG:=s46 _ _ cE;simp!;erw[_L (H.zip W.isl) (·.1) (λx=>.str x.2.name) ?_ ?_ hΦ λY hpn=>?_]
 .simp![Z]
  erw[⟨(List.map_fst_zip (Uq yl)).symm,by rw[AH];lia,Z⟩]
 .rintro⟨y,I⟩ t M' _;have⟨i,h1,h2⟩:=_dZ t;have⟨xs,rfl⟩:=hys i I y h2 h1;simp only[sCm,Xy,YD,Z0,Z1,YC,Yj];simp!
 have en:(H.zip W.isl).map (λx=>MV.str x.2.name)=W.ins.map MV.str:=by
  unfold Wld.ins;rw[Y5]
  conv=>rhs;rw[<-List.map_snd_zip (l₁:=H) (l₂:=W.isl) (Uq yl.symm)]
  rw[Y5];rfl
 rw[en];have s7:=SameM.new hpn (.lst (W.ins.map MV.str));have hn7:updM M6 Y (.lst (W.ins.map MV.str)) Y=wc (.lst (W.ins.map MV.str)):=Xa;generalize updM M6 Y _=M7 at*;have cH:=s7 _ _ cG;erw[_L W.fer Fer.mv (λf=>.str f.name) ?_ ?_ hΦ λS hpq=>?_]
 .simp![cH]
  erw[⟨rfl,by lia,cH⟩]
 .intro f hf M' _;simp only[sCm,Xy,YD,Z0,Z1,YC,Yj]
  simp![Fer.mv]
 have ef:W.fer.map (λf=>MV.str f.name)=W.fns.map MV.str:=by
  unfold Wld.fns;rw[Y5];rfl
 rw[ef];have s8:=SameM.new hpq (.lst (W.fns.map MV.str));have hq8:updM M7 S (.lst (W.fns.map MV.str)) S=wc (.lst (W.fns.map MV.str)):=Xa;generalize updM M7 S _=M8 at*;intro pe hpe;have s9:=SameM.new hpe (.lst [.ref Y,.ref S]);have he9:updM M8 pe (.lst [.ref Y,.ref S]) pe=wc (.lst [.ref Y,.ref S]):=Xa;generalize updM M8 pe _=M9 at*;have B9:=B6.keep (s7.trans (s8.trans s9));have T9:=T6.keep B6 (s7.trans (s8.trans s9));have nn:=B6.free hpn;have nq:=(B6.keep s7).free hpq;have ne:=(B6.keep (s7.trans s8)).free hpe;have s69:=s7.trans (s8.trans s9);delta NH;simp!;intro pc hpc;obtain⟨cs,hcs,cl⟩:∃cs:List Int,cutM (X.map MV.int) (wc 10) (wc 90)=cs.map MV.int/\cs.length<=63:=by
  erw[⟨(X.drop (HT.sIx (X.map MV.int).length 0 (wc 10))).take (HT.sIx (X.map MV.int).length (X.map MV.int).length (wc 90) - HT.sIx (X.map MV.int).length 0 (wc 10)),?_,?_⟩]
  .unfold cutM;rw[List.map_take,List.map_drop]
  .rw[Ys,Wn];lia
 rw[hcs];have s10:=SameM.new hpc (.lst (cs.map MV.int));have hc10:updM M9 pc (.lst (cs.map MV.int)) pc=wc (.lst (cs.map MV.int)):=Xa;generalize updM M9 pc _=M10 at*;have t10:=s69.trans s10;erw[ex5 pc pi cs H W.isl ⟨rfl,hc10,by lia,t10 _ _ Z,(hIs4.keep s46).keep t10,i1,i5,λp rs M11 s11 hp hp11 rl ro=>?_⟩]
 have A:=s10.trans s11;have B11:=B9.keep A;have T11:=T9.keep B9 A;have np:=(B9.keep s10).free hp;obtain⟨L,hL⟩:∃L,L=[(pe,MO.lst [.ref Y,.ref S]),(Y,MO.lst (W.ins.map MV.str)),(S,MO.lst (W.fns.map MV.str)),(p,MO.lst (rs.map rgM))]:=⟨_,rfl⟩;have O11:Offs M11 r D R R2 L:=by
  subst hL;intro x t;simp only[Xh,XM,or_false]at t;rcases t with rfl|rfl|rfl|rfl
  .erw[⟨A _ _ he9,ne⟩]
  .erw[⟨A _ _ (s9 _ _ (s8 _ _ hn7)),nn⟩]
  .erw[⟨A _ _ (s9 _ _ hq8),nq⟩]
  .erw[⟨hp11,np⟩]
 have m1:(pe,MO.lst [.ref Y,.ref S])∈L:=by simp[hL]
 have m2:(Y,MO.lst (W.ins.map MV.str))∈L:=by simp[hL]
 have m3:(S,MO.lst (W.fns.map MV.str))∈L:=by simp[hL]
 have m4:(p,MO.lst (rs.map rgM))∈L:=by simp[hL]
 clear hL np ne nn nq t10 s10 s11 hc10 he9 hn7 hq8 hpq hpn hpe hpc hp s7 s8 s9 s69 B6 B9 T6 T9 hpi4 cE hIs4 Z cG O6 s46 hys en ef A
 simp![hp11]
 obtain⟨J,hJ⟩:∃J:Nat->Sm->MH->Prop,∀j σ M',J j σ M'↔∃(R1 R3:RunS) (v8 v9 v10 v11:Option MV),Both W M' r D R1 R3/\Twin M' R1 R3/\Offs M' r D R1 R3 L/\(∀y∈R1.bs,y.A.ws.length<=j)/\(∀y∈R3.bs,y.A.ws.length<=j)/\σ=sg X W pi pf r D pe [v8,v9,v10,v11]:=⟨_,λ_ _ _=>Yl⟩;erw[⟨J,(hJ _ _ _).mpr (ex6 R R2 _ _ _ _ ⟨B11,T11,O11,l1,l2,rfl⟩),λj σ M' h=>?_,?_,?_⟩]
 .erw[ee6 ((hJ _ _ _).mp h) λ_ _ _ _ _ _ h=>?_];have⟨_,_,O,_⟩:=h;erw[(O _ m4).1]
 .rintro j y σ M12 l h;erw[ee6 ((hJ _ _ _).mp h) λR1 R3 v8 v9 v10 v11 h=>?_];have⟨B,T',O,b1,b3,rfl⟩:=h;have⟨hj,rfl⟩:=_7 (show(rs.map rgM)[j]?=wc y from l);have⟨I,hIm,enm⟩:=ro _ (XW hj);generalize rs[j]=x at*;have⟨i,hi⟩:=CK hIm
  simp![rgM]
  rw[enm];delta NG;simp!;generalize x.2=c at*;have ew:((c:Int)%6)=((c%6:Nat):Int):=by lia
  have w6:c%6<6:=U2 _ (by decide)
  rw[ew];generalize c%6=w at*;have q1:=(O _ m1).1;have q3:=(O _ m3).1;delta NF
  simp![q1,q3]
  intro z1 hz1;have u1:=SameM.new hz1 (.lst [.str "zzzzzzzz"]);generalize updM M12 z1 _=A1 at*;erw[⟨_,u1 _ _ q3,by rw[X7,Cv];lia,λz2 hz2=>?_⟩]
  have u2:=SameM.new hz2 (.lst (W.fns.map MV.str++[.str "zzzzzzzz"]));have d2:updM A1 z2 (.lst (W.fns.map MV.str++[.str "zzzzzzzz"])) z2=wc (.lst (W.fns.map MV.str++[.str "zzzzzzzz"])):=Xa;generalize updM A1 z2 _=A2 at*;have q2:=u2 _ _ (u1 _ _ q1)
  simp![q2]
  intro z3 hz3;have u3:=SameM.new hz3 (.lst [.ref z2,.ref Y]);have d3:updM A2 z3 (.lst [.ref z2,.ref Y]) z3=wc (.lst [.ref z2,.ref Y]):=Xa;generalize updM A2 z3 _=A3 at*;intro z4 hz4;have u4:=SameM.new hz4 (.lst [.ref pe,.ref z3]);generalize updM A3 z4 _=A4 at*;have u:=u1.trans (u2.trans (u3.trans u4));obtain⟨pl,pa,pb,zs,yy,el,hl,ha,hb,zn,z7,y7,gz,gy,n1,n2⟩:∃(pl pa pb:Addr) (zs yy:List Str),atI [MV.ref pe,MV.ref z3] ((w:Int)/4)=wc (.ref pl)/\A4 pl=wc (.lst [.ref pa,.ref pb])/\A4 pa=wc (.lst (zs.map MV.str))/\A4 pb=wc (.lst (yy.map MV.str))/\zs≠ []/\zs.length<=7/\yy.length<=7/\(∀z∈zs,GoodS 8 z)/\(∀z∈yy,GoodS 8 z)/\(w<4->∀z,z∉zs->z∉W.ins)/\(4<=w->∀z,z∉zs->z∉W.fns):=by
   have gi:∀z∈W.ins,GoodS 8 z:=λz g=>⟨(G.ig z g).s.1,(G.ig z g).s.2⟩;have gf:∀z∈W.fns,GoodS 8 z:=λz g=>⟨(G.fg z g).s.1,(G.fg z g).s.2⟩;have li:W.ins.length=W.isl.length:=Vd;have lf:W.fns.length=W.fer.length:=Cv;by_cases w4:w<4
   .have e4:((w:Int)/4)=((0:Nat):Int):=by lia
    rw[e4];erw[ex5 pe Y S W.ins W.fns ⟨Y4 rfl,u _ _ q1,u _ _ (O _ m2).1,u _ _ q3,λz=>by rw[z]at li;simp at li;lia,by lia,by lia,gi,gf,λ_ z h=>h,λz=>by lia⟩]
   .have e4:((w:Int)/4)=((1:Nat):Int):=by lia
    rw[e4];erw[ex5 z3 z2 Y (W.fns++[("zzzzzzzz":Str)]) W.ins ⟨Y4 rfl,u4 _ _ d3,?_,u _ _ (O _ m2).1,by simp,by rw[Yf,lf];simp;lia,by lia,fun z g=>?_,gi,fun z=>absurd z w4,fun _ z h y=>h (AA _ y)⟩]
    .rw[XX];erw[u4 _ _ (u3 _ _ d2)]
    .rcases Ya.mp g with g|g
     .erw[gf z g]
     .rw[Y9]at g;subst g;erw[⟨by decide+kernel,by decide+kernel⟩]
  erw[⟨_,el,?_⟩];delta NE
  simp![hl]
  have e6:((c:Int)/6)=((c/6:Nat):Int):=by lia
  rw[e6];erw[ex5 (c/6) pa pb zs yy ⟨rfl,ha,hb,zn,z7,y7,gz,gy,λz M13 s13 nz g=>?_⟩];have v:=u.trans s13
  try walk_at "s"
  erw[ex4 r w z (.int c) ⟨rfl,w6,λw4=>⟨W,R1,_,B.a1.keep v,n1 w4 z nz,g⟩,λw4=>⟨W,R1,_,B.a1.keep v,n2 w4 z nz,g⟩,λM14 P=>?_⟩];have v:=v.trans P;clear u u1 u2 u3 u4 d2 d3 hz1 hz2 hz3 hz4 q1 q2 q3 el hl ha hb zn gz gy n1 n2 nz g s13 P;have T2:=T'.keep B v;have B2:=B.keep v;have O2:=O.keep v;clear T' B O v
  try walk_at "s"
  erw[ee4 (B2.a1.isl hi) λn1 a1 kv1 d1 h=>?_];have⟨hn1,ha1,hk1,_,_⟩:=h;have ob:=B2.a1.ob;delta ND
  simp![ob,runO,valM]
  erw[ex10 r W R1 i I c n1 _ a1 kv1 ⟨rfl,G,B2.a1,hi,λy l=>XA (b1 y l) (by lia),hn1,rfl,ha1,hk1,λbs R1' M15 v pv hR k1 hp1 hpo hps t1 t2 t3=>?_⟩]
  have⟨B3,b1'⟩:=B2.rung hR k1 t1 t3 b1;have O3:=O2.kept k1;erw[ee4 (B2.a2.isl hi) λn2 a2 kv2 d2 h=>?_];have⟨hn2,ha2,_,_,_⟩:=h;have hk2:=k1.fr _ _ (T2.w i a1 a2 _ ha1 ha2 hk1) (B2.d2 a2 (RunS.in_ws (Xv ha2)));have hn3:R3.nums[i]?=wc n1:=by rw[<-T2.n];erw[hn1]
  have ob2:=B3.a2.ob;have po:=(B2.free hp1).2
  try walk_at "s"
  simp![ob2,runO,valM]
  erw[ex10 D W R3 i I c n1 _ a2 kv1 ⟨rfl,G,B3.a2,hi,λy l=>XA (b3 y l) (by lia),hn3,rfl,ha2,hk2,λbs2 R3' M16 v' pv2 hR' k2 _ _ hps2 t1' t2' t3'=>?_⟩]
  have bl:R3.bs.length=R1.bs.length:=by rw[B2.a2.bl,B2.a1.bl]
  obtain rfl:=_gK G T2.b bl t2 t2';have⟨B4,b3'⟩:=B3.symm.rung hR' k2 t1' t3' b3;have T4:=T2.ring G B2 B3 B4.symm k1 k2 t1 t3 t1' t3';have O4:=(O3.symm.kept k2).symm;have hs:=k2.fr _ _ hps po;rw[<-_j2 T2.b bl]at hps2;have⟨us,rfl,fl⟩:=_er t2
  try walk_at "s"
  erw[IN (m:=3) rfl (Alike.tup rfl λk x y t l=>?_) (by decide) ?_]
  .match k,t,l with
   |0,t,l=>cases t;cases l;erw[Alike.flat _ rfl]
   |1,t,l=>cases t;cases l;erw[Alike.flat _ rfl]
   |2,t,l=>cases t;cases l;erw[Alike.tupFlat 1 fl]
   |3,t,l=>
    cases t;cases l;erw[Alike.lst (n:=1) (.inr ⟨_,rfl,hs⟩) (.inr ⟨_,rfl,hps2⟩) rfl λk u y hu l=>?_];rw[hu]at l;cases l;rw[Xl]at hu;have⟨k',_,rfl⟩:=UZ.mp hu;erw[_eP]
  .try walk_at "s"
   erw[(hJ _ _ _).mpr (ex6 R1' R3' _ _ _ _ ⟨B4.symm,T4,O4,b1',b3',rfl⟩)]
 .rintro σ M12 h;erw[ee6 ((hJ _ _ _).mp h) λR1 R3 v8 v9 v10 v11 h=>?_];have⟨B,T',O,b1,b3,rfl⟩:=h;delta NC;simp!;erw[q _]
end
def all_mk{l:D0}{w:Xe}{K:X1}{h:Heap}{t:Str->Option Value}{m:Addr}(X:K.In h)(G:h.Ns Xi t)(u:t "law"=wc (.ref m)){c r p:Addr}(M:TxM K c r p)(F:TxF K){N O P R U W Y Z A y z:Tok}(g1:Xn K Xi "MOST_WIDTH"=wc (wc (.int 64 N)))(g2:Xn K Xi "MOST_LETTERS"=wc (wc (.int 8 O)))(g3:Xn K Xi "MOST_ISLANDS"=wc (wc (.int 5 P)))(g4:Xn K Xi "MOST_FERRIES"=wc (wc (.int 6 R)))(g5:Xn K Xi "MOST_VARS"=wc (wc (.int 6 U)))(g6:Xn K Xi "MOST_STEPS"=wc (wc (.int 12 W)))(g7:Xn K Xi "MOST_PARTS"=wc (wc (.int 30 Y)))(g8:Xn K Xi "MOST_DEPTH"=wc (wc (.int 8 Z)))(g9:Xn K Xi "MOST_K"=wc (wc (.int 3 A)))(g10:Xn K Xi "MOST_STAGES"=wc (wc (.int 3 y)))(g11:Xn K Xi "BITS_A_FERRY"=wc (wc (.int 8 z)))(xx:exsB K XO XB XC=wf):
  ∃L:YV,(∀(s:X0)(v:Value),BindsTo s L ⟨[v],[]⟩ [("script",v)])/\∀j:Heap,K.In j->j.Ns Xi t->FnOk l.prog w K t j CX0 60 m L ["script"] (BU K):=by
 have T:∀j,Txt ⟨l.prog,w,K,t,j,c,r,p⟩:=λj=>{toTxF:=F,toTxM:=M,g:=(λx v e=>by cases v with|none=>erw[PySem.W.mg_none_of X G e]|some v=>erw[D3 X G e]),gl:=(fMc ⟨_,g1⟩ (fMc ⟨_,g2⟩ (fMc ⟨_,g3⟩ (fMc ⟨_,g4⟩ (fMc ⟨_,g5⟩ (fMc ⟨_,g6⟩ (fMc ⟨_,g7⟩ (fMc ⟨_,g8⟩ (fMc ⟨_,g9⟩ (fMc ⟨_,g10⟩ (fMc ⟨_,g11⟩ nl0))))))))))),ex:=xx}
 have⟨f,d,H⟩:=F.cj;have e:=u.symm.trans (D3 X G H.a);cases e;erw[⟨d,H.bt λ_ _ _ _ _ _ _=>rfl,λj _ _=>_k6 (FnOk.mono (_mm (T j) H) (by decide))⟩]
def walk{l:D0}{q:Xk}{t:List Str}{p:(Str->Option Value)->Heap->Prop}{g:Xe->Heap->Prop}{d:DefRec}{K:Params->X1}(e:l.most=wc 63)(m:d.params.defaults=[])
  (L:∀(w:Xe)(h:Heap),g w h->(K w.params).In h)
  (F:∀(w:Xe)(y:Str->Option Value)(c:Addr)(h:Heap),(K w.params).In h->h.Ns Xi y->y d.name=wc (.ref c)->
   ∃r:YV,(∀(s:X0)(u:Value),BindsTo s r ⟨[u],[]⟩ [("script",u)])/\∀j:Heap,(K w.params).In j->j.Ns Xi y->FnOk l.prog w (K w.params) y j CX0 60 c r ["script"] (BU (K w.params))):
  PySem.W.WalkO q t p g l.row.toRowW d [] (λf N=>PySem.call f N):=
 L2.walk_of (n:=63) (k:=60) (x:="script") (Z:=fun _=>CX0) (A:=fun w=>BU (K w.params)) e (by decide) m ⟨rfl,by decide,by decide⟩ L F (fun _ H a O P R T=>⟨a,O,rfl,_mT R T,P,fun _=>rfl⟩) fun _ _ _ _ _ z=>z
end My
theorem wh:True:=r"#93rZqyp\+aV&](eiUr?DO2;=M:mr~Ivv&yTkoh*B_Pfi2hUae03%l,aL]hsGOygaofd5*Hrt<(Goyu6o#Sf?%CjBJ'Vi~jys3_MNhK~(BN;EaRy7<=uX5VfT~GT>gK2DV)O_TE[up4B>x*sVL#GB`3W3%PbwtjR[t9fDI[Oa>majGY~hb`D7vH_Dr`:H1iE#DkHcuEJRZ\kpFxB;TNer5n#r_DT?<+X:\:Z5#+0[VZkwb2*.Roie_vucB0A?Jg4YZ*H:luKfHDR.h.^_?FJuV[F~q&prq$'>Y(Un4MsQO'crCjcAuX&1PP$?K;6Q'cx_~r<*YwVH^CnT(?J?hphiM6$kV9U4W=.ZsNKxmP2RPyq*A8kn`iyidEKylW;Mr+g1HmRf6^kDibuINYsC_Gk?jP=FVcg^CcfPVV5(&[$lpf3X'*uAMte)lvNL`sjIeT'I]%tF]M0]pSJ2U%ZJ\u4j=FBPca&\TMjno$X^_5eF0g6B*\WRR0<CQVB[[=UX__XxSp=t5=Fl+:P4B4SgOK`FnsChytT8OigO~>hoGQl$7E36yENLv'lp)348vbC9GB$(X]fEQ5Kq&5.M]rP8GTZ48gCIq%_~`5M:i+fxIapR2gqHj+m*74aigLDDvgK#rn,K_%IRlT7=VE5*p:``.\XS&OpSTN(7NZI$gopyb+6gv6#L^d[iETZa0;b\qs58d,4x\avVNMa)T)([#B>[=a*#kDgfRd=VjL4])Q`m;ld``k_M[dDc~GXx0CEWB$c*rK2^7U?%9b0C#J%V`8P=J)m,,c`;(4GLNIZFHpExOU]R;AOU3w6BH`<x$O71yi0fxgK3<'[HgFfK9LQFTrb+U+;`eOwEQ+UxHVvgn0FRxWcv~2[J=c)IkSQ'>=Lib`1`aEs$H%lq^VNMf9D'GSBOu?n<ACe5_3#*07MV%pU'\jiC7C'ASj<7(jAb*n^8Gb,x_rt.aDKHvl1X+C'O]GU;M5+8bNNsC=ef=Q8%b\2dRaD;(mtt:DE3rWH^q%HJ%1'J1lkd_+oqdg<hVIMFUxJGPts8hBJYHXKiWHX\1;lpJM[*YH+:JRYc((f]YLGKqP&q+X(w[S>dHNG;Z'\06vLkuffj4iJ^?Z3<4Z6IhF3,:yh8bWv?br2bMsYnb6c0v~Mn(8)<Ll'?nWkF0=sX`]$xe\S<l32=N6[]cx~~b,+VJ^IrY&.P_>GRP#'kigs.9H)eGgnlQo)j=>Gt7Fd3TC9AD)H8\?,YRXCbHnn`)VsNN;R$A~G$P>Ipl.YIUSND%1sY0xEp%64aRtCD\4oU#m[OR[lSih5I[phhc4X1J6=Ec9XenLK,RYCZ*EhD%`+?>~`k?4x[)aF+M]j*ZeFB_l6;Ca=OPATOId^ytM*7WQ4c#gYfnhp]j=C,T=es07yU%Yf~[u'GKZ3eensnLbdnO8c]+r2#352^(9aGwfx)x>vTw9#LPU`7Um;AJ,1xWQ8~D';_6Il&GC>S9$')Z*Jc*Z<)5yy`wd~ei1h[]wwgKe<A;lSg8**&hT_EsaPkyP+:*?4Bx,m5ES)k30r=(btuhQ,O<JeL:MaA:v*qG4jLq2i&\Aje^EImVihnGZ`Q\#gTZ36vmh.iM&DAov%J]EE0H#a;O^ZM*D##lyUo:4rL:O^wSaKdoqshD<:^o%n(X08C9P4qX&m+A\.9Dh[NoW_l\IU'ro1&m;i`Jc1x9Wb$'J;\Pn.B72dy`eep$[0m<QgQ%Hs65).I<*g1sX+w^E4?y)Ax?e:t3_):&T;+9Qljo`S~GUu$b*MOl1Ci0~9:FDKjvne83?91D']Ki:\N2:JlCufI.J~_v=E;e]Zl)DqXD[b(`O;+j+.so=eaSRd=#^(s'ys8EGDr+tSXFNH(iJ375V*G3)0mD]VBvXM]%g2U=:Yw[9P]j*SjnI?#(<cUsJMfY,q.3Whe3'MHOd]?sH%W*.5=R$2X7Ypy\Alt(Bq[ANPf?fG>MWfdwWUIh_goeppg0yBTo0idC9a4$Qi;.AT>JBRappm=EW6SMV~,R.%vXO.ffy<[>ti&uCHW4'S;\>0Yvf]1;UrM0YW~jKxJfVJ1nAr`CW0.WgknP[Zi\:]=4T[KUNCJcIdSY[XvX8*76^\vj\5NxV>&;gk[Fv)9+c0+o+\OyR`BrjAy%..+8fOr::'E<00:mF;=#2R__l:<ycn`GX*n*Og0$:+7&%HU:K]utOGkONW80NUWo(vGx()l'*xr.cNA[$qWId%ysqs%*$A^kPpo;Rh#J]\O7;cw6=&?0a)hOCEX<?lMyqF#9kxY&UQtQh%T11I?ch#Ah9J()u:N*01%*~v2^Ev):.j&NnQnNH5&Af+71)32<?3Q[ivSp6meN&`0EvI#~gpi[][GA5L&w0S8gg`9E,6NA4%yBZ]C0e_9qbcY*AX=7u5#4?fFxfhfkSN<qxK&ZQhp$*KZ39H,~=\vFe[x4TP73(YB^eFN:yEx3HXK>Yy#[KX>uF^jO_pFc^6C*o==*`uT,Ni6`+sH.cs.`&alEU&]^CW?Zg+:NNIDEF[A43^0`h#<p0r%bGa#6`yw<Vv(cm<yjw:4S<brQhq2o>IqdO;O=?q2gSra<`hs;dEEp_QZD$p.74ni>d_<^njG_#%M.p2)wQu9fg>Jd~n3C+iwfKwmE~wt&h)eU0oPi'S^cwZG_y~^)Zy8B_G=91]KJlXk<Mynv%Oi*N=8K0)%*=BRu`j>(iE+^QSHbRa&Da$m%5L`7lY:AUH?s7x6_'8P^e;gSfM,9s'l+1uw^ywH`P&v4b~S$l\ZMii&k*GVV]3E,Qe?sh7g=cQBW<<Oy]wB'u33gm>o?x\u[9<nLy~~%0A?w>)O6lv'ib1[E6xKYkx`)La*b.mWI)Qsf*?rUDJ1LuvJ)AY*#(JF9,;F_IOWn[9\YD5qltC,OQ&965c>7cwy4sdi*KgQ;fT,_RDNNdYW?BL0Z0V?`>J)E9&&VF?NJ\0n)dKkh[Son$pL($4<3,w$^wa=Q>;9,muJ,)wiJf<Yy<.u'Y%M(8[r'Y8eC[>SH89ppj&b.no5?o[Lf_sjj8HA.<2\=_rpsWOTeF=*`Kp93>d=+%M7CQ7G5~N'#$<0&(1=eRtAVu.Tr]WW69oS,:%~?8GMwF]<KN>XoxPCj<^]>1~LK;3VOWBSv(dZ'2Xu~m.wyh%;H)nVG;>?y9LT0Oy07p3Ah_0%:Mkfj:]rCHO2LB3LUa8t:ZfblDFrQKYy3#>W*k\s~MOdDhT;mY`(,ON45>N[e5[$_D(BJe'*>~omP*5]%<grT>Nsn~#gJh,9*5jBX5B]01,Av)DVm'SFFXporQXRuh<*hqg7[ToHFHt3~<QwHT`ey'SrFlH3wbRi%s<x'UeqND%I]0d0`G<=4+bf._w6_.,#]B#77I5rY=;;GF=VKrB\KvVR5#U*TF\\Nl3qaYv.XG~h0g^e>nvV4a`gq#?wh7>g3T#3W>^X1<9BD)Gm\e86u+GF?1C'~;9\GmjMuAun0:m;AP(hKx%S.^co9#pEJD(6Qm*DIM0nihbH),HFF&v^hfWZkVPK#x]J<3KJ*?X]p_xvRL`\IV\(v?s^;Ccvcj1\g0]M.dW;BD9>]JM7DRDR]Z&A+91,J\LFC+HIIJ'R+iD9yWdXqn(ma')0iJL#uk5IlQquJ1~pX3$oX\qqKglN2pg6X<b8<O#>#LPiHS&YJw0hp;Bdr*i;R*$rX8;MEhYexPvSgr#wNx[%tiSwFy5Rw[fot*DK7AKxYBit=yG6?63H=L,sr[,n.0VJ]eu)N_AI3^:[%ZG0M0vPNkN3l;K~gk[=Q^CJhoSJ,ublo\i*9&axLX?=KV?)f4$$w~BcILo$+9au#Gq2c~w_lYSfSX4C9N(5RM`jQ'k7No.Qm~N`qd+?.Ddj,^g8PdLoU6:m3`8^jkG\d44hOA_>eYw:`Y]8pK$RG?VZi`<97A:M+r1`i$~S<$ijVD\&?B)Eq<(H7ju]nXFJi08p<QYf`5d,k0RVgH$S&1)E5Mm(3^U9GnM;*9#Jo08FyLxkfSCv>W?G<>(j<QlC69(3q7KKCIO$9E)6c+b)ai=]I+iV5#)2V`JJoC>pS^xCWi\,1m&4KcLPS?v09Er9niFD\#McL`EC2*yq?M0VHap9<$&*2t9+>EP7g=otEgWSqQclW3He<?ulvV<j5bKRP9ra72Km7At0,gco4lH[kC]ZVs9Zll_A0Qp[ndf4VO(PVf4Y~?$Vai[7#^alfT^qWnGfbS$$\#yx,4us(q(Z[`g%;LGFy7,3EDe0,%<g9j'3)gvo?VdNg`80)Mi*Co=[Ed=[gqD~$[)jxL~i<D)X4h%Xa?bj>CbAL2_AWveFBG>:VKrq+k,CMLr<#9~6A>[,jOVf3dSB8$?4tE^=y`%n]k<b*s%qKS>pua,XXq>1T*&aa^>d%dwqKntVsp72s^v0YYJq^Stu1j^)2>^WgiDN&)bQN+gIqqfiOd#d)D'NRb(CWN?wOBMgLQh>'u>4\cb^v?F~EDa.H%\\Igd4x(`c;^P~F~`B(G%[V&aZ?rUq7`urGB=iCIkCXiPW3L.qlV?x#Aq9sUNVF6:C_8gV*K`S0vG#De=WiNHu?pFNd:j*X5snH410AncKDcAVF=~OPc^>=R~Z>24EhrgNb\txK&#qGZ#jP6C(QaWd'yNXw4>\vo7Mc,)J+YnT6d]7JMB9=M1:M>KAv8Ytoloa^'qZdKqY4B19d,7Kf?qObml*3__\N%Yoo>7Ot4rcji'X4gp<xDg4j1UaM^^7F+,gmCbAjoXc>ZU1g1t4q($I+*j#$>G1j?;'Fd%WOv;qK8<=N;]`7=0'E1WV8OlyTj1(AQ\k'?DV5lMWMQT)EiGj'DylKcd?OLb7JHfC^jmaSQI;J:JN,bf8ni;ms95pu]'RKAJlIyqTA>.tSLGGmMwFW5<[bl?3&yvLoJiUQO`+FH:_?b3*#`)u:(YylVvv0kM$~Lg\vK7R$L=:SAC>oRLg=cjF%&tJoI#,v\PZ]kE=.)3Vj,ik2\_8>iwZ8xK:JGwQ[14<k+*S(9hEwbW.g9IM:CJSEKFCi4&e1t48(UJsal>ep1e^)O;cu`SV%$6N3vi;:uwYT7,HZy#s;omhy^:6`?FDck6:nZp(*PIZaWRQX\];Ff&w^ah0Vq,](3k.k%W)Um4e~MP$t*\Ovw`s7>IaTE88L:76^N#ko322$C=HiP[_F[Vmi[[Pe*Y_PAoykY6SZwo=%gJ$3)^2U:\0>7h?IpeqX5?<H`QI$S)(N4).YvHeiaUX%lC>>W#,GiYj?GyX?mtdpu9_sh&38Laaa0[#qf#GTI7%7Fi0kFg8ovIAPl71R~BLkMc3qui#;rG`~?#rTf\\6OK6'E;4_jG;X~fdP%11DHnhjurQn4:1.~LmW#:aY$)b):WjxW79Kdi$_rqwgb)iSwS>3?Nd]?5y#D6,jVkm6k#Xp^;]j9=]=5_vPX`\aC>2&E(2:DvoFwY9m%t8%Q9$gFZ^s6aSEmW9$3+b[qw[Cx7*B5OlMDkBKhXO<LH0^K_[<ood*=W3Pb&~>'Ak>3lL:OOSnAtp0~;i*x=Obn,L[=mPUSd7M\ogq6:uf3*0c?YHFbkWP=kSU12\dIV&<1~;(2xE6c;Nh$ZJP=U4d`:ouOhNoZ7Xg3sm&UfW.gLy=4~UyTNKT4MjN6C))OuqINg2f,8~0k7^SR%h`y7ToYQ<6g_1Y);*jveZXb8;Ba5'>HLa,Te(Q0aSYMx^7cvcCS2ikc>:X^p6rHNZldXI,\CC3K,AwLl7vJAsMD;I(<;d%;b]>BjP(8e2GZ4D78#&KvN0`$A~ky6m,mW3<fYd1h8,<cRuwR+`qW+R:%Ha>#?YaMj$4E,9$IQ;&WfTwkH0'+V0755bV57v##UVu&;RN*a$4Qn(~U1E3H=%lj(7J0ox;+39;R8&me4J1~:2EVh<S.iOwIG$M+E<?AgO#&gNBQs;NYS`<qGf_ltnJhf\*cSo<[N+tErQ\a>#cXUfk$'V;K*,92op?C,#h^7>_nIt,nFG)qf*OL??)fc*uHd%3.o':E9r2l83NthaMf$~[%kp*R[DxECTl9'X]f1F~XZV(a9Ejo$B(;1RQeOSjeXlWJlMh,W1)7x$DiL^D?I$EO,p_8a6qy8?FV)5GF\pU2M(tS?hUw\`9M(AeuN6eP$0.E*PS9rTgqipgYY:sG;4qV=k(7>G*[dPyDn(3U[1qBOsKSmK]yd%QFn.?cM1cl.ct_4.E.:Jl:NBL9,ni.Lq)I1NdW<o_W2TAa.(TAl=4.dH,]bLA9KDQXc2mfAfa:?Sb1%aafF\PK:HKl.w?AUGdPm:EZv6gFmB^sO^*vL6x[ksXO~Qv5pORawBYq:g7Set4t$)t.4avn,]DW#P:fmZc.HH^d7T'T>`x5nlu92>3v\N,=pCPf`B*?W0?"
open PySem PySem.W PyProof.Rows
local macro_rules | `(tactic| walk_at "q_fn") => `(tactic| (refine' ⟨_, _, ?a, L2.fun_mk ?l ?c ?k⟩; (case a => k_is); (case l => k_is); (case c => k_is); (case k => k_is)))
local macro_rules | `(tactic| walk_at "q_mt") => `(tactic| (refine' ⟨_, _, L2.mt_mk ?a ?i ?l ?c ?k⟩; (case a => k_is); (case i => k_is); (case l => k_is); (case c => k_is); (case k => k_is)))
local macro_rules | `(tactic| walk_at "q_cl") => `(tactic| (refine' ⟨⟨?a, ?b, ?c, ?d⟩, ?e, ?f⟩; (case a => k_is); (case b => k_is); (case c => k_is); (case d => k_is); (case e => k_is); (case f => k_is)))
local macro_rules | `(tactic| walk_at "q_z") => `(tactic| (refine' L2.fMc ?a ?b; (case a => k_is)))
set_option maxRecDepth 100000 in
set_option maxHeartbeats 0 in
theorem PySem.Challenge.cw_bellferry_k55_names_that_nothing_has_holds : PySem.Challenge.rw_bellferry_k55_names_that_nothing_has.Holds := by
 w_on;o_law;k_head;(case hw=>w_witness2)
 k_fill
 refine My.walk (l:=PySem.Challenge.rw_bellferry_k55_names_that_nothing_has) rfl rfl (λw h Y=>PySem.W.kIn_of Y) ?F
 case F=>
  intro w u y h t G j;refine' My.all_mk t G j ?zM ?zF ?g1 ?g2 ?g3 ?g4 ?g5 ?g6 ?g7 ?g8 ?g9 ?g10 ?g11 ?xx
  case zM=>
   constructor
   iterate 3 k_is
   iterate 3 walk_at "q_cl"
   iterate 15 k_is
   iterate 17 walk_at "q_mt"
  case zF=>
   constructor
   iterate 54 walk_at "q_fn"
   .iterate 14 walk_at "q_z"
    exact λ_ h=>nomatch h
  case g1|g2|g3|g4|g5|g6|g7|g8|g9|g10|g11=>k_is
  case xx=>kernel_rfl
